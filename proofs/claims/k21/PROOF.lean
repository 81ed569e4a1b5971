import PyProof.Rows.All
import Wide.All
import OpenK.AllK
import Wide.FinOn
import Lean
import PyProof.EqAt
import PyProof.EqKinds
import PyProof.TupleCall
import PyProof.NeKinds
import PyProof.AttrMissHeap
import KE.KDictOf
import KE.KDictLaws
import PySem.Challenge.RW_recastle_k21_which_rules_fall
set_option Elab.async false
set_option linter.all false
set_option maxRecDepth 100000
namespace L2
open PySem PySem.Spec PyProof.Rows
abbrev Key := Sum Int Str
def keyIs : Key → Value → Bool
  | .inl k, v => Value.isInt k v
  | .inr x, v => Value.isStrOf x v
def keyH (w : World) : Key → Int
  | .inl k => hashInt k
  | .inr x => hashStr w x
theorem keyIs_shape : ∀ {k : Key} {v : Value}, keyIs k v = true → (∃ i t, k = Sum.inl i ∧ v = Value.int i t) ∨ (∃ x t, k = Sum.inr x ∧ v = Value.str x t)
  | .inl i, v, h => by
    obtain ⟨t, e⟩ := Value.isInt_shape (k := i) (v := v) h
    exact .inl ⟨i, t, rfl, e⟩
  | .inr x, v, h => by
    obtain ⟨t, e⟩ := Value.isStrOf_shape (x := x) (v := v) h
    exact .inr ⟨x, t, rfl, e⟩
theorem keyIs_int (i : Int) (t : Tok) : keyIs (.inl i) (.int i t) = true := by simp [keyIs, Value.isInt]
theorem keyIs_str (x : Str) (t : Tok) : keyIs (.inr x) (.str x t) = true := by simp [keyIs, Value.isStrOf]
theorem key_ll (a b : Int) : decide ((Sum.inl a : Key) = Sum.inl b) = (a == b) := by
  by_cases e : a = b
  · subst e; simp
  · have h : ¬ (Sum.inl a : Key) = Sum.inl b := fun q => e (Sum.inl.inj q)
    rw [decide_eq_false h]
    exact (beq_eq_false_iff_ne.mpr e).symm
theorem key_rr (a b : Str) : decide ((Sum.inr a : Key) = Sum.inr b) = decide (a = b) := by
  by_cases e : a = b
  · subst e; simp
  · have h : ¬ (Sum.inr a : Key) = Sum.inr b := fun q => e (Sum.inr.inj q)
    rw [decide_eq_false h, decide_eq_false e]
theorem key_lr (a : Int) (b : Str) : decide ((Sum.inl a : Key) = Sum.inr b) = false := decide_eq_false (fun q => nomatch q)
theorem key_rl (a : Str) (b : Int) : decide ((Sum.inr a : Key) = Sum.inl b) = false := decide_eq_false (fun q => nomatch q)
def mixKind (prog : Program) (w : World) : PySem.KeyKind prog w Key where
  is := keyIs
  hash := keyH w
  inj := fun v a b ha hb => by
    rcases keyIs_shape ha with ⟨i, t, rfl, rfl⟩ | ⟨x, t, rfl, rfl⟩
    · rcases keyIs_shape hb with ⟨j, u, rfl, e⟩ | ⟨y, u, rfl, e⟩
      · injection e with e1 _; rw [e1]
      · exact nomatch e
    · rcases keyIs_shape hb with ⟨j, u, rfl, e⟩ | ⟨y, u, rfl, e⟩
      · exact nomatch e
      · injection e with e1 _; rw [e1]
  byValue := fun k v h => by
    rcases keyIs_shape h with ⟨i, t, rfl, rfl⟩ | ⟨x, t, rfl, rfl⟩ <;> rfl
  pyHash := fun hv h => by
    rcases keyIs_shape hv with ⟨i, t, rfl, rfl⟩ | ⟨x, t, rfl, rfl⟩
    · exact wpAny_pyHash_int h
    · exact wpAny_pyHash_str h
  eqBool := fun hu hv h => by
    rcases keyIs_shape hu with ⟨i, t, rfl, rfl⟩ | ⟨x, t, rfl, rfl⟩
    · rcases keyIs_shape hv with ⟨j, u, rfl, rfl⟩ | ⟨y, u, rfl, rfl⟩
      · rw [key_ll] at h; exact wpAny_eqBool_int h
      · rw [key_lr] at h; exact SeqAt.EqAt.int_str i t y u _ _ _ _ h
    · rcases keyIs_shape hv with ⟨j, u, rfl, rfl⟩ | ⟨y, u, rfl, rfl⟩
      · rw [key_rl] at h; exact SeqAt.EqAt.str_int x t j u _ _ _ _ h
      · rw [key_rr] at h; exact wpAny_eqBool_str h
  «strs» := fun k x t v h => by
    rcases keyIs_shape h with ⟨i, u, rfl, e⟩ | ⟨y, u, rfl, e⟩
    · exact nomatch e
    · injection e with e1 _
      subst e1
      cases v <;> rfl
theorem mixKind_int (prog : Program) (w : World) (i : Int) (t : Tok) : (mixKind prog w).is (.inl i) (.int i t) = true := keyIs_int i t
theorem mixKind_str (prog : Program) (w : World) (x : Str) (t : Tok) : (mixKind prog w).is (.inr x) (.str x t) = true := keyIs_str x t
end L2
namespace L2
open PySem PySem.Spec PyProof.Rows
inductive V where
  | non | bl (b : Bool) | int (i : Int) | str (x : Str) | byt (b : Array UInt8) | flt (b : UInt64) | ref (a : Addr) | ty (n : String)
  deriving DecidableEq
def RelV : V → Value → Prop
  | .non, u => u = Value.none
  | .bl b, u => u = Value.bool b
  | .int i, u => ∃ t, u = Value.int i t
  | .str x, u => ∃ t, u = Value.str x t
  | .byt b, u => ∃ t, u = Value.bytes b t
  | .flt b, u => ∃ t, u = Value.float b t
  | .ref a, u => u = Value.ref a
  | .ty n, u => u = Value.type n
abbrev Vals : List V → List Value → Prop := Paired RelV
theorem Vals.length {xs : List V} {us : List Value} (r : Vals xs us) : xs.length = us.length := Paired.length r
theorem Vals.get : ∀ {xs : List V} {us : List Value} {i : Nat} {x : V}, Vals xs us → xs[i]? = some x → ∃ u, us[i]? = some u ∧ RelV x u
  | _, _, _, _, .nil, e => by simp at e
  | _, _, 0, _, .cons r _, e => by simp at e; subst e; exact ⟨_, rfl, r⟩
  | _, _, i + 1, x, .cons _ t, e => by
    obtain ⟨u, h1, h2⟩ := Vals.get (i := i) (x := x) t (by simpa using e)
    exact ⟨u, by simpa using h1, h2⟩
theorem Vals.set {x : V} {u : Value} (r : RelV x u) : ∀ {xs : List V} {us : List Value} (i : Nat), Vals xs us → Vals (xs.set i x) (us.set i u)
  | _, _, _, .nil => .nil
  | _, _, 0, .cons _ t => .cons r t
  | _, _, i + 1, .cons q t => .cons q (Vals.set r i t)
theorem Vals.append : ∀ {xs ys : List V} {us ws : List Value}, Vals xs us → Vals ys ws → Vals (xs ++ ys) (us ++ ws)
  | _, _, _, _, .nil, s => s
  | _, _, _, _, .cons r t, s => .cons r (Vals.append t s)
theorem Vals.take : ∀ {xs : List V} {us : List Value} (n : Nat), Vals xs us → Vals (xs.take n) (us.take n)
  | _, _, 0, _ => .nil
  | _, _, _ + 1, .nil => .nil
  | _, _, n + 1, .cons r t => .cons r (Vals.take n t)
theorem Vals.drop : ∀ {xs : List V} {us : List Value} (n : Nat), Vals xs us → Vals (xs.drop n) (us.drop n)
  | _, _, 0, r => r
  | _, _, _ + 1, .nil => .nil
  | _, _, n + 1, .cons _ t => Vals.drop n t
def RelO : Option V → Option Value → Prop
  | some v, some u => RelV v u
  | none, none => True
  | _, _ => False
def KV {κ : Type} : List (κ × V) → List (κ × Value) → Prop := Paired fun (p : κ × V) (q : κ × Value) => p.1 = q.1 ∧ RelV p.2 q.2
def kV : Key → V
  | .inl i => .int i
  | .inr x => .str x
inductive HO where
  | lst (xs : List V)
  | tup (xs : List V)
  | dK (kvs : List (Key × V)) | dT (kvs : List (List Key × V))
  | set (S : Int → Bool) (n : Nat)
  | ins (C dx : Addr) (fs : List (Str × V))
  | own (x : Addr)
  | xd (fs : List (Str × V))
  | met (f x : Addr)
  | rng (lo hi : Int)
  | frz (o : Obj) (u : HO)
  | tbl (ps : Array Value)
  | ext (φ : Heap → Prop)
abbrev Hp := Addr → Option HO
def upd (H : Hp) (a : Addr) (o : HO) : Hp := fun b => if b = a then some o else H b
theorem upd_same {H : Hp} {a : Addr} {o : HO} : upd H a o a = some o := by unfold upd; rw [if_pos rfl]
theorem upd_ne {H : Hp} {a b : Addr} {o : HO} (h : b ≠ a) : upd H a o b = H b := by unfold upd; rw [if_neg h]
theorem ne_of {H : Hp} {a b : Addr} {o u : HO} (h : H a = some o) (h' : H b = some u) (d : o ≠ u) : a ≠ b := by
  intro e; subst e; rw [h] at h'; exact d (Option.some.inj h')
theorem ne_of_none {H : Hp} {a b : Addr} {o : HO} (h : H a = some o) (h' : H b = none) : a ≠ b := by
  intro e; subst e; rw [h] at h'; cases h'
section
variable (P : Program) (w : World)
def ObjOk (H : Hp) (h : Heap) (a : Addr) : HO → Prop
  | .lst xs => xs.length ≤ sizeLine ∧ ∃ (its : List Value) (n : Nat), Vals xs its ∧ h.get? a = some { cls := .type "list", data := .seq its.toArray n }
  | .tup xs => xs.length ≤ sizeLine ∧ ∃ its : List Value, Vals xs its ∧ IsTup h a its.toArray
  | .dK kvs => kvs.length ≤ sizeLine ∧ (a == sysModules) = false ∧ ∃ vs, KV kvs vs ∧ h.DictOf (mixKind P w) a vs
  | .dT kvs => kvs.length ≤ sizeLine ∧ (a == sysModules) = false ∧ ∃ xs : List (List Key × Addr × Value),
      Paired (fun (p : List Key × V) (q : List Key × Addr × Value) => p.1 = q.1 ∧ H q.2.1 = some (.tup (p.1.map kV)) ∧ RelV p.2 q.2.2) kvs xs ∧
      ∃ o es ep, h.get? a = some o ∧ o.ExactDict ∧ o.data = .dict es ep ∧ es.toList = xs.map (entryOfKey (tupleKind (mixKind P w))) ∧ (xs.map (·.1)).Nodup
  | .set S n => h.SetOf (intKind P w) a S n
  | .ins C dx fs => H dx = some (.own a) ∧ fs.length ≤ 1000 ∧ dx ≠ a ∧ h.get? a = some (PySem.W.instObj C dx) ∧
      ∃ mA, h.Ns1 dx mA ∧ (∀ f, RelO (fs.lookup f) (mA f)) ∧ PySem.Within mA (fs.map (·.1))
  | .own _ => ∃ o, h.get? a = some o
  | .xd fs => ∃ mA, h.Ns1 a mA ∧ ∀ f, RelO (fs.lookup f) (mA f)
  | .rng lo hi => ∃ t u v, h.get? a = some { cls := .type "range", data := .fields #[.int lo t, .int hi u, .int 1 v] }
  | .frz o u => h.get? a = some o ∧ ObjOk H h a u
  | .tbl ps => h.get? a = some { cls := .none, data := .fields ps }
  | .met f x => h.get? a = some (PySem.W.methodObj (.ref f) (.ref x))
  | .ext φ => φ h ∧ (∃ o, h.get? a = some o) ∧ ∀ h1 h2 : Heap, φ h1 → (∀ o, h1.get? a = some o → h2.get? a = some o) → φ h2
def HOk (H : Hp) (h : Heap) : Prop := ∀ a o, H a = some o → ObjOk P w H h a o
end
section
variable {P : Program} {w : World} {H H' : Hp} {h h' : Heap} {a : Addr} {o : HO}
theorem ObjOk.lt (x : ObjOk P w H h a o) : a < h.objs.size := by
  cases o with
  | lst xs => obtain ⟨_, _, _, _, e⟩ := x; exact Heap.lt_size e
  | tup xs => obtain ⟨_, _, _, p⟩ := x; exact p.lt
  | dK kvs => obtain ⟨_, _, _, _, o, _, _, e, _⟩ := x; exact Heap.lt_size e
  | dT kvs => obtain ⟨_, _, _, _, o, _, _, e, _⟩ := x; exact Heap.lt_size e
  | set S n => obtain ⟨o, _, _, _, e, _⟩ := x; exact Heap.lt_size e
  | ins C dx fs => obtain ⟨_, _, _, e, _⟩ := x; exact Heap.lt_size e
  | own y => obtain ⟨_, e⟩ := x; exact Heap.lt_size e
  | xd fs => obtain ⟨_, ⟨_, _, _, e, _⟩, _⟩ := x; exact Heap.lt_size e
  | rng lo hi => obtain ⟨_, _, _, e⟩ := x; exact Heap.lt_size e
  | frz ob u => obtain ⟨e, _⟩ := x; exact Heap.lt_size e
  | tbl ps => exact Heap.lt_size (show h.get? a = some _ from x)
  | met f y => exact Heap.lt_size (show h.get? a = some _ from x)
  | ext φ => obtain ⟨_, ⟨_, e⟩, _⟩ := x; exact Heap.lt_size e
theorem Paired.mapP {α β : Type} {F G : α → β → Prop} : ∀ {l₁ : List α} {l₂ : List β}, Paired F l₁ l₂ → (∀ a b, F a b → G a b) → Paired G l₁ l₂
  | _, _, .nil, _ => .nil
  | _, _, .cons r t, f => .cons (f _ _ r) (Paired.mapP t f)
theorem ObjOk.stay (x : ObjOk P w H h a o) (k : ∀ b u, (b = a ∨ H b = some (.own a)) → h.get? b = some u → h'.get? b = some u)
    (ho : ∀ b, H b = some (.own a) → H' b = some (.own a)) (ht : ∀ b xs, H b = some (.tup xs) → H' b = some (.tup xs)) : ObjOk P w H' h' a o := by
  induction o with
  | lst xs => obtain ⟨z, its, n, r, e⟩ := x; exact ⟨z, its, n, r, k _ _ (.inl rfl) e⟩
  | tup xs => obtain ⟨z, its, r, ob, e, c⟩ := x; exact ⟨z, its, r, ob, k _ _ (.inl rfl) e, c⟩
  | dK kvs => obtain ⟨z, y, vs, r, ob, es, ep, e, c⟩ := x; exact ⟨z, y, vs, r, ob, es, ep, k _ _ (.inl rfl) e, c⟩
  | dT kvs =>
    obtain ⟨z, y, xs, r, ob, es, ep, e, c⟩ := x
    exact ⟨z, y, xs, Paired.mapP r fun p q z => ⟨z.1, ht _ _ z.2.1, z.2.2⟩, ob, es, ep, k _ _ (.inl rfl) e, c⟩
  | set S n => obtain ⟨ob, es, ep, t, e, c⟩ := x; exact ⟨ob, es, ep, t, k _ _ (.inl rfl) e, c⟩
  | ins C dx fs =>
    obtain ⟨d, z, ne, e, mA, ⟨od, es, ep, e2, c⟩, r⟩ := x
    exact ⟨ho _ d, z, ne, k _ _ (.inl rfl) e, mA, ⟨od, es, ep, k _ _ (.inr d) e2, c⟩, r⟩
  | own y => obtain ⟨ob, e⟩ := x; exact ⟨ob, k _ _ (.inl rfl) e⟩
  | xd fs => obtain ⟨mA, ⟨od, es, ep, e, c⟩, r⟩ := x; exact ⟨mA, ⟨od, es, ep, k _ _ (.inl rfl) e, c⟩, r⟩
  | rng lo hi => obtain ⟨t, u, v, e⟩ := x; exact ⟨t, u, v, k _ _ (.inl rfl) e⟩
  | frz ob u ih => obtain ⟨e, q⟩ := x; exact ⟨k _ _ (.inl rfl) e, ih q⟩
  | tbl ps =>
    have e : h.get? a = some { cls := .none, data := .fields ps } := x
    show h'.get? a = some { cls := .none, data := .fields ps }
    exact k a _ (.inl rfl) e
  | met f y =>
    have e : h.get? a = some (PySem.W.methodObj (.ref f) (.ref y)) := x
    show h'.get? a = some (PySem.W.methodObj (.ref f) (.ref y))
    exact k a _ (.inl rfl) e
  | ext φ => obtain ⟨p, ⟨o, e⟩, st⟩ := x; exact ⟨st _ _ p fun o q => k _ _ (.inl rfl) q, ⟨o, k _ _ (.inl rfl) e⟩, st⟩
theorem HOk.lt (x : HOk P w H h) (e : H a = some o) : a < h.objs.size := (x a o e).lt
theorem HOk.fresh (x : HOk P w H h) (e : h.objs.size ≤ a) : H a = none := by
  cases q : H a with
  | none => rfl
  | some u => exact absurd (Nat.lt_of_lt_of_le (x.lt q) e) (Nat.lt_irrefl _)
theorem HOk.kept (x : HOk P w H h) (k : ∀ b u, h.get? b = some u → h'.get? b = some u) : HOk P w H h' := fun a o e =>
  (x a o e).stay (fun b u _ q => k b u q) (fun _ q => q) fun _ _ q => q
theorem HOk.laid (x : HOk P w H h) (k : ∀ b u, h.get? b = some u → h'.get? b = some u) (hp : h.objs.size ≤ a) (new : ObjOk P w (upd H a o) h' a o) : HOk P w (upd H a o) h' := fun b u e => by
  have hn := x.fresh hp
  by_cases hb : b = a
  · subst hb; rw [upd_same] at e; cases e; exact new
  · rw [upd_ne hb] at e
    exact (x b u e).stay (fun c v _ q => k c v q) (fun c q => by rw [upd_ne (ne_of_none q hn)]; exact q) fun c xs q => by rw [upd_ne (ne_of_none q hn)]; exact q
end
def Rd (H : Hp) (a : Addr) (u : HO) : Prop := H a = some u ∨ ∃ o, H a = some (.frz o u)
theorem Rd.ok {P : Program} {w : World} {H : Hp} {h : Heap} {a : Addr} {u : HO} (r : Rd H a u) (x : HOk P w H h) : ObjOk P w H h a u := by
  rcases r with r | ⟨o, r⟩
  · exact x a u r
  · obtain ⟨_, q⟩ := x a _ r
    exact q
def Mut : Option HO → Prop
  | some (.lst _) => True
  | some (.dK _) => True
  | some (.dT _) => True
  | some (.set _ _) => True
  | some (.ins _ _ _) => True
  | some (.ext _) => True
  | _ => False
section
variable {P : Program} {w : World} {H : Hp} {h h' : Heap} {x e : Addr} {o' : HO}
theorem HOk.write (ok : HOk P w H h) (mu : Mut (H x)) (he : e = x ∨ H e = some (.own x)) (k : ∀ b u, b ≠ e → h.get? b = some u → h'.get? b = some u) (heo : ∃ u, h'.get? e = some u)
    (new : ObjOk P w (upd H x o') h' x o') : HOk P w (upd H x o') h' := fun b u q => by
  have nown : ∀ c y, H c = some (.own y) → c ≠ x := fun c y r z => by subst z; rw [r] at mu; exact mu
  have ntup : ∀ c xs, H c = some (.tup xs) → c ≠ x := fun c xs r z => by subst z; rw [r] at mu; exact mu
  by_cases hb : b = x
  · subst hb; rw [upd_same] at q; cases q; exact new
  · rw [upd_ne hb] at q
    by_cases hbe : b = e
    · have q' : H b = some (.own x) := by
        rcases he with z | z
        · exact absurd (hbe.trans z) hb
        · rw [hbe]; exact z
      rw [q] at q'; cases q'
      obtain ⟨v, hv⟩ := heo
      exact ⟨v, by rw [hbe]; exact hv⟩
    · refine (ok b u q).stay (fun c v hc r => k c v ?_ r) (fun c r => by rw [upd_ne (nown c b r)]; exact r) fun c xs r => by rw [upd_ne (ntup c xs r)]; exact r
      rcases hc with rfl | hc
      · exact hbe
      · rintro rfl
        rcases he with z | z
        · exact nown c b hc z
        · rw [hc] at z; cases z; exact hb rfl
end
structure Un (fs ex : List Addr) (H H' : Hp) (h h' : Heap) : Prop where
  keep : ∀ b o, h.get? b = some o → H b = none → b ∉ fs → b ∉ ex → h'.get? b = some o
  slot : ∀ b o, h.get? b = some o → H b = none → b ∈ fs → b ∉ ex → ∃ sl, h'.get? b = some { o with slots := sl }
  free : ∀ b o, h.get? b = some o → H b = none → b ∉ ex → H' b = none
  there : ∀ b o, h.get? b = some o → b ∉ ex → ∃ o', h'.get? b = some o'
  tups : ∀ b xs, H b = some (.tup xs) → H' b = some (.tup xs)
  frzs : ∀ b o u, H b = some (.frz o u) → H' b = some (.frz o u)
  tbls : ∀ b ps, H b = some (.tbl ps) → ∃ more, H' b = some (.tbl (ps ++ more))
section
variable {fs fs' ex ex' : List Addr} {H H1 H2 : Hp} {h h1 h2 h' : Heap} {a x e : Addr} {o : HO}
theorem Un.any (u : Un fs ex H H1 h h1) {b : Addr} {ob : Obj} (q : h.get? b = some ob) (n : H b = none) (hx : b ∉ ex) : ∃ sl, h1.get? b = some { ob with slots := sl } := by
  by_cases hb : b ∈ fs
  · exact u.slot b ob q n hb hx
  · exact ⟨ob.slots, u.keep b ob q n hb hx⟩
theorem Un.kept (k : ∀ b u, h.get? b = some u → h'.get? b = some u) : Un fs ex H H h h' :=
  ⟨fun b ob q _ _ _ => k b ob q, fun b ob q _ _ _ => ⟨ob.slots, k b ob q⟩, fun _ _ _ n _ => n, fun b ob q _ => ⟨ob, k b ob q⟩, fun _ _ q => q, fun _ _ _ q => q, fun _ ps q => ⟨#[], by rw [q]; simp⟩⟩
theorem Un.refl : Un fs ex H H h h := Un.kept fun _ _ q => q
theorem Un.laid (k : ∀ b u, h.get? b = some u → h'.get? b = some u) (hp : h.objs.size ≤ a) (hn : H a = none) : Un fs ex H (upd H a o) h h' where
  keep := fun b u q _ _ _ => k b u q
  slot := fun b u q _ _ _ => ⟨u.slots, k b u q⟩
  free := fun b u q n _ => by rw [upd_ne (Nat.ne_of_lt (Nat.lt_of_lt_of_le (Heap.lt_size q) hp))]; exact n
  there := fun b u q _ => ⟨u, k b u q⟩
  tups := fun b xs q => by rw [upd_ne (ne_of_none q hn)]; exact q
  frzs := fun b u xs q => by rw [upd_ne (ne_of_none q hn)]; exact q
  tbls := fun b ps q => ⟨#[], by rw [upd_ne (ne_of_none q hn), q]; simp⟩
theorem Un.write (mu : Mut (H x)) (he : e = x ∨ H e = some (.own x)) (k : ∀ b u, b ≠ e → h.get? b = some u → h'.get? b = some u) (heo : ∃ u, h'.get? e = some u) : Un fs ex H (upd H x o) h h' := by
  have hx : ∀ b, H b = none → b ≠ x := fun b n z => by subst z; rw [n] at mu; exact mu
  have hb : ∀ b, H b = none → b ≠ e := fun b n z => by
    subst z
    rcases he with r | r
    · exact hx b n r
    · rw [n] at r; cases r
  have hm : ∀ b u, H b = some u → ¬ Mut (some u) → b ≠ x := fun b u q nm z => by subst z; rw [q] at mu; exact nm mu
  refine ⟨fun b u q n _ _ => k b u (hb b n) q, fun b u q n _ _ => ⟨u.slots, k b u (hb b n) q⟩, fun b u q n _ => by rw [upd_ne (hx b n)]; exact n, fun b u q _ => ?_,
    fun b xs q => by rw [upd_ne (hm b _ q fun z => z)]; exact q, fun b u xs q => by rw [upd_ne (hm b _ q fun z => z)]; exact q, fun b ps q => ⟨#[], by rw [upd_ne (hm b _ q fun z => z), q]; simp⟩⟩
  by_cases hbe : b = e
  · subst hbe; exact heo
  · exact ⟨u, k b u hbe q⟩
end
def trk (h : Heap) (H : Hp) : List Addr := (List.range h.objs.size).filter fun a => (H a).isSome
def hidT (h : Heap) (H : Hp) : Heap := PySem.W.hideAll h (trk h H)
theorem hidT_size (h : Heap) (H : Hp) : (hidT h H).objs.size = h.objs.size := PySem.W.hideAll_size _ _
theorem hidT_get {h : Heap} {H : Hp} {b : Addr} {o : Obj} (e : h.get? b = some o) (n : H b = none) : (hidT h H).get? b = some o :=
  PySem.W.hideAll_get _ e fun hm => by
    have q : (H b).isSome = true := (List.mem_filter.mp hm).2
    rw [n] at q; simp at q
theorem of_hidT {h : Heap} {H : Hp} {b : Addr} {o : Obj} (e : (hidT h H).get? b = some o) : h.get? b = some o ∧ H b = none := by
  have e' : h.get? b = some o := PySem.W.of_hideAll (trk h H) e
  refine ⟨e', ?_⟩
  cases q : H b with
  | none => rfl
  | some x =>
    have hm : b ∈ trk h H := List.mem_filter.mpr ⟨List.mem_range.mpr (Heap.lt_size e'), by simp [q]⟩
    have z : (hidT h H).get? b = none := PySem.W.hideAll_none (trk h H) hm
    rw [z] at e; cases e
def allNews (g h : Heap) (L : Addr) : List (Addr × Obj) := (List.range h.objs.size).filterMap fun a => if a = L ∨ (g.get? a).isSome = true then none else (h.get? a).map fun o => (a, o)
def rest (g h : Heap) (L d : Addr) : List (Addr × Obj) := (allNews g h L).filter fun p => decide (p.1 ≠ d)
end L2
namespace L2
open PySem PySem.Spec PyProof.Rows
structure Mod (K : PySem.W.Frag) (mg : Str → Option Value) (base : Heap) : Prop where
  kin : K.In base
  glob : base.Ns mainGlobals mg
  blt : ∃ mb, base.Ns builtinsNs mb ∧ ∀ x : Str, x ≠ "__name__" → mb x = bootBuiltins x
  nolimit : base.NoLimit
structure Cx where
  prog : Program
  w : World
  K : PySem.W.Frag
  mg : Str → Option Value
  base : Heap
  A : Around
  N : List Str
  s₀ : Shared
  H₀ : Hp
  env : Env
  outer : List Env
  stack : List Env
  ex : List Addr
  fn : Str → Bool
  calm : Bool
  pn : List (Addr × Obj)
  xe : Value → Shared → Prop
def frs (l : List Env) : List Addr := l.filterMap (·.frame)
abbrev Cx.fs (X : Cx) : List Addr := frs X.outer
def Vis (sc : Scope) (x : Str) : Prop := sc.names.lookup x = some .local ∨ sc.names.lookup x = some .cell ∨ sc.names.lookup x = some .free
def Loc (sc : Scope) (x : Str) : Prop := sc.names.lookup x = some .local ∨ sc.names.lookup x = some .cell
def Look (env : Env) (h : Heap) (m : Str → Option Value) (x : Str) (u : Value) : Prop :=
  (env.kindOf x = some .local ∧ m x = some u) ∨ ((env.kindOf x = some .cell ∨ env.kindOf x = some .free) ∧ ∃ c, env.cells.lookup x = some c ∧ h.IsCell c (some u))
structure Cx.Ok (X : Cx) : Prop where
  mod : Mod X.K X.mg X.base
  kind : X.env.scope.kind = .function
  glob : X.env.globals = mainGlobals
  blt : X.env.builtins = builtinsNs
  above : X.s₀.heap.objs.size ≤ X.env.locals
  inj : ∀ x y c, X.env.cells.lookup x = some c → X.env.cells.lookup y = some c → x = y
  has : ∀ x, (X.env.kindOf x = some .cell ∨ X.env.kindOf x = some .free) → ∃ c, X.env.cells.lookup x = some c
  cab : ∀ x c, X.fn x = true → X.env.cells.lookup x = some c → X.s₀.heap.objs.size ≤ c
  hd : X.calm = true → X.A.handled = none
  frames : X.A.frames = some X.stack
  stk : X.stack = X.outer ∨ (X.stack = X.env :: X.outer ∧ X.env.frame = some X.env.locals)
  exf : ∀ b ∈ X.ex, b ≠ X.env.locals ∧ ∀ x c, X.env.cells.lookup x = some c → c ≠ b
  bs : ∀ b o, X.base.get? b = some o → X.s₀.heap.get? b = some o ∧ X.H₀ b = none
  bsz : X.base.objs.size ≤ X.s₀.heap.objs.size
  noex : ∀ b o, X.base.get? b = some o → b ∉ X.ex
  exfs : ∀ b ∈ X.ex, b ∉ X.fs
  funs : X.s₀.heap.FunFrames X.base X.outer
  frf : ∀ b ∈ X.fs, X.H₀ b = none
structure Inv (X : Cx) (pins : List (Addr × Obj)) (σ : List (Option V)) (H : Hp) (s : Shared) : Prop where
  ok : X.Ok
  os : s.os = X.s₀.os
  bare : AllBare s.gens
  base : Un X.fs X.ex X.H₀ H X.s₀.heap s.heap
  loc : ∃ m, s.heap.Ns X.env.locals m ∧ ∀ (i : Nat) (x : Str) (v : V), X.N[i]? = some x → σ[i]? = some (some v) → Vis X.env.scope x → ∃ u, RelV v u ∧ Look X.env s.heap m x u
  cell : ∀ x c, X.env.cells.lookup x = some c → ∃ v, s.heap.IsCell c v
  free : H X.env.locals = none
  freeC : ∀ x c, X.env.cells.lookup x = some c → H c = none
  pin : ∀ p ∈ X.pn ++ pins, s.heap.get? p.1 = some p.2 ∧ H p.1 = none ∧ p.1 ≠ X.env.locals ∧ p.1 ∉ X.fs ∧ ∀ v, p.2.data ≠ .cell v
  hok : HOk X.prog X.w H s.heap
  len : σ.length = X.N.length
section
variable {X : Cx} {pins : List (Addr × Obj)} {σ : List (Option V)} {H H' : Hp} {s : Shared} {h' : Heap}
theorem Cx.Ok.nofr (ok : X.Ok) {b : Addr} {o : Obj} (e : X.base.get? b = some o) : b ∉ X.fs := fun hb => by
  have := (ok.funs.mem hb).1
  rw [e] at this; cases this
theorem Inv.bs (I : Inv X pins σ H s) : ∀ b o, X.base.get? b = some o → s.heap.get? b = some o ∧ H b = none := fun b o e =>
  ⟨I.base.keep b o (I.ok.bs b o e).1 (I.ok.bs b o e).2 (I.ok.nofr e) (I.ok.noex b o e), I.base.free b o (I.ok.bs b o e).1 (I.ok.bs b o e).2 (I.ok.noex b o e)⟩
theorem Inv.bk (I : Inv X pins σ H s) : ∀ b o, X.base.get? b = some o → s.heap.get? b = some o := fun b o e => (I.bs b o e).1
theorem Inv.mod (I : Inv X pins σ H s) : Mod X.K X.mg X.base := I.ok.mod
theorem Inv.kIn (I : Inv X pins σ H s) : X.K.In s.heap := I.ok.mod.kin.keeps I.bk
theorem Inv.lt (I : Inv X pins σ H s) : X.env.locals < s.heap.objs.size := let ⟨_, hn, _⟩ := I.loc; hn.lt
theorem Inv.sz (I : Inv X pins σ H s) : X.s₀.heap.objs.size ≤ s.heap.objs.size := Nat.le_trans I.ok.above (Nat.le_of_lt I.lt)
theorem Inv.nofs (I : Inv X pins σ H s) {a : Addr} (h : s.heap.objs.size ≤ a) : a ∉ X.fs := fun hb => by
  obtain ⟨_, o, ho, _⟩ := I.ok.funs.mem hb
  exact absurd (Nat.lt_of_lt_of_le (Heap.lt_size ho) (Nat.le_trans I.sz h)) (Nat.lt_irrefl _)
theorem Inv.cne (I : Inv X pins σ H s) : ∀ x c, X.env.cells.lookup x = some c → c ≠ X.env.locals := fun x c e z => by
  obtain ⟨v, o, ho, hd⟩ := I.cell x c e
  obtain ⟨m, ⟨o', es, ep, ho', hd', _⟩, _⟩ := I.loc
  rw [z, ho'] at ho; cases ho; rw [hd'] at hd; cases hd
theorem Inv.funs (I : Inv X pins σ H s) : s.heap.FunFrames X.base X.outer := by
  have all : ∀ (l : List Env), (∀ b ∈ frs l, b ∈ X.fs) → X.s₀.heap.FunFrames X.base l → s.heap.FunFrames X.base l := by
    intro l
    induction l with
    | nil => intro _ _; trivial
    | cons env r ih =>
      intro hs hl
      obtain ⟨hk, ⟨L, o, hf, hn, ho, hd⟩, hr⟩ := hl
      have hL : L ∈ X.fs := hs L (by unfold frs; rw [List.filterMap_cons, hf]; exact List.mem_cons_self)
      obtain ⟨sl, e⟩ := I.base.slot L o ho (I.ok.frf L hL) hL fun z => I.ok.exfs L z hL
      exact ⟨hk, ⟨L, _, hf, hn, e, hd⟩, ih (fun b hb => hs b (by unfold frs; rw [List.filterMap_cons, hf]; exact List.mem_cons_of_mem _ hb)) hr⟩
  exact all X.outer (fun _ hb => hb) I.ok.funs
theorem Inv.stack (I : Inv X pins σ H s) : s.heap.FunFrames X.base X.stack := by
  rcases I.ok.stk with e | ⟨e, hf⟩
  · rw [e]; exact I.funs
  · rw [e]
    obtain ⟨m, hn, _⟩ := I.loc
    refine .cons (by rw [I.ok.kind]; decide) hf hn ?_ I.funs
    exact Heap.get?_none_of_le (Nat.le_trans I.ok.bsz I.ok.above)
theorem Inv.stkSub (I : Inv X pins σ H s) : ∀ b ∈ frs X.stack, b ∈ X.env.locals :: X.fs := fun b hb => by
  rcases I.ok.stk with e | ⟨e, hf⟩
  · rw [e] at hb; exact List.mem_cons_of_mem _ hb
  · rw [e] at hb
    unfold frs at hb
    rw [List.filterMap_cons, hf] at hb
    exact hb
theorem Inv.stkFree (I : Inv X pins σ H s) : ∀ b ∈ frs X.stack, H b = none := fun b hb => by
  rcases List.mem_cons.mp (I.stkSub b hb) with e | hb
  · rw [e]; exact I.free
  · obtain ⟨_, o, ho, _⟩ := I.ok.funs.mem hb
    exact I.base.free b o ho (I.ok.frf b hb) fun z => I.ok.exfs b z hb
theorem Inv.step {g' : Array GenState} {t' : Nat} {d' : Drawn} {ch : List Addr} (I : Inv X pins σ H s)
    (hch : ∀ b ∈ ch, (b ∈ X.ex ∨ X.s₀.heap.objs.size ≤ b) ∧ b ≠ X.env.locals ∧ (∀ x c, X.env.cells.lookup x = some c → c ≠ b) ∧ ∀ p ∈ X.pn ++ pins, p.1 ≠ b)
    (keep : ∀ b o, b ≠ X.env.locals → b ∉ X.fs → b ∉ ch → s.heap.get? b = some o → H b = none → h'.get? b = some o)
    (slot : ∀ b o, b ≠ X.env.locals → b ∈ X.fs → b ∉ ch → s.heap.get? b = some o → H b = none → ∃ sl, h'.get? b = some { o with slots := sl }) (free : ∀ b o, b ∉ ch → s.heap.get? b = some o → H b = none → H' b = none)
    (there : ∀ b o, b ∉ ch → s.heap.get? b = some o → ∃ o', h'.get? b = some o')
    (tups : ∀ b xs, H b = some (.tup xs) → H' b = some (.tup xs)) (frzs : ∀ b o u, H b = some (.frz o u) → H' b = some (.frz o u)) (tbls : ∀ b ps, H b = some (.tbl ps) → ∃ more, H' b = some (.tbl (ps ++ more)))
    (ns : ∀ m, s.heap.Ns X.env.locals m → h'.Ns X.env.locals m) (hok : HOk X.prog X.w H' h') (hg : AllBare g') :
    Inv X pins σ H' { s with heap := h', gens := g', drawn := d', toks := t' } := by
  have neL : ∀ b o, X.s₀.heap.get? b = some o → b ≠ X.env.locals := fun b o e => Nat.ne_of_lt (Nat.lt_of_lt_of_le (Heap.lt_size e) I.ok.above)
  have neC : ∀ b o, X.s₀.heap.get? b = some o → b ∉ X.ex → b ∉ ch := fun b o e hx hb => by
    rcases (hch b hb).1 with z | z
    · exact hx z
    · exact absurd (Nat.lt_of_lt_of_le (Heap.lt_size e) z) (Nat.lt_irrefl _)
  have cellK : ∀ x c, X.env.cells.lookup x = some c → ∀ v, s.heap.IsCell c v → h'.IsCell c v := fun x c e v ⟨o, ho, hd⟩ => by
    have nch : c ∉ ch := fun z => (hch c z).2.2.1 x c e rfl
    by_cases hc : c ∈ X.fs
    · obtain ⟨sl, q⟩ := slot c o (I.cne x c e) hc nch ho (I.freeC x c e)
      exact ⟨_, q, hd⟩
    · exact ⟨o, keep c o (I.cne x c e) hc nch ho (I.freeC x c e), hd⟩
  refine ⟨I.ok, I.os, hg, ⟨fun b o e n hb hx => ?_, fun b o e n hb hx => ?_, fun b o e n hx => ?_, fun b o e hx => ?_, fun b xs e => tups b xs (I.base.tups b xs e), fun b o xs e => frzs b o xs (I.base.frzs b o xs e), fun b ps e => ?_⟩, ?_, fun x c e => ?_, ?_, fun x c e => ?_, fun p hp => ?_, hok, I.len⟩
  · exact keep b o (neL b o e) hb (neC b o e hx) (I.base.keep b o e n hb hx) (I.base.free b o e n hx)
  · obtain ⟨sl, e1⟩ := I.base.slot b o e n hb hx
    obtain ⟨sl', e2⟩ := slot b _ (neL b o e) hb (neC b o e hx) e1 (I.base.free b o e n hx)
    exact ⟨sl', e2⟩
  · obtain ⟨o', e1⟩ := I.base.there b o e hx
    exact free b o' (neC b o e hx) e1 (I.base.free b o e n hx)
  · obtain ⟨o', e1⟩ := I.base.there b o e hx
    exact there b o' (neC b o e hx) e1
  · obtain ⟨m1, e1⟩ := I.base.tbls b ps e
    obtain ⟨m2, e2⟩ := tbls b _ e1
    exact ⟨m1 ++ m2, by rw [e2, Array.append_assoc]⟩
  · obtain ⟨m, hn, hl⟩ := I.loc
    refine ⟨m, ns m hn, fun i x v e1 e2 e3 => ?_⟩
    obtain ⟨u, r, l⟩ := hl i x v e1 e2 e3
    refine ⟨u, r, ?_⟩
    rcases l with l | ⟨k, c, e, z⟩
    · exact .inl l
    · exact .inr ⟨k, c, e, cellK x c e _ z⟩
  · obtain ⟨v, z⟩ := I.cell x c e
    exact ⟨v, cellK x c e v z⟩
  · obtain ⟨m, ⟨o, _, _, ho, _⟩, _⟩ := I.loc
    exact free _ o (fun z => (hch _ z).2.1 rfl) ho I.free
  · obtain ⟨v, o, ho, hd⟩ := I.cell x c e
    exact free c o (fun z => (hch c z).2.2.1 x c e rfl) ho (I.freeC x c e)
  · obtain ⟨e, n, ne, nf, d⟩ := I.pin p hp
    have nch : p.1 ∉ ch := fun z => (hch p.1 z).2.2.2 p hp rfl
    exact ⟨keep p.1 p.2 ne nf nch e n, free p.1 p.2 nch e n, ne, nf, d⟩
theorem Inv.un {t' : Nat} (I : Inv X pins σ H s) (u : Un X.fs [] H H' s.heap h') (hok : HOk X.prog X.w H' h') : Inv X pins σ H' { s with heap := h', toks := t' } := by
  obtain ⟨m, ⟨o, es, ep, ho, r⟩, _⟩ := id I.loc
  obtain ⟨sl, hL⟩ := u.any ho I.free (by simp)
  exact I.step (g' := s.gens) (d' := s.drawn) (ch := []) (fun _ z => nomatch z) (fun b o _ hb _ e n => u.keep b o e n hb (by simp)) (fun b o _ hb _ e n => u.slot b o e n hb (by simp)) (fun b o _ e n => u.free b o e n (by simp)) (fun b o _ e => u.there b o e (by simp)) u.tups u.frzs u.tbls (fun m' hm => by
    obtain ⟨o', es', ep', ho', r'⟩ := hm
    rw [ho] at ho'; cases ho'
    exact ⟨_, es', ep', hL, r'⟩) hok I.bare
theorem Inv.call {g' : Array GenState} {t' : Nat} {d' : Drawn} {ch : List Addr} (I : Inv X pins σ H s) (u : Un (frs X.stack) ch H H' s.heap h') (hok : HOk X.prog X.w H' h') (hg : AllBare g')
    (hch : ∀ b ∈ ch, (b ∈ X.ex ∨ X.s₀.heap.objs.size ≤ b) ∧ b ≠ X.env.locals ∧ (∀ x c, X.env.cells.lookup x = some c → c ≠ b) ∧ ∀ p ∈ X.pn ++ pins, p.1 ≠ b) :
    Inv X pins σ H' { s with heap := h', gens := g', drawn := d', toks := t' } := by
  obtain ⟨m, ⟨o, es, ep, ho, r⟩, _⟩ := id I.loc
  obtain ⟨sl, hL⟩ := u.any ho I.free fun z => (hch _ z).2.1 rfl
  exact I.step (ch := ch) hch (fun b o hL hb hc e n => u.keep b o e n (fun z => (List.mem_cons.mp (I.stkSub b z)).elim hL hb) hc) (fun b o _ _ hc e n => u.any e n hc) (fun b o hc e n => u.free b o e n hc) (fun b o hc e => u.there b o e hc) u.tups u.frzs u.tbls (fun m' hm => by
    obtain ⟨o', es', ep', ho', r'⟩ := hm
    rw [ho] at ho'; cases ho'
    exact ⟨_, es', ep', hL, r'⟩) hok hg
theorem Inv.turned {t' : Nat} {it : Addr} (I : Inv X pins σ H s) (k : ∀ b o, b ≠ it → s.heap.get? b = some o → h'.get? b = some o) (hn : H it = none) (hL : it ≠ X.env.locals)
    (h1 : it ∈ X.ex ∨ X.s₀.heap.objs.size ≤ it) (h2 : ∀ x c, X.env.cells.lookup x = some c → c ≠ it) (h3 : ∀ p ∈ X.pn ++ pins, p.1 ≠ it) : Inv X pins σ H { s with heap := h', toks := t' } := by
  have nit : ∀ b u, H b = some u → b ≠ it := fun b u e z => by rw [z, hn] at e; cases e
  refine I.step (g' := s.gens) (d' := s.drawn) (ch := [it]) (fun b hb => ?_) (fun b o _ _ hc e _ => k b o (fun z => hc (by simp [z])) e) (fun b o _ _ hc e _ => ⟨o.slots, k b o (fun z => hc (by simp [z])) e⟩) (fun _ _ _ _ n => n)
    (fun b o hc e => ⟨o, k b o (fun z => hc (by simp [z])) e⟩) (fun _ _ e => e) (fun _ _ _ e => e) (fun b ps e => ⟨#[], by rw [e]; simp⟩) (fun m hm => ?_) (fun b u e => ?_) I.bare
  · have e : b = it := by simpa using hb
    subst e
    exact ⟨h1, hL, h2, h3⟩
  · obtain ⟨o, es, ep, ho, r⟩ := hm
    exact ⟨o, es, ep, k _ o (Ne.symm hL) ho, r⟩
  · refine (I.hok b u e).stay (fun c v hc q => k c v ?_ q) (fun _ q => q) fun _ _ q => q
    rcases hc with z | z
    · rw [z]; exact nit b u e
    · exact nit c _ z
theorem Inv.tok (I : Inv X pins σ H s) (t : Nat) : Inv X pins σ H { s with toks := t } := I.un (h' := s.heap) (t' := t) Un.refl I.hok
theorem Inv.kept {t' : Nat} (I : Inv X pins σ H s) (k : ∀ b u, s.heap.get? b = some u → h'.get? b = some u) : Inv X pins σ H { s with heap := h', toks := t' } := I.un (Un.kept k) (I.hok.kept k)
theorem Inv.laid {a : Addr} {o : HO} {t' : Nat} (I : Inv X pins σ H s) (k : ∀ b u, s.heap.get? b = some u → h'.get? b = some u) (hp : s.heap.objs.size ≤ a) (new : ObjOk X.prog X.w (upd H a o) h' a o) :
    Inv X pins σ (upd H a o) { s with heap := h', toks := t' } := I.un (Un.laid k hp (I.hok.fresh hp)) (I.hok.laid k hp new)
theorem Inv.write {x e : Addr} {o : HO} {t' : Nat} (I : Inv X pins σ H s) (mu : Mut (H x)) (he : e = x ∨ H e = some (.own x)) (k : ∀ b u, b ≠ e → s.heap.get? b = some u → h'.get? b = some u) (heo : ∃ u, h'.get? e = some u)
    (new : ObjOk X.prog X.w (upd H x o) h' x o) : Inv X pins σ (upd H x o) { s with heap := h', toks := t' } := I.un (Un.write mu he k heo) (I.hok.write mu he k heo new)
theorem Inv.weak {σ' : List (Option V)} (I : Inv X pins σ H s) (hl : σ'.length = σ.length) (w : ∀ (i : Nat) v, σ'[i]? = some (some v) → σ[i]? = some (some v)) : Inv X pins σ' H s :=
  ⟨I.ok, I.os, I.bare, I.base, let ⟨m, hn, hl'⟩ := I.loc; ⟨m, hn, fun i x v e1 e2 e3 => hl' i x v e1 (w i v e2) e3⟩, I.cell, I.free, I.freeC, I.pin, I.hok, hl.trans I.len⟩
theorem Inv.pins_of {pins' : List (Addr × Obj)} (I : Inv X pins σ H s) (h : ∀ p ∈ pins', s.heap.get? p.1 = some p.2 ∧ H p.1 = none ∧ p.1 ≠ X.env.locals ∧ p.1 ∉ X.fs ∧ ∀ v, p.2.data ≠ .cell v) : Inv X pins' σ H s :=
  ⟨I.ok, I.os, I.bare, I.base, I.loc, I.cell, I.free, I.freeC, fun p hp => (List.mem_append.mp hp).elim (fun z => I.pin p (List.mem_append_left _ z)) (h p), I.hok, I.len⟩
theorem nodup_ix {N : List Str} (hN : N.Nodup) {i j : Nat} {x : Str} (a : N[i]? = some x) (b : N[j]? = some x) : i = j := by
  obtain ⟨h1, e1⟩ := List.getElem?_eq_some_iff.mp a
  obtain ⟨h2, e2⟩ := List.getElem?_eq_some_iff.mp b
  exact (List.getElem_inj hN).mp (e1.trans e2.symm)
theorem store_ok2 {M : Model} {A : Around} {E : Value → Shared → Prop} {i : Nat} {x : Str} {v : V} {u : Value} {Q : Unit → Shared → Prop} (I : Inv X pins σ H s) (hN : X.N.Nodup) (hi : X.N[i]? = some x) (hx : Loc X.env.scope x) (r : RelV v u)
    (h : ∀ s', Inv X pins (σ.set i (some v)) H s' → (∃ a, Heap.SameBut a s.heap s'.heap ∧ (a = X.env.locals ∨ X.env.cells.lookup x = some a)) → Q () s') (hf : X.fn x = true ∨ X.env.scope.names.lookup x = some .local := by first | exact .inl rfl | exact .inr rfl | assumption) : wpAny M A (storeName X.env x u) Q E s := by
  obtain ⟨m, hn, hl⟩ := id I.loc
  have hcls : (X.env.scope.kind == .class || (X.env.scope.kind == .module && X.env.locals != X.env.globals)) = false := by rw [I.ok.kind]; rfl
  have hiσ : i < σ.length := by rw [I.len]; exact (List.getElem?_eq_some_iff.mp hi).1
  have cne := I.cne
  have tracked : ∀ {a : Addr} {h' : Heap}, (∃ o, s.heap.get? a = some o ∧ H a = none) → Heap.SameBut a s.heap h' → HOk X.prog X.w H h' := fun {a h'} ha hs b ob e => by
    obtain ⟨_, _, hfree⟩ := ha
    refine (I.hok b ob e).stay (fun c w' hc q => (hs.2 c ?_).trans q) (fun _ q => q) fun _ _ q => q
    rintro rfl
    rcases hc with rfl | hc
    · rw [hfree] at e; cases e
    · rw [hfree] at hc; cases hc
  rcases hx with hk | hk
  · refine wpAny_storeName_local hk hn (fun h' hn' hs => ?_) hcls
    obtain ⟨oL, _, _, hoL, _⟩ := id hn
    refine h _ ⟨I.ok, I.os, I.bare, ⟨fun b o e n hb hx => ?_, fun b o e n hb hx => ?_, I.base.free, fun b o e hx => ?_, I.base.tups, I.base.frzs, I.base.tbls⟩, ⟨_, hn', fun j y v' e1 e2 e3 => ?_⟩, fun y c e => ?_, I.free, I.freeC, fun p hp => ?_, tracked ⟨oL, hoL, I.free⟩ hs, by simpa using I.len⟩ ⟨_, hs, .inl rfl⟩
    · exact (hs.2 b (Nat.ne_of_lt (Nat.lt_of_lt_of_le (Heap.lt_size e) I.ok.above))).trans (I.base.keep b o e n hb hx)
    · obtain ⟨sl, e1⟩ := I.base.slot b o e n hb hx
      exact ⟨sl, (hs.2 b (Nat.ne_of_lt (Nat.lt_of_lt_of_le (Heap.lt_size e) I.ok.above))).trans e1⟩
    · obtain ⟨o', e1⟩ := I.base.there b o e hx
      exact ⟨o', (hs.2 b (Nat.ne_of_lt (Nat.lt_of_lt_of_le (Heap.lt_size e) I.ok.above))).trans e1⟩
    · by_cases hj : j = i
      · subst hj
        rw [hi] at e1; cases e1
        rw [List.getElem?_set_self hiσ] at e2
        cases e2
        exact ⟨u, r, .inl ⟨hk, by simp⟩⟩
      · rw [List.getElem?_set_ne (Ne.symm hj)] at e2
        obtain ⟨u', r', q⟩ := hl j y v' e1 e2 e3
        refine ⟨u', r', ?_⟩
        rcases q with ⟨k, e⟩ | ⟨k, c, e, z⟩
        · refine .inl ⟨k, ?_⟩
          have : y ≠ x := fun e => hj (nodup_ix hN e1 (e ▸ hi))
          simp [this, e]
        · exact .inr ⟨k, c, e, z.sameBut hs (cne y c e)⟩
    · obtain ⟨w', z⟩ := I.cell y c e
      exact ⟨w', z.sameBut hs (cne y c e)⟩
    · obtain ⟨e, n, ne, nf, d⟩ := I.pin p hp
      exact ⟨(hs.2 p.1 ne).trans e, n, ne, nf, d⟩
  · have hfn : X.fn x = true := by
      rcases hf with z | z
      · exact z
      · rw [z] at hk; cases hk
    obtain ⟨c, hc⟩ := I.ok.has x (.inl hk)
    obtain ⟨w', z⟩ := I.cell x c hc
    refine wpAny_storeName_cell I.ok.kind hk hc z (fun h' hc' hs => ?_)
    obtain ⟨oc, hoc, hocd⟩ := id z
    refine h { s with heap := h' } ⟨I.ok, I.os, I.bare, ⟨fun b o e n hb hx => ?_, fun b o e n hb hx => ?_, I.base.free, fun b o e hx => ?_, I.base.tups, I.base.frzs, I.base.tbls⟩, ⟨m, hn.sameBut hs (Ne.symm (cne x c hc)), fun j y v' e1 e2 e3 => ?_⟩, fun y c' e => ?_, I.free, I.freeC, fun p hp => ?_, tracked ⟨oc, hoc, I.freeC x c hc⟩ hs, by simpa using I.len⟩ ⟨c, hs, .inr hc⟩
    · exact (hs.2 b (Nat.ne_of_lt (Nat.lt_of_lt_of_le (Heap.lt_size e) (I.ok.cab x c hfn hc)))).trans (I.base.keep b o e n hb hx)
    · obtain ⟨sl, e1⟩ := I.base.slot b o e n hb hx
      exact ⟨sl, (hs.2 b (Nat.ne_of_lt (Nat.lt_of_lt_of_le (Heap.lt_size e) (I.ok.cab x c hfn hc)))).trans e1⟩
    · obtain ⟨o', e1⟩ := I.base.there b o e hx
      exact ⟨o', (hs.2 b (Nat.ne_of_lt (Nat.lt_of_lt_of_le (Heap.lt_size e) (I.ok.cab x c hfn hc)))).trans e1⟩
    · by_cases hj : j = i
      · subst hj
        rw [hi] at e1; cases e1
        rw [List.getElem?_set_self hiσ] at e2
        cases e2
        exact ⟨u, r, .inr ⟨.inl hk, c, hc, hc'⟩⟩
      · rw [List.getElem?_set_ne (Ne.symm hj)] at e2
        obtain ⟨u', r', q⟩ := hl j y v' e1 e2 e3
        refine ⟨u', r', ?_⟩
        rcases q with q | ⟨k, c', e, z'⟩
        · exact .inl q
        · refine .inr ⟨k, c', e, z'.sameBut hs ?_⟩
          rintro rfl
          exact hj (nodup_ix hN e1 (I.ok.inj _ _ _ e hc ▸ hi))
    · by_cases hcc : c' = c
      · subst hcc; exact ⟨_, hc'⟩
      · obtain ⟨w2, z2⟩ := I.cell y c' e
        exact ⟨w2, z2.sameBut hs hcc⟩
    · obtain ⟨e, n, ne, nf, d⟩ := I.pin p hp
      refine ⟨(hs.2 p.1 ?_).trans e, n, ne, nf, d⟩
      intro q
      rw [q, hoc] at e
      have q' : oc = p.2 := Option.some.inj e
      exact d w' (by rw [← q']; exact hocd)
theorem store_ok {M : Model} {A : Around} {E : Value → Shared → Prop} {i : Nat} {x : Str} {v : V} {u : Value} {Q : Unit → Shared → Prop} (I : Inv X pins σ H s) (hN : X.N.Nodup) (hi : X.N[i]? = some x) (hx : Loc X.env.scope x) (r : RelV v u)
    (h : ∀ s', Inv X pins (σ.set i (some v)) H s' → Q () s') (hf : X.fn x = true ∨ X.env.scope.names.lookup x = some .local := by first | exact .inl rfl | exact .inr rfl | assumption) : wpAny M A (storeName X.env x u) Q E s :=
  store_ok2 I hN hi hx r (fun s' I' _ => h s' I') hf
theorem Inv.call' {s' : Shared} {ch : List Addr} (I : Inv X pins σ H s) (ho : s'.os = s.os) (u : Un (frs X.stack) ch H H' s.heap s'.heap) (hok : HOk X.prog X.w H' s'.heap) (hg : AllBare s'.gens)
    (hch : ∀ b ∈ ch, (b ∈ X.ex ∨ X.s₀.heap.objs.size ≤ b) ∧ b ≠ X.env.locals ∧ (∀ x c, X.env.cells.lookup x = some c → c ≠ b) ∧ ∀ p ∈ X.pn ++ pins, p.1 ≠ b) : Inv X pins σ H' s' := by
  obtain ⟨h', g', d', t', o'⟩ := s'
  have e : o' = s.os := ho
  subst e
  exact I.call (g' := g') (t' := t') (d' := d') u hok hg hch
end
abbrev XK := Value → Option Addr → Hp → Prop
abbrev St := List (Option V)
abbrev VK := V → Hp → Prop
abbrev TE := St → Hp → VK → Prop
abbrev TT := St → Hp → (Bool → Hp → Prop) → Prop
abbrev TA := St → Hp → (List V → Hp → Prop) → Prop
structure Ends where
  nx : St → Hp → Prop
  rt : VK
  bk : St → Hp → Prop := fun _ _ => False
  ct : St → Hp → Prop := fun _ _ => False
abbrev TS := Ends → St → Hp → Prop
def EP (X : Cx) (pins : List (Addr × Obj)) (σ : St) (Q : VK) (u : Value) (s' : Shared) : Prop := ∃ v H', Inv X pins σ H' s' ∧ RelV v u ∧ Q v H'
def TP (X : Cx) (pins : List (Addr × Obj)) (σ : St) (Q : Bool → Hp → Prop) (b : Bool) (s' : Shared) : Prop := ∃ H', Inv X pins σ H' s' ∧ Q b H'
def AP (X : Cx) (pins : List (Addr × Obj)) (σ : St) (Q : List V → Hp → Prop) (us : List Value) (s' : Shared) : Prop := ∃ vs H', Inv X pins σ H' s' ∧ Vals vs us ∧ Q vs H'
def SP (X : Cx) (pins : List (Addr × Obj)) (D : Ends) (f : Flow) (s' : Shared) : Prop :=
  match f with
  | .next => ∃ σ' H', Inv X pins σ' H' s' ∧ D.nx σ' H'
  | .brk => ∃ σ' H', Inv X pins σ' H' s' ∧ D.bk σ' H'
  | .cont => ∃ σ' H', Inv X pins σ' H' s' ∧ D.ct σ' H'
  | .ret u => ∃ v σ' H', Inv X pins σ' H' s' ∧ RelV v u ∧ D.rt v H'
def PE (X : Cx) (e : Expr) (t : TE) : Prop :=
  ∀ (pins : List (Addr × Obj)) (s : Shared) (σ : St) (H : Hp) (Q : VK), Inv X pins σ H s → t σ H Q → wpAny (model X.prog X.w) X.A (eval e X.env) (EP X pins σ Q) X.xe s
def PT (X : Cx) (e : Expr) (t : TT) : Prop :=
  ∀ (pins : List (Addr × Obj)) (s : Shared) (σ : St) (H : Hp) (Q : Bool → Hp → Prop), Inv X pins σ H s → t σ H Q → wpAny (model X.prog X.w) X.A (isTrue e X.env (eval e X.env)) (TP X pins σ Q) X.xe s
def PW (X : Cx) (e : Expr) (t : TT) : Prop :=
  ∀ (whole : Sem Value) (pins : List (Addr × Obj)) (s : Shared) (σ : St) (H : Hp) (Q : Bool → Hp → Prop), Inv X pins σ H s → t σ H Q → wpAny (model X.prog X.w) X.A (isTrue e X.env whole) (TP X pins σ Q) X.xe s
theorem PW.pt {X : Cx} {e : Expr} {t : TT} (h : PW X e t) : PT X e t := h _
def PA (X : Cx) (es : List Expr) (t : TA) : Prop :=
  ∀ (pos : Pos) (pins : List (Addr × Obj)) (s : Shared) (σ : St) (H : Hp) (Q : List V → Hp → Prop), Inv X pins σ H s → t σ H Q → wpAny (model X.prog X.w) X.A (spliced (backTo pos (starEach es X.env))) (AP X pins σ Q) X.xe s
def PS (X : Cx) (st : Stmt) (t : TS) : Prop :=
  ∀ (pins : List (Addr × Obj)) (s : Shared) (σ : St) (H : Hp) (D : Ends), Inv X pins σ H s → t D σ H → wpAny (model X.prog X.w) X.A (exec st X.env) (SP X pins D) X.xe s
def PSs (X : Cx) (st : List Stmt) (t : TS) : Prop :=
  ∀ (pins : List (Addr × Obj)) (s : Shared) (σ : St) (H : Hp) (D : Ends), Inv X pins σ H s → t D σ H → wpAny (model X.prog X.w) X.A (execs st X.env) (SP X pins D) X.xe s
theorem thn {α : Type} {t : Sem α} {Q Q' : α → Shared → Prop} {M : Model} {A : Around} {E : Value → Shared → Prop} {s : Shared} (h : wpAny M A t Q E s) (hQ : ∀ a s, Q a s → Q' a s) : wpAny M A t Q' E s := wpAny_mono h hQ fun _ _ x => x
end L2
namespace L2
open PySem PySem.Spec PyProof.Rows
section
variable {X : Cx}
def tVar (i : Nat) : TE := fun σ H Q => ∃ v, σ[i]? = some (some v) ∧ Q v H
def tC (v : V) : TE := fun _ H Q => Q v H
theorem pe_var {i : Nat} {x : Str} {pos : Pos} (hN : X.N[i]? = some x) (hv : Vis X.env.scope x) (hd : (x == ("__debug__" : Str)) = false := by decide) (hcd : (x == ("__classdict__" : Str)) = false := by decide) : PE X (.Name x pos) (tVar i) := by
  intro pins s σ H Q I h
  obtain ⟨v, e, h⟩ := h
  obtain ⟨m, hn, hl⟩ := I.loc
  obtain ⟨u, r, l⟩ := hl i x v hN e hv
  have fin : EP X pins σ Q u s := ⟨v, H, I, r, h⟩
  rcases l with ⟨hk, hm⟩ | ⟨hk, c, hc, hcell⟩
  · exact wpAny_Name (wpAny_loadName_local I.ok.kind hk hn hm fin) hd
  · rcases hk with hk | hk
    · exact wpAny_Name (wpAny_loadName_cell I.ok.kind hk hc hcell fin) hd
    · exact wpAny_Name (wpAny_loadName_free I.ok.kind hk hc hcell fin hcd) hd
theorem pe_int {i j pos} : PE X (.Constant (.int i) j pos) (tC (.int i)) := fun _ _ _ H _ I h => wpAny_Constant_int ⟨.int i, H, I.tok _, ⟨_, rfl⟩, h⟩
theorem pe_bl {b j pos} : PE X (.Constant (.bool b) j pos) (tC (.bl b)) := fun _ _ _ H _ I h => Constant_bool ⟨.bl b, H, I, rfl, h⟩
theorem pe_str {x j pos} : PE X (.Constant (.str x) j pos) (tC (.str x)) := fun _ _ _ H _ I h => Calls.Constant_str ⟨.str x, H, I.tok _, ⟨_, rfl⟩, h⟩
def Gl (X : Cx) (x : Str) : Prop := X.env.kindOf x = some .globalImplicit
theorem ld_glob {E : Value → Shared → Prop} {pins : List (Addr × Obj)} {s : Shared} {σ : St} {H : Hp} {x : Str} {u : Value} {pos : Pos} {Q : Value → Shared → Prop} (I : Inv X pins σ H s) (hg : Gl X x) (hm : X.mg x = some u) (h : Q u s)
    (hd : (x == ("__debug__" : Str)) = false := by decide) : wpAny (model X.prog X.w) X.A (eval (.Name x pos) X.env) Q E s :=
  Calls.Name_function_global I.ok.kind hg (Calls.loadGlobal_global (by rw [I.ok.glob]; exact I.mod.glob.keeps I.bk) hm h) hd
theorem ld_blt {E : Value → Shared → Prop} {pins : List (Addr × Obj)} {s : Shared} {σ : St} {H : Hp} {x : Str} {u : Value} {pos : Pos} {Q : Value → Shared → Prop} (I : Inv X pins σ H s) (hg : Gl X x) (hm : X.mg x = none) (hv : bootBuiltins x = some u) (h : Q u s)
    (hn : x ≠ "__name__" := by decide) (hd : (x == ("__debug__" : Str)) = false := by decide) : wpAny (model X.prog X.w) X.A (eval (.Name x pos) X.env) Q E s := by
  obtain ⟨mb, h1, h2⟩ := I.mod.blt
  exact Calls.Name_function_global I.ok.kind hg (Calls.loadGlobal_builtin (by rw [I.ok.glob]; exact I.mod.glob.keeps I.bk) hm (by rw [I.ok.blt]; exact h1.keeps I.bk) ((h2 x hn).trans hv) h) hd
theorem pe_glob {x : Str} {v : V} {u : Value} {pos : Pos} (hg : Gl X x) (hm : X.mg x = some u) (r : RelV v u) (hd : (x == ("__debug__" : Str)) = false := by decide) : PE X (.Name x pos) (tC v) :=
  fun _ _ _ H _ I h => ld_glob I hg hm ⟨v, H, I, r, h⟩ hd
theorem pe_bltn {x : Str} {v : V} {u : Value} {pos : Pos} (hg : Gl X x) (hm : X.mg x = none) (hv : bootBuiltins x = some u) (r : RelV v u) (hn : x ≠ "__name__" := by decide) (hd : (x == ("__debug__" : Str)) = false := by decide) : PE X (.Name x pos) (tC v) :=
  fun _ _ _ H _ I h => ld_blt I hg hm hv ⟨v, H, I, r, h⟩ hn hd
def t2I (ta tb : TE) (k : Int → Int → Hp → Prop) : St → Hp → Prop := fun σ H => ta σ H fun x H1 => tb σ H1 fun y H2 => ∃ i j, x = .int i ∧ y = .int j ∧ k i j H2
def tAdd (ta tb : TE) : TE := fun σ H Q => t2I ta tb (fun i j H2 => Q (.int (i + j)) H2) σ H
def tSub (ta tb : TE) : TE := fun σ H Q => t2I ta tb (fun i j H2 => Q (.int (i - j)) H2) σ H
def tMul (ta tb : TE) : TE := fun σ H Q => t2I ta tb (fun i j H2 => (-(2 ^ 64) < i ∧ i < 2 ^ 64) ∧ Q (.int (i * j)) H2) σ H
variable {a b : Expr} {ta tb : TE} {pos : Pos}
def PC (X : Cx) (op : CmpOp) (a b : Expr) (t : TE) : Prop :=
  ∀ (pins : List (Addr × Obj)) (s : Shared) (σ : St) (H : Hp) (Q : VK), Inv X pins σ H s → t σ H Q →
    wpAny (model X.prog X.w) X.A (eval a X.env) (fun v s₁ => wpAny (model X.prog X.w) X.A (eval b X.env) (fun u s₂ => wpAny (model X.prog X.w) X.A (compareOp op v u) (EP X pins σ Q) X.xe s₂) X.xe s₁) X.xe s
def tCmp (p : Int → Int → Bool) (ta tb : TE) : TE := fun σ H Q => t2I ta tb (fun i j H2 => Q (.bl (p i j)) H2) σ H
abbrev tLt : TE → TE → TE := tCmp fun i j => decide (i < j)
abbrev tLe : TE → TE → TE := tCmp fun i j => decide (i ≤ j)
abbrev tGt : TE → TE → TE := tCmp fun i j => decide (j < i)
abbrev tGe : TE → TE → TE := tCmp fun i j => decide (j ≤ i)
abbrev tEqI : TE → TE → TE := tCmp fun i j => decide (i = j)
abbrev tNeI : TE → TE → TE := tCmp fun i j => !decide (i = j)
def tIsN (ta : TE) : TE := fun σ H Q => ta σ H fun x H1 => Q (.bl (decide (x = .non))) H1
def tNotN (ta : TE) : TE := fun σ H Q => ta σ H fun x H1 => Q (.bl (!decide (x = .non))) H1
def tB (t : TE) : TT := fun σ H Q => t σ H fun x H1 => ∃ c, x = .bl c ∧ Q c H1
theorem pt_val {e : Expr} {t : TE} (h : PE X e t) (he : ∀ whole, isTrue e X.env whole = (do let v ← whole; standAt e.pos; holding [v] (truthy v)) := by intro _; rfl) : PT X e (tB t) := by
  intro pins s σ H Q I hw
  refine isTrue_plain (thn (h pins s σ H _ I hw) fun v s1 ⟨x, H1, I1, r1, q1⟩ => ?_) (he _)
  obtain ⟨d, rfl, q⟩ := q1
  cases r1
  exact wpAny_truthy_bool ⟨H1, I1, q⟩
variable {tA tB' : TT} {rest : List Expr}
def tAnd (t u : TT) : TT := fun σ H Q => t σ H fun c H1 => if c = true then u σ H1 Q else Q false H1
def tOr (t u : TT) : TT := fun σ H Q => t σ H fun c H1 => if c = true then Q true H1 else u σ H1 Q
def tNot (t : TT) : TT := fun σ H Q => t σ H fun c H1 => Q (!c) H1
theorem pw_and1 (ha : PT X a tA) : PW X (.BoolOp .And [a] pos) tA := by
  intro wh pins s σ H Q I h
  refine isTrue_and (thn (ha pins s σ H Q I h) fun c s1 e => ?_)
  cases c with
  | true => exact isTrue_and_nil e
  | false => exact e
theorem pw_or1 (ha : PT X a tA) : PW X (.BoolOp .Or [a] pos) tA := by
  intro wh pins s σ H Q I h
  refine isTrue_or (thn (ha pins s σ H Q I h) fun c s1 e => ?_)
  cases c with
  | false => exact isTrue_or_nil e
  | true => exact e
theorem pw_and (ha : PT X a tA) (hb : PW X (.BoolOp .And (b :: rest) pos) tB') : PW X (.BoolOp .And (a :: b :: rest) pos) (tAnd tA tB') := by
  intro wh pins s σ H Q I h
  refine isTrue_and (thn (ha pins s σ H _ I h) fun c s1 ⟨H1, I1, q1⟩ => ?_)
  cases c with
  | true => exact hb wh pins s1 σ H1 Q I1 q1
  | false => exact ⟨H1, I1, q1⟩
theorem pw_or (ha : PT X a tA) (hb : PW X (.BoolOp .Or (b :: rest) pos) tB') : PW X (.BoolOp .Or (a :: b :: rest) pos) (tOr tA tB') := by
  intro wh pins s σ H Q I h
  refine isTrue_or (thn (ha pins s σ H _ I h) fun c s1 ⟨H1, I1, q1⟩ => ?_)
  cases c with
  | true => exact ⟨H1, I1, q1⟩
  | false => exact hb wh pins s1 σ H1 Q I1 q1
theorem pt_not (ha : PT X a tA) : PT X (.UnaryOp .Not a pos) (tNot tA) := by
  intro pins s σ H Q I h
  exact isTrue_not (ha pins s σ H (fun c H1 => Q (!c) H1) I h)
def tAndV (ta tb : TE) : TE := fun σ H Q => ta σ H fun x H1 => ∃ c, x = .bl c ∧ if c = true then tb σ H1 Q else Q (.bl false) H1
def tOrV (ta tb : TE) : TE := fun σ H Q => ta σ H fun x H1 => ∃ c, x = .bl c ∧ if c = true then Q (.bl true) H1 else tb σ H1 Q
def tNotV (ta : TE) : TE := fun σ H Q => ta σ H fun x H1 => ∃ c, x = .bl c ∧ Q (.bl (!c)) H1
theorem pe_one {op} {t : TE} (h : PE X a t) : PE X (.BoolOp op [a] pos) t := fun pins s σ H Q I hw => BoolOp_one (h pins s σ H Q I hw)
theorem pe_and (ha : PE X a ta) (hb : PE X (.BoolOp .And (b :: rest) pos) tb) : PE X (.BoolOp .And (a :: b :: rest) pos) (tAndV ta tb) := by
  intro pins s σ H Q I h
  refine BoolOp_and (thn (ha pins s σ H _ I h) fun v s1 ⟨x, H1, I1, r1, q1⟩ => ?_)
  obtain ⟨c, rfl, q1⟩ := q1
  cases r1
  refine wpAny_truthy_bool ?_
  cases c with
  | true => exact hb pins s1 σ H1 Q I1 q1
  | false => exact ⟨.bl false, H1, I1, rfl, q1⟩
theorem pe_not (ha : PE X a ta) : PE X (.UnaryOp .Not a pos) (tNotV ta) := by
  intro pins s σ H Q I h
  refine UnaryOp_ (thn (ha pins s σ H _ I h) fun v s1 ⟨x, H1, I1, r1, q1⟩ => ?_)
  obtain ⟨c, rfl, q1⟩ := q1
  cases r1
  exact not_of (wpAny_truthy_bool ⟨.bl (!c), H1, I1, rfl, q1⟩)
def tIf (t : TT) (ta tb : TE) : TE := fun σ H Q => t σ H fun c H1 => if c = true then ta σ H1 Q else tb σ H1 Q
end
end L2
namespace L2
open PySem PySem.Spec PyProof.Rows
def SqL (K : PySem.W.Frag) (H : Hp) (a : Addr) (xs : List V) : Prop :=
  Rd H a (.lst xs) ∨
    ∃ (o : Obj) (its : Array Value) (n : Nat), K.lookup a = some o ∧ o.cls = .type "list" ∧ o.dict = none ∧ o.data = .seq its n ∧ its.size ≤ sizeLine ∧ Vals xs its.toList
def SqT (K : PySem.W.Frag) (H : Hp) (a : Addr) (xs : List V) : Prop :=
  Rd H a (.tup xs) ∨
    ∃ (o : Obj) (its : Array Value) (n : Nat), K.lookup a = some o ∧ o.cls = .type "tuple" ∧ o.data = .seq its n ∧ its.size ≤ sizeLine ∧ Vals xs its.toList
def absV : Value → Option V
  | .none => some .non
  | .bool b => some (.bl b)
  | .int i _ => some (.int i)
  | .str x _ => some (.str x)
  | .bytes b _ => some (.byt b)
  | .float b _ => some (.flt b)
  | .ref a => some (.ref a)
  | .type n => some (.ty n)
  | _ => none
theorem RelV.abs {x : V} {u : Value} (r : RelV x u) : absV u = some x := by
  cases x with
  | non => cases r; rfl
  | bl _ => cases r; rfl
  | int _ => obtain ⟨t, rfl⟩ := r; rfl
  | str _ => obtain ⟨t, rfl⟩ := r; rfl
  | byt _ => obtain ⟨t, rfl⟩ := r; rfl
  | flt _ => obtain ⟨t, rfl⟩ := r; rfl
  | ref _ => cases r; rfl
  | ty _ => cases r; rfl
theorem RelV.inj {x y : V} {u : Value} (r : RelV x u) (q : RelV y u) : x = y := Option.some.inj (r.abs.symm.trans q.abs)
theorem Vals.inj : ∀ {xs ys : List V} {us : List Value}, Vals xs us → Vals ys us → xs = ys
  | _, _, _, .nil, .nil => rfl
  | _, _, _, .cons r t, .cons r' t' => by rw [r.inj r', Vals.inj t t']
section
variable {X : Cx} {pins : List (Addr × Obj)} {σ : St} {H : Hp} {s : Shared} {a : Addr} {xs ys : List V}
theorem SqL.of {K : PySem.W.Frag} (h : H a = some (.lst xs)) : SqL K H a xs := .inl (.inl h)
theorem SqT.of {K : PySem.W.Frag} (h : H a = some (.tup xs)) : SqT K H a xs := .inl (.inl h)
theorem Inv.list (I : Inv X pins σ H s) (h : SqL X.K H a xs) : ∃ its : List Value, Vals xs its ∧ PlainL s.heap a its.toArray ∧ xs.length ≤ sizeLine := by
  rcases h with h | ⟨o, its, n, hk, hc, hd, hs, hz, r⟩
  · obtain ⟨z, its, n, r, e⟩ := h.ok I.hok
    exact ⟨its, r, ⟨_, n, e, rfl, rfl, rfl⟩, z⟩
  · refine ⟨its.toList, r, ⟨o, n, I.kIn a o hk, hc, hd, by simpa using hs⟩, ?_⟩
    have e := r.length
    simp only [Array.length_toList] at e
    omega
theorem Inv.tuple (I : Inv X pins σ H s) (h : SqT X.K H a xs) : ∃ its : List Value, Vals xs its ∧ IsTup s.heap a its.toArray ∧ xs.length ≤ sizeLine := by
  rcases h with h | ⟨o, its, n, hk, hc, hs, hz, r⟩
  · obtain ⟨z, its, r, p⟩ := h.ok I.hok
    exact ⟨its, r, p, z⟩
  · refine ⟨its.toList, r, ⟨o, I.kIn a o hk, hc, n, by simpa using hs⟩, ?_⟩
    have e := r.length
    simp only [Array.length_toList] at e
    omega
theorem Inv.list_inj (I : Inv X pins σ H s) (h : SqL X.K H a xs) (h' : SqL X.K H a ys) : xs = ys := by
  obtain ⟨its, r, ⟨o, n, e, _, _, d⟩, _⟩ := I.list h
  obtain ⟨its', r', ⟨o', n', e', _, _, d'⟩, _⟩ := I.list h'
  rw [e] at e'; cases e'
  rw [d] at d'
  injection d' with d1 _
  have : its = its' := by simpa using congrArg Array.toList d1
  subst this
  exact r.inj r'
theorem Inv.tuple_inj (I : Inv X pins σ H s) (h : SqT X.K H a xs) (h' : SqT X.K H a ys) : xs = ys := by
  obtain ⟨its, r, ⟨o, e, _, n, d⟩, _⟩ := I.tuple h
  obtain ⟨its', r', ⟨o', e', _, n', d'⟩, _⟩ := I.tuple h'
  rw [e] at e'; cases e'
  rw [d] at d'
  injection d' with d1 _
  have : its = its' := by simpa using congrArg Array.toList d1
  subst this
  exact r.inj r'
end
abbrev Cx.wish (X : Cx) (E : Value → Shared → Prop) : Cx := { X with xe := E }
abbrev Cx.nox (X : Cx) : Cx := X.wish fun _ _ => False
theorem Cx.Ok.wish {X : Cx} (ok : X.Ok) (E : Value → Shared → Prop) : (X.wish E).Ok :=
  ⟨ok.mod, ok.kind, ok.glob, ok.blt, ok.above, ok.inj, ok.has, ok.cab, ok.hd, ok.frames, ok.stk, ok.exf, ok.bs, ok.bsz, ok.noex, ok.exfs, ok.funs, ok.frf⟩
theorem Cx.Ok.unwish {X : Cx} {E : Value → Shared → Prop} (ok : (X.wish E).Ok) : X.Ok :=
  ⟨ok.mod, ok.kind, ok.glob, ok.blt, ok.above, ok.inj, ok.has, ok.cab, ok.hd, ok.frames, ok.stk, ok.exf, ok.bs, ok.bsz, ok.noex, ok.exfs, ok.funs, ok.frf⟩
section
variable {X : Cx} {pins : List (Addr × Obj)} {σ : St} {H : Hp} {s : Shared} {E : Value → Shared → Prop}
theorem Inv.wish (I : Inv X pins σ H s) (E : Value → Shared → Prop) : Inv (X.wish E) pins σ H s := ⟨I.ok.wish E, I.os, I.bare, I.base, I.loc, I.cell, I.free, I.freeC, I.pin, I.hok, I.len⟩
theorem Inv.unwish (I : Inv (X.wish E) pins σ H s) : Inv X pins σ H s := ⟨I.ok.unwish, I.os, I.bare, I.base, I.loc, I.cell, I.free, I.freeC, I.pin, I.hok, I.len⟩
theorem SP.unwish {D : Ends} {f : Flow} {s' : Shared} (h : SP (X.wish E) pins D f s') : SP X pins D f s' := by
  cases f with
  | next => obtain ⟨σ', H', I, q⟩ := h; exact ⟨σ', H', I.unwish, q⟩
  | brk => obtain ⟨σ', H', I, q⟩ := h; exact ⟨σ', H', I.unwish, q⟩
  | cont => obtain ⟨σ', H', I, q⟩ := h; exact ⟨σ', H', I.unwish, q⟩
  | ret u => obtain ⟨v, σ', H', I, r, q⟩ := h; exact ⟨v, σ', H', I.unwish, r, q⟩
theorem PSs.nox {st : List Stmt} {t : TS} (h : PSs X.nox st t) : PSs X st t := fun pins s σ H D I hw =>
  wpAny_mono (h pins s σ H D (I.wish _) hw) (fun _ _ q => q.unwish) fun _ _ z => False.elim z
end
section
variable {X : Cx} {st : Stmt} {rest : List Stmt} {t u : TS} {e : Expr} {te : TE} {pos : Pos}
def tNext : TS := fun D σ H => D.nx σ H
def tSeq (t u : TS) : TS := fun D σ H => t { D with nx := u D } σ H
theorem pss_nil : PSs X [] tNext := fun _ _ σ H _ I h => wpAny_execs_nil ⟨σ, H, I, h⟩
theorem pss_cons (h1 : PS X st t) (h2 : PSs X rest u) : PSs X (st :: rest) (tSeq t u) := by
  intro pins s σ H D I h
  refine wpAny_execs_cons (thn (h1 pins s σ H { D with nx := u D } I h) fun f s1 q => ?_)
  cases f with
  | next =>
    obtain ⟨σ', H', I', q⟩ := q
    exact h2 pins s1 σ' H' D I' q
  | ret v => exact q
  | brk => exact q
  | cont => exact q
theorem pss_one (h1 : PS X st t) : PSs X [st] t := by
  intro pins s σ H D I h
  refine wpAny_execs_cons (thn (h1 pins s σ H D I h) fun f s1 q => ?_)
  cases f with
  | next => exact wpAny_execs_nil q
  | ret v => exact q
  | brk => exact q
  | cont => exact q
def tBreak : TS := fun D σ H => D.bk σ H
def tCont : TS := fun D σ H => D.ct σ H
theorem Inv.quiet {pins : List (Addr × Obj)} {σ : St} {H : Hp} {s : Shared} (I : Inv X pins σ H s) : interactive X.env = false := by simp [interactive, I.ok.kind]
def tDrop (te : TE) : TS := fun D σ H => te σ H fun _ H1 => D.nx σ H1
theorem ps_expr (he : PE X e te) (hs : swapsWith e none pos.line X.env = pure false := by rfl) : PS X (.Expr e pos) (tDrop te) := by
  intro pins s σ H D I h
  exact wpAny_Expr_any (thn (he pins s σ H _ I h) fun v s1 ⟨x, H1, I1, r1, q1⟩ => ⟨σ, H1, I1, q1⟩) I.quiet hs
def tRet (te : TE) : TS := fun D σ H => te σ H D.rt
theorem ps_ret (he : PE X e te) : PS X (.Return (some e) pos) (tRet te) := by
  intro pins s σ H D I h
  exact wpAny_Return_some (thn (he pins s σ H _ I h) fun v s1 ⟨x, H1, I1, r1, q1⟩ => ⟨x, σ, H1, I1, r1, q1⟩)
def tRetN : TS := fun D _ H => D.rt .non H
def tIfS (c : TT) (t u : TS) : TS := fun D σ H => c σ H fun b H1 => if b = true then t D σ H1 else u D σ H1
theorem ps_if {c : Expr} {a b : List Stmt} {tc : TT} (hc : PT X c tc) (ha : PSs X a t) (hb : PSs X b u) : PS X (.If c a b pos) (tIfS tc t u) := by
  intro pins s σ H D I h
  refine wpAny_If (thn (hc pins s σ H _ I h) fun d s1 ⟨H1, I1, q1⟩ => ?_)
  cases d with
  | true => exact ha pins s1 σ H1 D I1 q1
  | false => exact hb pins s1 σ H1 D I1 q1
def tNever : TS := fun _ _ _ => False
theorem ps_never : PS X st tNever := fun _ _ _ _ _ _ h => h.elim
end
abbrev TG := V → St → Hp → (St → Hp → Prop) → Prop
abbrev TGs := List V → St → Hp → (St → Hp → Prop) → Prop
def PG (X : Cx) (target : Expr) (t : TG) : Prop :=
  ∀ (pins : List (Addr × Obj)) (s : Shared) (σ : St) (H : Hp) (v : V) (u : Value) (Q : St → Hp → Prop), Inv X pins σ H s → RelV v u → t v σ H Q →
    wpAny (model X.prog X.w) X.A (assign target X.env u) (fun _ s' => ∃ σ' H', Inv X pins σ' H' s' ∧ Q σ' H') X.xe s
def PGs (X : Cx) (ts : List Expr) (t : TGs) : Prop :=
  ∀ (pins : List (Addr × Obj)) (s : Shared) (σ : St) (H : Hp) (vs : List V) (us : List Value) (Q : St → Hp → Prop), Inv X pins σ H s → Vals vs us → t vs σ H Q →
    wpAny (model X.prog X.w) X.A (assignInOrder ((assignEach ts X.env).map (·.2)) us) (fun _ s' => ∃ σ' H', Inv X pins σ' H' s' ∧ Q σ' H') X.xe s
abbrev TSet := V → V → V → Hp → (Hp → Prop) → Prop
def PSet (X : Cx) (t : TSet) : Prop :=
  ∀ (pins : List (Addr × Obj)) (s : Shared) (σ : St) (H : Hp) (o i v : V) (ov iv u : Value) (Q : Hp → Prop), Inv X pins σ H s → RelV o ov → RelV i iv → RelV v u → t o i v H Q →
    wpAny (model X.prog X.w) X.A (setItem ov iv u) (fun _ s' => ∃ H', Inv X pins σ H' s' ∧ Q H') X.xe s
abbrev TIp := V → V → Hp → VK → Prop
def PIp (X : Cx) (op : Operator) (t : TIp) : Prop :=
  ∀ (pins : List (Addr × Obj)) (s : Shared) (σ : St) (H : Hp) (x y : V) (v u : Value) (Q : VK), Inv X pins σ H s → RelV x v → RelV y u → t x y H Q →
    wpAny (model X.prog X.w) X.A (inplaceOp op v u) (EP X pins σ Q) X.xe s
section
variable {X : Cx} {pos : Pos}
def gName (i : Nat) : TG := fun v σ H Q => Q (σ.set i (some v)) H
theorem pg_name {i : Nat} {x : Str} (hN : X.N.Nodup) (hi : X.N[i]? = some x) (hx : Loc X.env.scope x) (hf : X.fn x = true ∨ X.env.scope.names.lookup x = some .local := by first | exact .inl rfl | exact .inr rfl | assumption) : PG X (.Name x pos) (gName i) := by
  intro pins s σ H v u Q I r h
  exact wpAny_assign_Name (store_ok I hN hi hx r (fun s' I' => ⟨_, H, I', h⟩) hf)
def gNil : TGs := fun vs σ H Q => vs = [] ∧ Q σ H
def gCons (t : TG) (u : TGs) : TGs := fun vs σ H Q => ∃ v r, vs = v :: r ∧ t v σ H fun σ' H' => u r σ' H' Q
theorem pgs_nil : PGs X [] gNil := by
  intro pins s σ H vs us Q I r h
  obtain ⟨e, h⟩ := h
  subst e
  cases r
  exact assignInOrder_nil ⟨σ, H, I, h⟩
theorem pgs_cons {e : Expr} {es : List Expr} {t : TG} {u : TGs} (h1 : PG X e t) (h2 : PGs X es u)
    (hs : (assignEach (e :: es) X.env).map (·.2) = assign e X.env :: (assignEach es X.env).map (·.2) := by rfl) : PGs X (e :: es) (gCons t u) := by
  intro pins s σ H vs us Q I r h
  obtain ⟨v, vr, e1, h⟩ := h
  subst e1
  cases r with
  | cons r rr =>
    rw [hs]
    refine assignInOrder_cons (thn (h1 pins s σ H _ _ _ I r h) fun _ s1 ⟨σ1, H1, I1, q1⟩ => ?_)
    exact h2 pins s1 σ1 H1 _ _ Q I1 rr q1
def gTup (K : PySem.W.Frag) (n : Nat) (t : TGs) : TG := fun v σ H Q => ∃ a xs, v = .ref a ∧ SqT K H a xs ∧ xs.length = n ∧ t xs σ H Q
theorem pg_tup {es : List Expr} {k : Nat} {t : TGs} {n : Nat} (hc : X.calm = true) (h : PGs X es t)
    (hn : (assignEach es X.env).length = n := by rfl) (hst : (assignEach es X.env).findIdx? (·.1) = none := by rfl) : PG X (.Tuple es k pos) (gTup X.K n t) := by
  intro pins s σ H v u Q I r hw
  obtain ⟨a, xs, e1, hq, hl, hw⟩ := hw
  subst e1
  cases r
  obtain ⟨its, rv, ht, hz⟩ := I.tuple hq
  refine assign_Tuple_tuple (I.ok.hd hc) ht (by simp [hn, ← hl, rv.length]) hst fun h' hx => ?_
  have I1 : Inv X pins σ H { s with heap := h' } := I.kept (t' := s.toks) fun b o e => hx b o (Nat.ne_of_lt (Heap.lt_size e)) e
  exact h pins _ σ H xs _ Q I1 (by simpa using rv) hw
def gSub (to ti : TE) (t : TSet) : TG := fun v σ H Q => to σ H fun o H1 => ti σ H1 fun i H2 => t o i v H2 fun H3 => Q σ H3
theorem pg_sub {o i : Expr} {to ti : TE} {t : TSet} (ho : PE X o to) (hi : PE X i ti) (hs : PSet X t)
    (ha : ∀ v, assign (.Subscript o i pos) X.env v = (do
      let ov ← holding [v] (eval o X.env)
      let iv ← holding [v, ov] (eval i X.env)
      standAt pos
      holding [v, ov, iv] (setItem ov iv v)
      release [v, ov, iv] []) := by intro _; rfl) : PG X (.Subscript o i pos) (gSub to ti t) := by
  intro pins s σ H v u Q I r h
  rw [ha]
  refine wpAny_bind (wpAny_holding (thn (ho pins s σ H _ I h) fun ov s1 ⟨x, H1, I1, r1, q1⟩ => ?_))
  refine wpAny_bind (wpAny_holding (thn (hi pins s1 σ H1 _ I1 q1) fun iv s2 ⟨y, H2, I2, r2, q2⟩ => ?_))
  refine wpAny_bind (wpAny_standAt (wpAny_bind (wpAny_holding (thn (hs pins s2 σ H2 x y v ov iv u _ I2 r1 r2 r q2) fun _ s3 ⟨H3, I3, q3⟩ => ?_))))
  exact wpAny_release ⟨σ, H3, I3, q3⟩
def tAsg (te : TE) (g : TG) : TS := fun D σ H => te σ H fun x H1 => g x σ H1 D.nx
theorem ps_asg {tg e : Expr} {te : TE} {g : TG} (he : PE X e te) (hg : PG X tg g) (hs : swapsWithSole [tg] e pos.line X.env = pure false := by rfl) (hw : swappedStores [tg] e X.env = pure none := by rfl)
    (h1 : (assignEach [tg] X.env).map (·.2) = [assign tg X.env] := by rfl) : PS X (.Assign [tg] e pos) (tAsg te g) := by
  intro pins s σ H D I h
  refine wpAny_Assign_stores (thn (he pins s σ H _ I h) fun v s1 ⟨x, H1, I1, r1, q1⟩ => ?_) hs hw
  rw [h1]
  exact thn (hg pins s1 σ H1 x v _ I1 r1 q1) fun _ s2 q => q
theorem ps_set {i : Nat} {x : Str} {e : Expr} {te : TE} {pos' : Pos} (hN : X.N.Nodup) (hi : X.N[i]? = some x) (hx : Loc X.env.scope x) (he : PE X e te) (hs : swapsWith e (some (.Name x pos')) pos.line X.env = pure false := by rfl) (hf : X.fn x = true ∨ X.env.scope.names.lookup x = some .local := by first | exact .inl rfl | exact .inr rfl | assumption) :
    PS X (.Assign [.Name x pos'] e pos) (tAsg te (gName i)) := by
  intro pins s σ H D I h
  refine wpAny_Assign_Name (thn (he pins s σ H _ I h) fun v s1 ⟨y, H1, I1, r1, q1⟩ => ?_) hs
  exact store_ok I1 hN hi hx r1 (fun s2 I2 => ⟨_, H1, I2, q1⟩) hf
def tPar (i j : Nat) (ta : TA) : TS := fun D σ H => ta σ H fun vs H1 => ∃ v w, vs = [v, w] ∧ D.nx ((σ.set i (some v)).set j (some w)) H1
def tAug (i : Nat) (te : TE) (ti : TIp) : TS := fun D σ H => ∃ x, σ[i]? = some (some x) ∧ te σ H fun y H1 => ti x y H1 fun z H2 => D.nx (σ.set i (some z)) H2
def tAugS (to ti te : TE) (tget : V → V → Hp → VK → Prop) (tip : TIp) (tset : TSet) : TS := fun D σ H => to σ H fun o H1 => ti σ H1 fun i H2 => tget o i H2 fun x H3 => te σ H3 fun y H4 => tip x y H4 fun z H5 => tset o i z H5 fun H6 => D.nx σ H6
def PGet (X : Cx) (t : V → V → Hp → VK → Prop) : Prop :=
  ∀ (pins : List (Addr × Obj)) (s : Shared) (σ : St) (H : Hp) (o i : V) (ov iv : Value) (Q : VK), Inv X pins σ H s → RelV o ov → RelV i iv → t o i H Q →
    wpAny (model X.prog X.w) X.A (getItem ov iv) (EP X pins σ Q) X.xe s
def ipI (f : Int → Int → Int) : TIp := fun x y H Q => ∃ i j, x = .int i ∧ y = .int j ∧ Q (.int (f i j)) H
end
section
variable {X : Cx} {pos : Pos}
def tWhile (c : TT) (tb : TS) : TS := fun D σ H => ∃ W : Nat → St → Hp → Prop, (∃ m, W m σ H) ∧ ∀ m σ H, W m σ H →
  c σ H fun b H1 => if b = true then ∃ N : St → Hp → Prop, (∀ σ' H', N σ' H' → ∃ m', m' < m ∧ W m' σ' H') ∧ tb { D with nx := N, ct := N, bk := D.nx } σ H1 else D.nx σ H1
theorem ps_while {c : Expr} {body : List Stmt} {tc : TT} {tb : TS} (hp : PassesOwn (model X.prog X.w) X.A X.env X.xe) (hc : PT X c tc) (hb : PSs X body tb) : PS X (.While c body [] pos) (tWhile tc tb) := by
  intro pins s σ H D I h
  obtain ⟨W, ⟨m0, w0⟩, turn⟩ := h
  refine wpAny_While (codeAny_whileLoop (fun n s' => ∃ σ' H', Inv X pins σ' H' s' ∧ W n σ' H') ?_ m0 ⟨σ, H, I, w0⟩)
  rintro n s1 ⟨σ1, H1, I1, w1⟩
  refine wpAny_passesOwn hp (thn (hc pins s1 σ1 H1 _ I1 (turn n σ1 H1 w1)) fun b s2 ⟨H2, I2, q2⟩ => ?_)
  cases b with
  | true =>
    obtain ⟨N, hN, q2⟩ := q2
    rw [if_pos rfl]
    refine wpAny_passesOwn hp (thn (hb pins s2 σ1 H2 _ I2 q2) fun f s3 q3 => ?_)
    cases f with
    | next =>
      obtain ⟨σ3, H3, I3, n3⟩ := q3
      obtain ⟨m', hm, w3⟩ := hN σ3 H3 n3
      exact ⟨m', hm, σ3, H3, I3, w3⟩
    | cont =>
      obtain ⟨σ3, H3, I3, n3⟩ := q3
      obtain ⟨m', hm, w3⟩ := hN σ3 H3 n3
      exact ⟨m', hm, σ3, H3, I3, w3⟩
    | brk => exact q3
    | ret v => exact q3
  | false =>
    rw [if_neg Bool.false_ne_true]
    exact wpAny_execs_nil ⟨σ1, H2, I2, q2⟩
end
structure It where
  go : Nat → Hp → Prop
  yld : Nat → Hp → V → Hp → Prop
  stop : Nat → Hp → Prop
def FpOk (X : Cx) (pins : List (Addr × Obj)) (H : Hp) (b : Addr) : Prop :=
  H b = none ∧ b ≠ X.env.locals ∧ b ∉ X.fs ∧ (b ∈ X.ex ∨ X.s₀.heap.objs.size ≤ b) ∧ (∀ x c, X.env.cells.lookup x = some c → c ≠ b) ∧ ∀ p ∈ X.pn ++ pins, p.1 ≠ b
theorem Inv.fpOk {X : Cx} {pins : List (Addr × Obj)} {σ : St} {H H' : Hp} {s : Shared} {b : Addr} (I : Inv X pins σ H s) (hb : s.heap.objs.size ≤ b) (hn : H' b = none) : FpOk X pins H' b := by
  refine ⟨hn, Nat.ne_of_gt (Nat.lt_of_lt_of_le I.lt hb), I.nofs hb, .inr (Nat.le_trans I.sz hb), fun x c e z => ?_, fun p hp z => ?_⟩
  · obtain ⟨v, q⟩ := I.cell x c e
    exact absurd (Nat.lt_of_lt_of_le q.lt (by rw [z]; exact hb)) (Nat.lt_irrefl _)
  · exact absurd (Nat.lt_of_lt_of_le (Heap.lt_size (I.pin p hp).1) (by rw [z]; exact hb)) (Nat.lt_irrefl _)
structure Turn (P : Program) (w : World) (K : PySem.W.Frag) (tg : Expr) (J : It) (fp : List Addr) (it : Addr) (tn : Nat → Heap → Prop) : Prop where
  mem : it ∈ fp
  obj : ∀ i h, tn i h → ∀ b ∈ fp, ∃ o, h.get? b = some o ∧ ∀ v, o.data ≠ .cell v
  keep : ∀ i h h', tn i h → (∀ b ∈ fp, ∀ o, h.get? b = some o → h'.get? b = some o) → tn i h'
  item : ∀ (X : Cx), X.prog = P → X.w = w → X.K = K → X.calm = true → ∀ (i : Nat) (pins : List (Addr × Obj)) (s : Shared) (σ : St) (H : Hp) (E : Value → Shared → Prop), Inv X pins σ H s → (∀ b ∈ fp, FpOk X pins H b) → tn i s.heap → J.go i H →
    wpAny (model P w) X.A (pyNext (.ref it)) (fun r s1 => ∃ u, r = some u ∧
      wpAny (model P w) X.A (letOwnedTupleGo tg (.ref it) u) (fun _ s2 => ∃ x H', Inv X pins σ H' s2 ∧ RelV x u ∧ J.yld i H x H' ∧ tn (i + 1) s2.heap ∧ ∀ b ∈ fp, H' b = none) E s1) E s
  done : ∀ (X : Cx), X.prog = P → X.w = w → X.K = K → X.calm = true → ∀ (i : Nat) (pins : List (Addr × Obj)) (s : Shared) (σ : St) (H : Hp) (E : Value → Shared → Prop), Inv X pins σ H s → (∀ b ∈ fp, FpOk X pins H b) → tn i s.heap → J.stop i H →
    wpAny (model P w) X.A (pyNext (.ref it)) (fun r s1 => r = none ∧ Inv X pins σ H s1) E s
  self : ∀ (A : Around) (i : Nat) (s : Shared) (Q : Value → Shared → Prop) (E : Value → Shared → Prop), tn i s.heap → Q (.ref it) s → wpAny (model P w) A (pyIter (.ref it)) Q E s
abbrev TI := St → Hp → (It → Hp → Prop) → Prop
def PIE (X : Cx) (pins : List (Addr × Obj)) (σ : St) (tg : Expr) (R : It → Hp → Prop) (itv : Value) (s2 : Shared) : Prop :=
  ∃ (it : Addr) (fp : List Addr) (tn : Nat → Heap → Prop) (J : It) (H' : Hp), itv = .ref it ∧ Inv X pins σ H' s2 ∧ Turn X.prog X.w X.K tg J fp it tn ∧ tn 0 s2.heap ∧ (∀ b ∈ fp, FpOk X pins H' b) ∧ R J H'
def PI (X : Cx) (tg iter : Expr) (wi : TI) : Prop :=
  ∀ (pins : List (Addr × Obj)) (s : Shared) (σ : St) (H : Hp) (R : It → Hp → Prop), Inv X pins σ H s → wi σ H R →
    wpAny (model X.prog X.w) X.A (eval iter X.env) (fun v s1 => wpAny (model X.prog X.w) X.A (pyIter v) (PIE X pins σ tg R) X.xe s1) X.xe s
theorem go_of {M : Model} {A : Around} {E : Value → Shared → Prop} {s : Shared} {tg : Expr} {it : Addr} {u : Value} {o : Obj} {n : String} {vs : Array Value} {Q : Unit → Shared → Prop} (ho : s.heap.get? it = some o) (hc : o.cls = .type n) (hd : o.data = .fields vs)
    (hn : ["enumerate", "zip", "dict_itemiterator", "dict_reverseitemiterator", "odict_iterator", "itertools.zip_longest", "itertools.pairwise"].contains n = false) (hQ : Q () s) : wpAny M A (letOwnedTupleGo tg (.ref it) u) Q E s := by
  unfold letOwnedTupleGo
  cases tg <;> first
    | exact wpAny_pure hQ
    | (cases u <;> first
        | exact wpAny_pure hQ
        | (refine wpAny_bind (wpAny_load ho ?_)
           rw [hc, hd]
           show wpAny M A (if (["enumerate", "zip", "dict_itemiterator", "dict_reverseitemiterator", "odict_iterator", "itertools.zip_longest", "itertools.pairwise"].contains n && vs[0]? == some (rawInt _)) = true then _ else _) Q E s
           rw [if_neg (by intro h; rw [hn, Bool.false_and] at h; cases h)]
           exact wpAny_pure hQ))
def Itl (K : PySem.W.Frag) (a : Addr) : It :=
  ⟨fun i H => ∃ xs x, SqL K H a xs ∧ xs[i]? = some x, fun i H x H' => H' = H ∧ ∀ xs, SqL K H a xs → xs[i]? = some x, fun i H => ∃ xs, SqL K H a xs ∧ xs.length ≤ i⟩
def Itt (K : PySem.W.Frag) (a : Addr) : It :=
  ⟨fun i H => ∃ xs x, SqT K H a xs ∧ xs[i]? = some x, fun i H x H' => H' = H ∧ ∀ xs, SqT K H a xs → xs[i]? = some x, fun i H => ∃ xs, SqT K H a xs ∧ xs.length ≤ i⟩
def Itr (lo : Int) (n : Nat) : It := ⟨fun i _ => i < n, fun i H x H' => H' = H ∧ x = .int (lo + i), fun i _ => n ≤ i⟩
theorem turn_list {P : Program} {w : World} {K : PySem.W.Frag} {tg : Expr} (a it : Addr) : Turn P w K tg (Itl K a) [it] it (fun i h => h.IsListIter it a i) where
  mem := by simp
  obj := fun i h st b hb => by
    have e : b = it := by simpa using hb
    subst e
    obtain ⟨o, e, c, d⟩ := st
    exact ⟨o, e, fun v z => by rw [d] at z; cases z⟩
  keep := fun i h h' st k => st.at fun o e => k it (by simp) o e
  item := by
    intro X hP hw hK hc i pins s σ H E I hf st hg
    subst hP hw hK
    obtain ⟨xs, x, hq, hx⟩ := hg
    obtain ⟨its, rv, p, hz⟩ := I.list hq
    obtain ⟨u, hu, ru⟩ := rv.get hx
    obtain ⟨f0, f1, f2, f3, f4, f5⟩ := hf it (by simp)
    refine wpAny_pyNext_list_item st p.isList (x := u) (by simpa using hu) fun h' st' sb => ?_
    have I1 : Inv X pins σ H { s with heap := h' } := I.turned (t' := s.toks) (fun b o hb e => (sb.2 b hb).trans e) f0 f1 f3 f4 f5
    obtain ⟨o, e, c, d⟩ := id st'
    exact ⟨u, rfl, go_of (s := { s with heap := h' }) e c d (by decide) ⟨x, H, I1, ru, ⟨rfl, fun ys hy => by rw [I.list_inj hy hq]; exact hx⟩, st', fun b hb => (hf b hb).1⟩⟩
  done := by
    intro X hP hw hK hc i pins s σ H E I hf st hg
    subst hP hw hK
    obtain ⟨xs, hq, hx⟩ := hg
    obtain ⟨its, rv, p, hz⟩ := I.list hq
    obtain ⟨f0, f1, f2, f3, f4, f5⟩ := hf it (by simp)
    have hl := rv.length
    exact wpAny_pyNext_list_end (I.ok.hd hc) st p.isList (by simp; omega) fun h' eb => ⟨rfl, I.turned (t' := s.toks) (fun b o hb e => eb b o hb e) f0 f1 f3 f4 f5⟩
  self := fun _ _ _ _ _ st h => wpAny_pyIter_listiter st h
theorem turn_tuple {P : Program} {w : World} {K : PySem.W.Frag} {tg : Expr} (a it : Addr) : Turn P w K tg (Itt K a) [it] it (fun i h => h.IsTupleIter it a i) where
  mem := by simp
  obj := fun i h st b hb => by
    have e : b = it := by simpa using hb
    subst e
    obtain ⟨o, e, c, d⟩ := st
    exact ⟨o, e, fun v z => by rw [d] at z; cases z⟩
  keep := fun i h h' st k => st.at fun o e => k it (by simp) o e
  item := by
    intro X hP hw hK hc i pins s σ H E I hf st hg
    subst hP hw hK
    obtain ⟨xs, x, hq, hx⟩ := hg
    obtain ⟨its, rv, p, hz⟩ := I.tuple hq
    obtain ⟨u, hu, ru⟩ := rv.get hx
    obtain ⟨f0, f1, f2, f3, f4, f5⟩ := hf it (by simp)
    refine wpAny_pyNext_tuple_item st (show s.heap.IsTuple a its.toArray from p) (x := u) (by simpa using hu) fun h' st' sb => ?_
    have I1 : Inv X pins σ H { s with heap := h' } := I.turned (t' := s.toks) (fun b o hb e => (sb.2 b hb).trans e) f0 f1 f3 f4 f5
    obtain ⟨o, e, c, d⟩ := id st'
    exact ⟨u, rfl, go_of (s := { s with heap := h' }) e c d (by decide) ⟨x, H, I1, ru, ⟨rfl, fun ys hy => by rw [I.tuple_inj hy hq]; exact hx⟩, st', fun b hb => (hf b hb).1⟩⟩
  done := by
    intro X hP hw hK hc i pins s σ H E I hf st hg
    subst hP hw hK
    obtain ⟨xs, hq, hx⟩ := hg
    obtain ⟨its, rv, p, hz⟩ := I.tuple hq
    obtain ⟨f0, f1, f2, f3, f4, f5⟩ := hf it (by simp)
    have hl := rv.length
    exact wpAny_pyNext_tuple_end (I.ok.hd hc) st (show s.heap.IsTuple a its.toArray from p) (by simp; omega) fun h' eb => ⟨rfl, I.turned (t' := s.toks) (fun b o hb e => eb b o hb e) f0 f1 f3 f4 f5⟩
  self := fun _ _ _ _ _ st h => wpAny_pyIter_tupleiter st h
theorem turn_range {P : Program} {w : World} {K : PySem.W.Frag} {tg : Expr} (it : Addr) (lo : Int) (n : Nat) : Turn P w K tg (Itr lo n) [it] it (fun i h => IsRangeIter h it (lo + (i : Nat) * 1) ((n : Int) - (i : Nat)) 1) where
  mem := by simp
  obj := fun i h st b hb => by
    have e : b = it := by simpa using hb
    subst e
    exact ⟨_, st, fun v z => by
      have z' : Data.fields _ = Data.cell v := z
      cases z'⟩
  keep := fun i h h' st k => k it (by simp) _ st
  item := by
    intro X hP hw hK hc i pins s σ H E I hf st hg
    subst hP hw hK
    obtain ⟨f0, f1, f2, f3, f4, f5⟩ := hf it (by simp)
    have W := Walks.range (prog := X.prog) (w := X.w) (I.ok.hd hc) it lo 1 n
    refine W.item i s _ _ hg st fun v h' tk hv st' kk => ?_
    obtain ⟨t, rfl⟩ := hv
    have I1 : Inv X pins σ H { s with heap := h', toks := tk } := I.turned (fun b o hb e => kk b o (by simpa using hb) e) f0 f1 f3 f4 f5
    refine ⟨_, rfl, go_of (s := { s with heap := h', toks := tk }) (n := "range_iterator") st' rfl rfl (by decide) ⟨.int (lo + i), H, I1, ⟨t, ?_⟩, ⟨rfl, rfl⟩, st', fun b hb => (hf b hb).1⟩⟩
    rw [Int.mul_one]
  done := by
    intro X hP hw hK hc i pins s σ H E I hf st hg
    subst hP hw hK
    obtain ⟨f0, f1, f2, f3, f4, f5⟩ := hf it (by simp)
    exact wpAny_pyNext_range_end (I.ok.hd hc) st (by have : n ≤ i := hg; omega) fun h' eb => ⟨rfl, I.turned (t' := s.toks) (fun b o hb e => eb b o hb e) f0 f1 f3 f4 f5⟩
  self := fun _ _ _ _ _ st h => wpAny_pyIter_rangeiter st h
end L2
namespace L2
open PySem PySem.Spec PyProof.Rows
section
variable {X : Cx} {tg : Expr}
def iList (K : PySem.W.Frag) (tl : TE) : TI := fun σ H R => tl σ H fun x H1 => ∃ a, x = .ref a ∧ (∃ xs, SqL K H1 a xs) ∧ R (Itl K a) H1
def iTup (K : PySem.W.Frag) (tl : TE) : TI := fun σ H R => tl σ H fun x H1 => ∃ a, x = .ref a ∧ (∃ xs, SqT K H1 a xs) ∧ R (Itt K a) H1
theorem pi_list {l : Expr} {tl : TE} (hl : PE X l tl) : PI X tg l (iList X.K tl) := by
  intro pins s σ H R I h
  refine thn (hl pins s σ H _ I h) fun v s1 ⟨x, H1, I1, r1, q1⟩ => ?_
  obtain ⟨a, e, ⟨xs, hq⟩, q⟩ := q1
  subst e
  cases r1
  obtain ⟨its, rv, p, hz⟩ := I1.list hq
  refine wpAny_pyIter_list p.isList ?_
  refine ⟨s1.heap.objs.size, [s1.heap.objs.size], _, _, H1, rfl, I1.kept (t' := s1.toks) fun b o e => Heap.get?_push_of_some _ e, turn_list a _, ⟨_, Heap.get?_push_size _ rfl, rfl, rfl⟩, fun b hb => ?_, q⟩
  have e : b = s1.heap.objs.size := by simpa using hb
  subst e
  exact I1.fpOk (Nat.le_refl _) (I1.hok.fresh (Nat.le_refl _))
theorem pi_tup {l : Expr} {tl : TE} (hl : PE X l tl) : PI X tg l (iTup X.K tl) := by
  intro pins s σ H R I h
  refine thn (hl pins s σ H _ I h) fun v s1 ⟨x, H1, I1, r1, q1⟩ => ?_
  obtain ⟨a, e, ⟨xs, hq⟩, q⟩ := q1
  subst e
  cases r1
  obtain ⟨its, rv, p, hz⟩ := I1.tuple hq
  refine wpAny_pyIter_tuple (show s1.heap.IsTuple a its.toArray from p) ?_
  refine ⟨s1.heap.objs.size, [s1.heap.objs.size], _, _, H1, rfl, I1.kept (t' := s1.toks) fun b o e => Heap.get?_push_of_some _ e, turn_tuple a _, ⟨_, Heap.get?_push_size _ rfl, rfl, rfl⟩, fun b hb => ?_, q⟩
  have e : b = s1.heap.objs.size := by simpa using hb
  subst e
  exact I1.fpOk (Nat.le_refl _) (I1.hok.fresh (Nat.le_refl _))
theorem range_it {pins : List (Addr × Obj)} {σ : St} {H : Hp} {s : Shared} {R : It → Hp → Prop} {E : Value → Shared → Prop} {lo hi : Int} {t u v : Tok} {tk : Nat} (I : Inv X pins σ H s) (h1 : -(2 ^ 62) ≤ lo) (h2 : lo < 2 ^ 62) (h3 : -(2 ^ 62) ≤ hi) (h4 : hi < 2 ^ 62)
    (q : R (Itr lo (hi - lo).toNat) H) : wpAny (model X.prog X.w) X.A (pyIter (.ref s.heap.objs.size)) (PIE X pins σ tg R) E { s with heap := s.heap.push { cls := .type "range", data := .fields #[.int lo t, .int hi u, .int 1 v] }, toks := tk } := by
  refine wpAny_pyIter_range (IsRange.new ..) (small_one h1 h2 h3 h4) ?_
  have I1 : Inv X pins σ H { s with heap := s.heap.push { cls := .type "range", data := .fields #[.int lo t, .int hi u, .int 1 v] }, toks := tk } := I.kept fun b o e => Heap.get?_push_of_some _ e
  refine ⟨(s.heap.push { cls := .type "range", data := .fields #[.int lo t, .int hi u, .int 1 v] }).objs.size, [(s.heap.push { cls := .type "range", data := .fields #[.int lo t, .int hi u, .int 1 v] }).objs.size], _, _, H, rfl,
    I1.kept (t' := tk) fun b o e => Heap.get?_push_of_some _ e, turn_range _ lo (hi - lo).toNat, ?_, fun b hb => ?_, q⟩
  · have e1 : lo + ((0 : Nat) : Int) * 1 = lo := by simp
    have e2 : (((hi - lo).toNat : Nat) : Int) - ((0 : Nat) : Int) = Builtin.Range.rangeSize lo hi 1 := by rw [rangeSize_one]; split <;> omega
    show IsRangeIter _ _ (lo + ((0 : Nat) : Int) * 1) ((((hi - lo).toNat : Nat) : Int) - ((0 : Nat) : Int)) 1
    rw [e1, e2]
    exact Heap.get?_push_size _ rfl
  · have e : b = (s.heap.push { cls := .type "range", data := .fields #[.int lo t, .int hi u, .int 1 v] }).objs.size := by simpa using hb
    subst e
    exact I1.fpOk (Nat.le_refl _) (I1.hok.fresh (Nat.le_refl _))
def iRng1 (ta : TA) : TI := fun σ H R => ta σ H fun vs H1 => ∃ j : Int, vs = [.int j] ∧ -(2 ^ 62) ≤ j ∧ j < 2 ^ 62 ∧ R (Itr 0 j.toNat) H1
def iRng2 (ta : TA) : TI := fun σ H R => ta σ H fun vs H1 => ∃ i j : Int, vs = [.int i, .int j] ∧ (-(2 ^ 62) ≤ i ∧ i < 2 ^ 62 ∧ -(2 ^ 62) ≤ j ∧ j < 2 ^ 62) ∧ R (Itr i (j - i).toNat) H1
theorem pi_range1 {a : Expr} {ta : TA} {p pos : Pos} (hg : Gl X "range") (hm : X.mg "range" = none) (ha : PA X [a] ta) (hs : starEach [a] X.env = [(false, eval a X.env)] := by rfl) : PI X tg (.Call (.Name "range" p) [a] [] pos) (iRng1 ta) := by
  intro pins s σ H R I h
  refine Call_ (ld_blt I hg hm boot_range (PyProof.Rows.callWith_type1 (thn (ha pos pins s σ H _ I h) fun us s1 ⟨vs, H1, I1, r1, q1⟩ => ?_) hs rfl))
  obtain ⟨j, e, q1, q2, q⟩ := q1
  subst e
  cases r1 with
  | cons r rr =>
    cases rr
    obtain ⟨t, rfl⟩ := r
    exact call_range_1 (range_it I1 (by omega) (by omega) q1 q2 (by simpa using q))
theorem pi_range2 {a b : Expr} {ta : TA} {p pos : Pos} (hg : Gl X "range") (hm : X.mg "range" = none) (ha : PA X [a, b] ta) (hs : starEach [a, b] X.env = [(false, eval a X.env), (false, eval b X.env)] := by rfl) (hs2 : starEach [b] X.env = [(false, eval b X.env)] := by rfl) :
    PI X tg (.Call (.Name "range" p) [a, b] [] pos) (iRng2 ta) := by
  intro pins s σ H R I h
  refine Call_ (ld_blt I hg hm boot_range (PyProof.Rows.callWith_type1 (thn (ha pos pins s σ H _ I h) fun us s1 ⟨vs, H1, I1, r1, q1⟩ => ?_) (by rw [hs, hs2]) (by rw [hs2]; rfl)))
  obtain ⟨i, j, e, ⟨q1, q2, q3, q4⟩, q⟩ := q1
  subst e
  cases r1 with
  | cons r rr =>
    cases rr with
    | cons r' rr =>
      cases rr
      obtain ⟨t, rfl⟩ := r
      obtain ⟨t', rfl⟩ := r'
      exact call_range_2 (range_it I1 q1 q2 q3 q4 q)
def tFor (wi : TI) (g : TG) (tb : TS) : TS := fun D σ H => wi σ H fun J H1 => ∃ W : Nat → Nat → St → Hp → Prop, (∃ m, W 0 m σ H1) ∧ ∀ i m σ H, W i m σ H →
  (J.stop i H ∧ D.nx σ H) ∨ (J.go i H ∧ ∃ N : St → Hp → Prop, (∀ σ' H', N σ' H' → ∃ m', m' < m ∧ W (i + 1) m' σ' H') ∧ ∀ x H', J.yld i H x H' → g x σ H' fun σ2 H2 => tb { D with nx := N, ct := N, bk := D.nx } σ2 H2)
def pinsAt (fp : List Addr) (h : Heap) : List (Addr × Obj) := fp.filterMap fun b => (h.get? b).map fun o => (b, o)
theorem mem_pinsAt {fp : List Addr} {h : Heap} {b : Addr} {o : Obj} (hb : b ∈ fp) (e : h.get? b = some o) : (b, o) ∈ pinsAt fp h := List.mem_filterMap.mpr ⟨b, hb, by rw [e]; rfl⟩
theorem of_pinsAt {fp : List Addr} {h : Heap} {p : Addr × Obj} (hp : p ∈ pinsAt fp h) : p.1 ∈ fp ∧ h.get? p.1 = some p.2 := by
  obtain ⟨b, hb, e⟩ := List.mem_filterMap.mp hp
  cases q : h.get? b with
  | none => rw [q] at e; cases e
  | some o =>
    rw [q] at e
    have e' : (b, o) = p := Option.some.inj e
    subst e'
    exact ⟨hb, q⟩
theorem Inv.pinned {pins : List (Addr × Obj)} {σ : St} {H : Hp} {s : Shared} {fp : List Addr} (I : Inv X pins σ H s) (hf : ∀ b ∈ fp, FpOk X pins H b) (ho : ∀ b ∈ fp, ∃ o, s.heap.get? b = some o ∧ ∀ v, o.data ≠ .cell v) : Inv X (pins ++ pinsAt fp s.heap) σ H s :=
  I.pins_of fun p hp => (List.mem_append.mp hp).elim (fun z => I.pin p (List.mem_append_right _ z)) fun z => by
    obtain ⟨hb, e⟩ := of_pinsAt z
    obtain ⟨f0, f1, f2, _⟩ := hf p.1 hb
    obtain ⟨o, e', d⟩ := ho p.1 hb
    rw [e] at e'; cases e'
    exact ⟨e, f0, f1, f2, d⟩
theorem Inv.unpinned {pins pl : List (Addr × Obj)} {σ : St} {H : Hp} {s : Shared} (I : Inv X (pins ++ pl) σ H s) : Inv X pins σ H s := I.pins_of fun p hp => I.pin p (List.mem_append_right _ (List.mem_append_left _ hp))
theorem ps_for {iter : Expr} {body : List Stmt} {wi : TI} {g : TG} {tb : TS} {pos : Pos} (hp : PassesOwn (model X.prog X.w) X.A X.env X.xe) (hc : X.calm = true) (hi : PI X tg iter wi) (hg : PG X tg g) (hb : PSs X body tb)
    (hs : ∀ x, foldedSetIterable iter X.env x = pure x := by intro _; rfl) : PS X (.For tg iter body [] pos) (tFor wi g tb) := by
  intro pins s σ H D I h
  refine wpAny_For (thn (hi pins s σ H _ I h) fun v s1 h1 => thn h1 fun itv s2 h2 => ?_) hs
  obtain ⟨it, fp, tn, J, H2, e, I2, T, st2, f2, W, ⟨m0, w0⟩, turn⟩ := h2
  subst e
  have stat : ∀ {H' : Hp}, (∀ b ∈ fp, H' b = none) → ∀ b ∈ fp, FpOk X pins H' b := fun hn b hb => ⟨hn b hb, (f2 b hb).2⟩
  refine codeAny_forLoop_any (fun n s' => ∃ i σ' H', Inv X pins σ' H' s' ∧ tn i s'.heap ∧ (∀ b ∈ fp, H' b = none) ∧ W i n σ' H') ?_ m0 ⟨0, σ, H2, I2, st2, fun b hb => (f2 b hb).1, w0⟩
  rintro n s3 ⟨i, σ3, H3, I3, st3, fr3, w3⟩
  rcases turn i n σ3 H3 w3 with ⟨stop, qn⟩ | ⟨go, N, hN, step⟩
  · refine wpAny_passesOwn hp (thn (T.done X rfl rfl rfl hc i pins s3 σ3 H3 X.xe I3 (stat fr3) st3 stop) fun r s4 ⟨hr, I4⟩ => ?_)
    subst hr
    exact wpAny_execs_nil ⟨σ3, H3, I4, qn⟩
  · refine wpAny_passesOwn hp (thn (T.item X rfl rfl rfl hc i pins s3 σ3 H3 X.xe I3 (stat fr3) st3 go) fun r s4 ⟨u, hr, h4⟩ => ?_)
    subst hr
    refine wpAny_passesOwn hp (thn h4 fun _ s5 ⟨x, H5, I5, r5, y5, st5, fr5⟩ => ?_)
    have I5' := I5.pinned (stat fr5) (T.obj _ _ st5)
    refine wpAny_passesOwn hp (thn (hg _ s5 σ3 H5 x u _ I5' r5 (step x H5 y5)) fun _ s6 ⟨σ6, H6, I6, q6⟩ => ?_)
    refine wpAny_passesOwn hp (thn (hb _ s6 σ6 H6 _ I6 q6) fun f s7 q7 => ?_)
    have again : ∀ {σ7 : St} {H7 : Hp}, Inv X (pins ++ pinsAt fp s5.heap) σ7 H7 s7 → N σ7 H7 → ∃ m, m < n ∧ ∃ i σ' H', Inv X pins σ' H' s7 ∧ tn i s7.heap ∧ (∀ b ∈ fp, H' b = none) ∧ W i m σ' H' := fun {σ7 H7} I7 n7 => by
      obtain ⟨m', hm, w7⟩ := hN σ7 H7 n7
      refine ⟨m', hm, i + 1, σ7, H7, I7.unpinned, T.keep _ _ _ st5 fun b hb o e => (I7.pin (b, o) (List.mem_append_right _ (List.mem_append_right _ (mem_pinsAt hb e)))).1, fun b hb => ?_, w7⟩
      obtain ⟨o, e, d⟩ := T.obj _ _ st5 b hb
      exact (I7.pin (b, o) (List.mem_append_right _ (List.mem_append_right _ (mem_pinsAt hb e)))).2.1
    cases f with
    | next => obtain ⟨σ7, H7, I7, n7⟩ := q7; exact again I7 n7
    | cont => obtain ⟨σ7, H7, I7, n7⟩ := q7; exact again I7 n7
    | brk => obtain ⟨σ7, H7, I7, q7⟩ := q7; exact ⟨σ7, H7, I7.unpinned, q7⟩
    | ret v => obtain ⟨x7, σ7, H7, I7, r7, q7⟩ := q7; exact ⟨x7, σ7, H7, I7.unpinned, r7, q7⟩
end
theorem for_list {K : PySem.W.Frag} {a : Addr} {xs : List V} {g : TG} {tb : TS} {D : Ends} {σ : St} {H : Hp} (Pv : Nat → St → Hp → Prop) (h0 : Pv 0 σ H) (hl : ∀ i σ H, i ≤ xs.length → Pv i σ H → SqL K H a xs)
    (hs : ∀ i x σ H, xs[i]? = some x → Pv i σ H → g x σ H fun σ2 H2 => tb { D with nx := Pv (i + 1), ct := Pv (i + 1), bk := D.nx } σ2 H2) (hd : ∀ σ H, Pv xs.length σ H → D.nx σ H) :
    ∃ W : Nat → Nat → St → Hp → Prop, (∃ m, W 0 m σ H) ∧ ∀ i m σ H, W i m σ H →
      ((Itl K a).stop i H ∧ D.nx σ H) ∨ ((Itl K a).go i H ∧ ∃ N : St → Hp → Prop, (∀ σ' H', N σ' H' → ∃ m', m' < m ∧ W (i + 1) m' σ' H') ∧ ∀ x H', (Itl K a).yld i H x H' → g x σ H' fun σ2 H2 => tb { D with nx := N, ct := N, bk := D.nx } σ2 H2) := by
  refine ⟨fun i m σ H => m = xs.length - i ∧ i ≤ xs.length ∧ Pv i σ H, ⟨xs.length, by simp, Nat.zero_le _, h0⟩, ?_⟩
  rintro i m σ H ⟨rfl, hi, p⟩
  have q := hl i σ H hi p
  by_cases hlt : i < xs.length
  · refine .inr ⟨⟨xs, xs[i], q, by simp [hlt]⟩, Pv (i + 1), fun σ' H' p' => ⟨xs.length - (i + 1), by omega, rfl, hlt, p'⟩, fun x H' y => ?_⟩
    obtain ⟨e, y⟩ := y
    subst e
    exact hs i x σ _ (y xs q) p
  · have e : i = xs.length := by omega
    subst e
    exact .inl ⟨⟨xs, q, Nat.le_refl _⟩, hd σ H p⟩
theorem for_tup {K : PySem.W.Frag} {a : Addr} {xs : List V} {g : TG} {tb : TS} {D : Ends} {σ : St} {H : Hp} (Pv : Nat → St → Hp → Prop) (h0 : Pv 0 σ H) (hl : ∀ i σ H, i ≤ xs.length → Pv i σ H → SqT K H a xs)
    (hs : ∀ i x σ H, xs[i]? = some x → Pv i σ H → g x σ H fun σ2 H2 => tb { D with nx := Pv (i + 1), ct := Pv (i + 1), bk := D.nx } σ2 H2) (hd : ∀ σ H, Pv xs.length σ H → D.nx σ H) :
    ∃ W : Nat → Nat → St → Hp → Prop, (∃ m, W 0 m σ H) ∧ ∀ i m σ H, W i m σ H →
      ((Itt K a).stop i H ∧ D.nx σ H) ∨ ((Itt K a).go i H ∧ ∃ N : St → Hp → Prop, (∀ σ' H', N σ' H' → ∃ m', m' < m ∧ W (i + 1) m' σ' H') ∧ ∀ x H', (Itt K a).yld i H x H' → g x σ H' fun σ2 H2 => tb { D with nx := N, ct := N, bk := D.nx } σ2 H2) := by
  refine ⟨fun i m σ H => m = xs.length - i ∧ i ≤ xs.length ∧ Pv i σ H, ⟨xs.length, by simp, Nat.zero_le _, h0⟩, ?_⟩
  rintro i m σ H ⟨rfl, hi, p⟩
  have q := hl i σ H hi p
  by_cases hlt : i < xs.length
  · refine .inr ⟨⟨xs, xs[i], q, by simp [hlt]⟩, Pv (i + 1), fun σ' H' p' => ⟨xs.length - (i + 1), by omega, rfl, hlt, p'⟩, fun x H' y => ?_⟩
    obtain ⟨e, y⟩ := y
    subst e
    exact hs i x σ _ (y xs q) p
  · have e : i = xs.length := by omega
    subst e
    exact .inl ⟨⟨xs, q, Nat.le_refl _⟩, hd σ H p⟩
theorem for_range {lo : Int} {n : Nat} {g : TG} {tb : TS} {D : Ends} {σ : St} {H : Hp} (Pv : Nat → St → Hp → Prop) (h0 : Pv 0 σ H)
    (hs : ∀ i σ H, i < n → Pv i σ H → g (.int (lo + i)) σ H fun σ2 H2 => tb { D with nx := Pv (i + 1), ct := Pv (i + 1), bk := D.nx } σ2 H2) (hd : ∀ σ H, Pv n σ H → D.nx σ H) :
    ∃ W : Nat → Nat → St → Hp → Prop, (∃ m, W 0 m σ H) ∧ ∀ i m σ H, W i m σ H →
      ((Itr lo n).stop i H ∧ D.nx σ H) ∨ ((Itr lo n).go i H ∧ ∃ N : St → Hp → Prop, (∀ σ' H', N σ' H' → ∃ m', m' < m ∧ W (i + 1) m' σ' H') ∧ ∀ x H', (Itr lo n).yld i H x H' → g x σ H' fun σ2 H2 => tb { D with nx := N, ct := N, bk := D.nx } σ2 H2) := by
  refine ⟨fun i m σ H => m = n - i ∧ i ≤ n ∧ Pv i σ H, ⟨n, by simp, Nat.zero_le _, h0⟩, ?_⟩
  rintro i m σ H ⟨rfl, hi, p⟩
  by_cases hlt : i < n
  · refine .inr ⟨hlt, Pv (i + 1), fun σ' H' p' => ⟨n - (i + 1), by omega, rfl, hlt, p'⟩, fun x H' y => ?_⟩
    obtain ⟨e, y⟩ := y
    subst e y
    exact hs i σ _ hlt p
  · have e : i = n := by omega
    subst e
    exact .inl ⟨Nat.le_refl _, hd σ H p⟩
end L2
namespace L2
open PySem PySem.Spec PyProof.Rows
abbrev R2 := V → V → Hp → VK → Prop
def OpR (X : Cx) (f : Value → Value → Sem Value) (r : R2) : Prop :=
  ∀ (pins : List (Addr × Obj)) (s : Shared) (σ : St) (H : Hp) (x y : V) (v u : Value) (Q : VK), Inv X pins σ H s → RelV x v → RelV y u → r x y H Q →
    wpAny (model X.prog X.w) X.A (f v u) (EP X pins σ Q) X.xe s
def UnR (X : Cx) (f : Value → Sem Value) (r : V → Hp → VK → Prop) : Prop :=
  ∀ (pins : List (Addr × Obj)) (s : Shared) (σ : St) (H : Hp) (x : V) (v : Value) (Q : VK), Inv X pins σ H s → RelV x v → r x H Q →
    wpAny (model X.prog X.w) X.A (f v) (EP X pins σ Q) X.xe s
def CallR (X : Cx) (f : Value) (r : List V → Hp → VK → Prop) : Prop :=
  ∀ (pins : List (Addr × Obj)) (s : Shared) (σ : St) (H : Hp) (xs : List V) (us : List Value) (Q : VK), Inv X pins σ H s → Vals xs us → r xs H Q →
    wpAny (model X.prog X.w) X.A (call f us) (EP X pins σ Q) X.xe s
def TruR (X : Cx) (r : V → Hp → (Bool → Hp → Prop) → Prop) : Prop :=
  ∀ (pins : List (Addr × Obj)) (s : Shared) (σ : St) (H : Hp) (x : V) (v : Value) (Q : Bool → Hp → Prop), Inv X pins σ H s → RelV x v → r x H Q →
    wpAny (model X.prog X.w) X.A (truthy v) (TP X pins σ Q) X.xe s
def tOp (r : R2) (ta tb : TE) : TE := fun σ H Q => ta σ H fun x H1 => tb σ H1 fun y H2 => r x y H2 Q
def tUn (r : V → Hp → VK → Prop) (ta : TE) : TE := fun σ H Q => ta σ H fun x H1 => r x H1 Q
def rI (C : Int → Int → Prop) (g : Int → Int → V) : R2 := fun x y H Q => ∃ i j, x = .int i ∧ y = .int j ∧ C i j ∧ Q (g i j) H
def rI0 (g : Int → Int → V) : R2 := fun x y H Q => ∃ i j, x = .int i ∧ y = .int j ∧ Q (g i j) H
def rU (g : Int → V) : V → Hp → VK → Prop := fun x H Q => ∃ i, x = .int i ∧ Q (g i) H
section
variable {X : Cx} {a b c : Expr} {ta tb tc : TE} {pos : Pos}
theorem binT (ha : PE X a ta) (hb : PE X b tb) {pins : List (Addr × Obj)} {s : Shared} {σ : St} {H : Hp} {R : V → V → Hp → Prop} (I : Inv X pins σ H s)
    (h : ta σ H fun x H1 => tb σ H1 fun y H2 => R x y H2) {Q : Value → Shared → Prop} {f : Value → Value → Sem Value}
    (hf : ∀ v u s2 x y H2, Inv X pins σ H2 s2 → RelV x v → RelV y u → R x y H2 → wpAny (model X.prog X.w) X.A (f v u) Q X.xe s2) :
    wpAny (model X.prog X.w) X.A (eval a X.env) (fun v s₁ => wpAny (model X.prog X.w) X.A (eval b X.env) (fun u s₂ => wpAny (model X.prog X.w) X.A (f v u) Q X.xe s₂) X.xe s₁) X.xe s := by
  refine thn (ha pins s σ H _ I h) fun v s1 ⟨x, H1, I1, r1, q1⟩ => ?_
  refine thn (hb pins s1 σ H1 _ I1 q1) fun u s2 ⟨y, H2, I2, r2, q2⟩ => ?_
  exact hf v u s2 x y H2 I2 r1 r2 q2
theorem pe_op {op : Operator} {r : R2} (ho : OpR X (binaryOp op) r) (ha : PE X a ta) (hb : PE X b tb) : PE X (.BinOp a op b pos) (tOp r ta tb) := by
  intro pins s σ H Q I h
  exact wpAny_BinOp (binT ha hb I h fun v u s2 x y H2 I2 rx ry q => ho pins s2 σ H2 x y v u Q I2 rx ry q)
theorem pe_un {op : UnaryOp} {r : V → Hp → VK → Prop} (ho : UnR X (unaryOp op) r) (ha : PE X a ta) : PE X (.UnaryOp op a pos) (tUn r ta) := by
  intro pins s σ H Q I h
  exact UnaryOp_ (thn (ha pins s σ H _ I h) fun v s1 ⟨x, H1, I1, r1, q1⟩ => ho pins s1 σ H1 x v Q I1 r1 q1)
theorem opI {f : Value → Value → Sem Value} {C : Int → Int → Prop} {g : Int → Int → Int}
    (rule : ∀ (i j : Int) (t u : Tok) (s : Shared) (Q : Value → Shared → Prop) (E : Value → Shared → Prop), C i j → Q (.int (g i j) s.toks) { s with toks := s.toks + 1 } → wpAny (model X.prog X.w) X.A (f (.int i t) (.int j u)) Q E s) :
    OpR X f (rI C fun i j => .int (g i j)) := by
  intro pins s σ H x y v u Q I rx ry h
  obtain ⟨i, j, rfl, rfl, hc, q⟩ := h
  obtain ⟨t, rfl⟩ := rx
  obtain ⟨t', rfl⟩ := ry
  exact rule i j t t' s _ _ hc ⟨.int (g i j), H, I.tok _, ⟨_, rfl⟩, q⟩
theorem opI0 {f : Value → Value → Sem Value} {g : Int → Int → Int}
    (rule : ∀ (i j : Int) (t u : Tok) (s : Shared) (Q : Value → Shared → Prop) (E : Value → Shared → Prop), Q (.int (g i j) s.toks) { s with toks := s.toks + 1 } → wpAny (model X.prog X.w) X.A (f (.int i t) (.int j u)) Q E s) :
    OpR X f (rI0 fun i j => .int (g i j)) := by
  intro pins s σ H x y v u Q I rx ry h
  obtain ⟨i, j, rfl, rfl, q⟩ := h
  obtain ⟨t, rfl⟩ := rx
  obtain ⟨t', rfl⟩ := ry
  exact rule i j t t' s _ _ ⟨.int (g i j), H, I.tok _, ⟨_, rfl⟩, q⟩
theorem opB0 {f : Value → Value → Sem Value} {g : Int → Int → Bool}
    (rule : ∀ (i j : Int) (t u : Tok) (s : Shared) (Q : Value → Shared → Prop) (E : Value → Shared → Prop), Q (.bool (g i j)) s → wpAny (model X.prog X.w) X.A (f (.int i t) (.int j u)) Q E s) :
    OpR X f (rI0 fun i j => .bl (g i j)) := by
  intro pins s σ H x y v u Q I rx ry h
  obtain ⟨i, j, rfl, rfl, q⟩ := h
  obtain ⟨t, rfl⟩ := rx
  obtain ⟨t', rfl⟩ := ry
  exact rule i j t t' s _ _ ⟨.bl (g i j), H, I, rfl, q⟩
def CDiv (i j : Int) : Prop := 0 < j ∧ j < 1073741824
def CDivN (i j : Int) : Prop := j ≠ 0 ∧ j.natAbs < 1073741824
def CPow (i j : Int) : Prop := 0 ≤ j ∧ j ≤ 1000000 ∧ i.natAbs < 2 ^ 64
def CMul (i j : Int) : Prop := (-(2 ^ 64) < i ∧ i < 2 ^ 64) ∨ (-(2 ^ 64) < j ∧ j < 2 ^ 64)
theorem CMul.ok {i j : Int} (h : CMul i j) : IntMulOk i j := by
  rcases h with ⟨h1, h2⟩ | ⟨h1, h2⟩
  · exact .of_left (intBits_le_64 h1 h2)
  · exact .of_right (intBits_le_64 h1 h2)
theorem op_add : OpR X (binaryOp .Add) (rI0 fun i j => .int (i + j)) := opI0 fun _ _ _ _ _ _ _ q => add_int q
theorem op_sub : OpR X (binaryOp .Sub) (rI0 fun i j => .int (i - j)) := opI0 fun _ _ _ _ _ _ _ q => sub_int q
theorem op_mul : OpR X (binaryOp .Mult) (rI CMul fun i j => .int (i * j)) := opI fun _ _ _ _ _ _ _ hc q => mul_int q hc.ok
theorem op_fdiv : OpR X (binaryOp .FloorDiv) (rI CDiv fun i j => .int (i / j)) := opI fun i j _ _ _ _ _ hc q => by
  have h1 : (0 : Int) < j := hc.1
  have h2 : j < 1073741824 := hc.2
  exact floordiv_int (by omega) (by rw [Int.fdiv_eq_ediv_of_nonneg i (by omega)]; exact q) (.inl (PyProof.noPylong_small (by omega)))
theorem op_mod : OpR X (binaryOp .Mod) (rI (fun _ j => 0 < j) fun i j => .int (i % j)) := opI fun i j _ _ _ _ _ hc q => by
  have h1 : (0 : Int) < j := hc
  exact mod_int' (by omega) (by rw [Int.fmod_eq_emod_of_nonneg i (by omega)]; exact q)
theorem op_pow : OpR X (binaryOp .Pow) (rI CPow fun i j => .int (i ^ j.toNat)) := opI fun _ _ _ _ _ _ _ hc q => pow_int_small hc.1 hc.2.1 hc.2.2 q
theorem unI {f : Value → Sem Value} {g : Int → Int}
    (rule : ∀ (i : Int) (t : Tok) (s : Shared) (Q : Value → Shared → Prop) (E : Value → Shared → Prop), Q (.int (g i) s.toks) { s with toks := s.toks + 1 } → wpAny (model X.prog X.w) X.A (f (.int i t)) Q E s) :
    UnR X f (rU fun i => .int (g i)) := by
  intro pins s σ H x v Q I rx h
  obtain ⟨i, rfl, q⟩ := h
  obtain ⟨t, rfl⟩ := rx
  exact rule i t s _ _ ⟨.int (g i), H, I.tok _, ⟨_, rfl⟩, q⟩
theorem un_neg : UnR X (unaryOp .USub) (rU fun i => .int (-i)) := unI fun _ _ _ _ _ q => neg_int q
end
def scal : V → V → Bool
  | .non, .non => true | .non, .int _ => true | .int _, .non => true | .non, .bl _ => true | .bl _, .non => true | .non, .str _ => true | .str _, .non => true
  | .int _, .int _ => true | .bl _, .bl _ => true | .str _, .str _ => true | .byt _, .byt _ => true
  | .int _, .str _ => true | .str _, .int _ => true | .bl _, .str _ => true | .str _, .bl _ => true
  | _, _ => false
def rEq : R2 := fun x y H Q => scal x y = true ∧ Q (.bl (decide (x = y))) H
def rNe : R2 := fun x y H Q => scal x y = true ∧ Q (.bl (!decide (x = y))) H
theorem dec_int {i j : Int} : decide (V.int i = V.int j) = (i == j) := by
  rw [Bool.eq_iff_iff]
  simp
theorem dec_bl {i j : Bool} : decide (V.bl i = V.bl j) = (i == j) := by
  rw [Bool.eq_iff_iff]
  simp
theorem dec_str {i j : Str} : decide (V.str i = V.str j) = (i == j) := by
  rw [Bool.eq_iff_iff]
  simp
theorem dec_byt {i j : Array UInt8} : decide (V.byt i = V.byt j) = (i.toList == j.toList) := by
  rw [Bool.eq_iff_iff]
  cases i
  cases j
  simp
section
variable {X : Cx} {a b c : Expr} {ta tb tc : TE} {pos : Pos}
theorem fin_bl {pins : List (Addr × Obj)} {σ : St} {H : Hp} {s : Shared} {Q : VK} {k k' : Bool} (I : Inv X pins σ H s) (q : Q (.bl k) H) (e : k = k') : EP X pins σ Q (.bool k') s := by
  subst e
  exact ⟨.bl k, H, I, rfl, q⟩
theorem op_eq : OpR X (compareOp .Eq) rEq := by
  intro pins s σ H x y v u Q I rx ry h
  obtain ⟨hs, q⟩ := h
  cases x with
  | non =>
    cases rx
    cases y with
    | non => cases ry; exact PySem.EqNone.eq_none_none (fin_bl I q (by simp))
    | bl j => cases ry; exact PySem.EqNone.eq_none_bool (fin_bl I q (by simp))
    | int j => obtain ⟨t', rfl⟩ := ry; exact PySem.EqNone.eq_none_int (fin_bl I q (by simp))
    | str j => obtain ⟨t', rfl⟩ := ry; exact PySem.EqNone.eq_none_str (fin_bl I q (by simp))
    | _ => exact absurd (show false = true from hs) Bool.false_ne_true
  | bl i =>
    cases rx
    cases y with
    | non => cases ry; exact PySem.EqNone.eq_bool_none (fin_bl I q (by simp))
    | bl j => cases ry; exact eq_bool (fin_bl I q dec_bl)
    | str j => obtain ⟨t', rfl⟩ := ry; exact PySem.EqMixed.eq_bool_str (fin_bl I q (by simp))
    | _ => exact absurd (show false = true from hs) Bool.false_ne_true
  | int i =>
    obtain ⟨t, rfl⟩ := rx
    cases y with
    | non => cases ry; exact PySem.EqNone.eq_int_none (fin_bl I q (by simp))
    | int j => obtain ⟨t', rfl⟩ := ry; exact eq_int (fin_bl I q dec_int)
    | str j => obtain ⟨t', rfl⟩ := ry; exact PySem.EqMixed.eq_int_str (fin_bl I q (by simp))
    | _ => exact absurd (show false = true from hs) Bool.false_ne_true
  | str i =>
    obtain ⟨t, rfl⟩ := rx
    cases y with
    | non => cases ry; exact PySem.EqNone.eq_str_none (fin_bl I q (by simp))
    | bl j => cases ry; exact PySem.EqMixed.eq_str_bool (fin_bl I q (by simp))
    | int j => obtain ⟨t', rfl⟩ := ry; exact PySem.EqMixed.eq_str_int (fin_bl I q (by simp))
    | str j => obtain ⟨t', rfl⟩ := ry; exact eq_str (fin_bl I q dec_str)
    | _ => exact absurd (show false = true from hs) Bool.false_ne_true
  | byt i =>
    obtain ⟨t, rfl⟩ := rx
    cases y with
    | byt j => obtain ⟨t', rfl⟩ := ry; exact PySem.W.eq_bytes (fin_bl I q dec_byt)
    | _ => exact absurd (show false = true from hs) Bool.false_ne_true
  | _ => cases y <;> exact absurd (show false = true from hs) Bool.false_ne_true
theorem op_ne : OpR X (compareOp .NotEq) rNe := by
  intro pins s σ H x y v u Q I rx ry h
  obtain ⟨hs, q⟩ := h
  cases x with
  | non =>
    cases rx
    cases y with
    | non => cases ry; exact PySem.EqNone.ne_none_none (fin_bl I q (by simp))
    | bl j => cases ry; exact PySem.EqNone.ne_none_bool (fin_bl I q (by simp))
    | int j => obtain ⟨t', rfl⟩ := ry; exact PySem.EqNone.ne_none_int (fin_bl I q (by simp))
    | str j => obtain ⟨t', rfl⟩ := ry; exact PySem.EqNone.ne_none_str (fin_bl I q (by simp))
    | _ => exact absurd (show false = true from hs) Bool.false_ne_true
  | bl i =>
    cases rx
    cases y with
    | non => cases ry; exact PySem.EqNone.ne_bool_none (fin_bl I q (by simp))
    | bl j => cases ry; exact ne_bool (fin_bl I q (congrArg not dec_bl))
    | str j => obtain ⟨t', rfl⟩ := ry; exact PySem.EqMixed.ne_bool_str (fin_bl I q (by simp))
    | _ => exact absurd (show false = true from hs) Bool.false_ne_true
  | int i =>
    obtain ⟨t, rfl⟩ := rx
    cases y with
    | non => cases ry; exact PySem.EqNone.ne_int_none (fin_bl I q (by simp))
    | int j => obtain ⟨t', rfl⟩ := ry; exact ne_int (fin_bl I q (congrArg not dec_int))
    | str j => obtain ⟨t', rfl⟩ := ry; exact PySem.EqMixed.ne_int_str (fin_bl I q (by simp))
    | _ => exact absurd (show false = true from hs) Bool.false_ne_true
  | str i =>
    obtain ⟨t, rfl⟩ := rx
    cases y with
    | non => cases ry; exact PySem.EqNone.ne_str_none (fin_bl I q (by simp))
    | bl j => cases ry; exact PySem.EqMixed.ne_str_bool (fin_bl I q (by simp))
    | int j => obtain ⟨t', rfl⟩ := ry; exact PySem.EqMixed.ne_str_int (fin_bl I q (by simp))
    | str j => obtain ⟨t', rfl⟩ := ry; exact ne_str (fin_bl I q (congrArg not dec_str))
    | _ => exact absurd (show false = true from hs) Bool.false_ne_true
  | byt i =>
    obtain ⟨t, rfl⟩ := rx
    cases y with
    | byt j => obtain ⟨t', rfl⟩ := ry; exact PySem.W.ne_bytes (fin_bl I q (congrArg not dec_byt))
    | _ => exact absurd (show false = true from hs) Bool.false_ne_true
  | _ => cases y <;> exact absurd (show false = true from hs) Bool.false_ne_true
theorem op_lt : OpR X (compareOp .Lt) (rI0 fun i j => .bl (decide (i < j))) := opB0 fun _ _ _ _ _ _ _ q => lt_int q
theorem op_le : OpR X (compareOp .LtE) (rI0 fun i j => .bl (decide (i ≤ j))) := opB0 fun _ _ _ _ _ _ _ q => le_int q
theorem op_gt : OpR X (compareOp .Gt) (rI0 fun i j => .bl (decide (j < i))) := opB0 fun _ _ _ _ _ _ _ q => gt_int q
theorem op_ge : OpR X (compareOp .GtE) (rI0 fun i j => .bl (decide (j ≤ i))) := opB0 fun _ _ _ _ _ _ _ q => ge_int q
def isObj : HO → Bool
  | .lst _ => true
  | .ins _ _ _ => true
  | _ => false
theorem nomark (b : Expr) {op : CmpOp} (h : op ≠ .In := by decide) (h2 : op ≠ .NotIn := by decide) : behindInMarks op b = false := by
  have e1 : (op == CmpOp.In) = false := by cases op <;> first | rfl | exact absurd rfl h
  have e2 : (op == CmpOp.NotIn) = false := by cases op <;> first | rfl | exact absurd rfl h2
  cases b <;> simp [behindInMarks, e1, e2]
theorem pe_cmpR {op : CmpOp} {r : R2} (ho : OpR X (compareOp op) r) (ha : PE X a ta) (hb : PE X b tb) (hm : behindInMarks op b = false) : PE X (.Compare a [op] [b] pos) (tOp r ta tb) := by
  intro pins s σ H Q I h
  exact wpAny_Compare1 (binT ha hb I h fun v u s2 x y H2 I2 rx ry q => ho pins s2 σ H2 x y v u Q I2 rx ry q) hm
def tTest (t : TE) : TT := fun σ H Q => t σ H fun x H' => ∃ k, x = .bl k ∧ Q k H'
theorem pt_cmpR {op : CmpOp} {r : R2} (ho : OpR X (compareOp op) r) (ha : PE X a ta) (hb : PE X b tb) (hm : behindInMarks op b = false) : PT X (.Compare a [op] [b] pos) (tTest (tOp r ta tb)) := by
  intro pins s σ H Q I h
  refine wpAny_isTrue_Compare1 (thn (ha pins s σ H _ I h) fun v s1 ⟨x, H1, I1, r1, q1⟩ => thn (hb pins s1 σ H1 _ I1 q1) fun u s2 ⟨y, H2, I2, r2, q2⟩ =>
    thn (ho pins s2 σ H2 x y v u _ I2 r1 r2 q2) fun c s3 ⟨z, H3, I3, r3, k, e, q3⟩ => ?_) hm
  subst e
  cases r3
  exact wpAny_truthy_bool ⟨H3, I3, q3⟩
def tChain (r r' : R2) (ta tb tc : TE) : TE := fun σ H Q => ta σ H fun x H1 => tb σ H1 fun y H2 => r x y H2 fun z H3 => ∃ k, z = .bl k ∧
  (if k = true then tc σ H3 fun w' H4 => r' y w' H4 Q else Q (.bl false) H3)
theorem pe_chain {op op' : CmpOp} {r r' : R2} (ho : OpR X (compareOp op) r) (ho' : OpR X (compareOp op') r') (ha : PE X a ta) (hb : PE X b tb) (hc : PE X c tc)
    (hm : lastMarks [op, op'] [b, c] = false := by with_unfolding_all rfl) : PE X (.Compare a [op, op'] [b, c] pos) (tChain r r' ta tb tc) := by
  intro pins s σ H Q I h
  refine Compare_chain (thn (ha pins s σ H _ I h) fun v s1 ⟨x, H1, I1, r1, q1⟩ => chain_link (thn (hb pins s1 σ H1 _ I1 q1) fun u s2 ⟨y, H2, I2, r2, q2⟩ =>
    thn (ho pins s2 σ H2 x y v u _ I2 r1 r2 q2) fun d s3 ⟨z, H3, I3, r3, k, e, q3⟩ => ?_)) hm
  subst e
  cases r3
  refine wpAny_truthy_bool ?_
  cases k with
  | false => exact ite_ff ⟨.bl false, H3, I3, rfl, q3⟩
  | true => exact ite_tt (chain_last (thn (hc pins s3 σ H3 _ I3 q3) fun w' s4 ⟨z', H4, I4, r4, q4⟩ => ho' pins s4 σ H4 y z' u w' Q I4 r2 r4 q4))
def TruV (K : PySem.W.Frag) (x : V) (H : Hp) (k : Bool) : Prop :=
  match x with
  | .non => k = false
  | .bl b => k = b
  | .int i => k = (i != 0)
  | .str y => y.length ≤ sizeLine ∧ k = ((y.length : Int) != 0)
  | .byt y => y.size ≤ sizeLine ∧ k = ((y.size : Int) != 0)
  | .ref p => (∃ xs, SqL K H p xs ∧ k = !xs.isEmpty) ∨ (∃ xs, SqT K H p xs ∧ k = !xs.isEmpty) ∨ ∃ kvs, H p = some (.dK kvs) ∧ k = !kvs.isEmpty
  | _ => False
theorem isEmpty_kv {κ : Type} {kvs : List (κ × V)} {vs : List (κ × Value)} (r : KV kvs vs) : (!vs.isEmpty) = !kvs.isEmpty := by
  cases r <;> rfl
theorem isEmpty_of {xs : List V} {its : List Value} (r : Vals xs its) : (!its.toArray.isEmpty) = !xs.isEmpty := by
  cases r <;> simp
theorem line63 : (sizeLine : Nat) < 2 ^ 63 := by rw [sizeLine_eq]; decide
theorem tru_ok : TruR X (fun x H Q => ∃ k, TruV X.K x H k ∧ Q k H) := by
  intro pins s σ H x v Q I rx h
  obtain ⟨k, e, q⟩ := h
  have hl := line63
  have hs : sizeLine = 16777216 := sizeLine_eq
  cases x with
  | non =>
    cases rx
    have e' : k = false := e
    subst e'
    exact truthy_none ⟨H, I, q⟩
  | bl b =>
    cases rx
    have e' : k = b := e
    subst e'
    exact wpAny_truthy_bool ⟨H, I, q⟩
  | int i =>
    obtain ⟨t, rfl⟩ := rx
    have e' : k = (i != 0) := e
    subst e'
    exact PySem.P.truthy_int ⟨H, I, q⟩
  | str y =>
    obtain ⟨t, rfl⟩ := rx
    obtain ⟨hy, e'⟩ : y.length ≤ sizeLine ∧ k = ((y.length : Int) != 0) := e
    subst e'
    exact PySem.P.truthy_str (by omega) ⟨H, I.tok _, q⟩
  | byt y =>
    obtain ⟨t, rfl⟩ := rx
    obtain ⟨hy, e'⟩ : y.size ≤ sizeLine ∧ k = ((y.size : Int) != 0) := e
    subst e'
    exact PySem.W.truthy_bytes (by omega) ⟨H, I.tok _, q⟩
  | ref p =>
    cases rx
    have e' : (∃ xs, SqL X.K H p xs ∧ k = !xs.isEmpty) ∨ (∃ xs, SqT X.K H p xs ∧ k = !xs.isEmpty) ∨ ∃ kvs, H p = some (.dK kvs) ∧ k = !kvs.isEmpty := e
    rcases e' with ⟨xs, hx, e'⟩ | ⟨xs, hx, e'⟩ | ⟨kvs, hx, e'⟩
    · subst e'
      obtain ⟨its, r, pl, hz⟩ := I.list hx
      have hlen := r.length
      exact wpAny_truthy_list pl.isList (by simp only [List.size_toArray]; omega) ⟨H, I.tok _, by rw [isEmpty_of r]; exact q⟩
    · subst e'
      obtain ⟨its, r, pl, hz⟩ := I.tuple hx
      have hlen := r.length
      exact truthy_tuple pl (by simp only [List.size_toArray]; omega) ⟨H, I.tok _, by rw [isEmpty_of r]; exact q⟩
    · subst e'
      obtain ⟨hz, hS, vs, r, m⟩ : kvs.length ≤ sizeLine ∧ (p == sysModules) = false ∧ ∃ vs, KV kvs vs ∧ s.heap.DictOf (mixKind X.prog X.w) p vs := I.hok p _ hx
      have hlen : kvs.length = vs.length := Paired.length r
      exact wpAny_truthy_dict hS m (by omega) ⟨H, I.tok _, by rw [isEmpty_kv r]; exact q⟩
  | _ => exact (show False from e).elim
theorem pt_truth (ha : PE X a ta) (he : ∀ whole, isTrue a X.env whole = (do let v ← whole; standAt a.pos; holding [v] (truthy v))) :
    PT X a (fun σ H Q => ta σ H fun x H' => ∃ k, TruV X.K x H' k ∧ Q k H') := by
  intro pins s σ H Q I h
  exact isTrue_plain (thn (ha pins s σ H _ I h) fun v s1 ⟨x, H1, I1, r1, q1⟩ => tru_ok pins s1 σ H1 x v Q I1 r1 q1) (he _)
theorem op_add_str : OpR X (binaryOp .Add) (fun x y H Q => ∃ i j, x = .str i ∧ y = .str j ∧ i.length + j.length ≤ sizeLine ∧ Q (.str (i ++ j)) H) := by
  intro pins s σ H x y v u Q I rx ry h
  obtain ⟨i, j, rfl, rfl, hz, q⟩ := h
  obtain ⟨t, rfl⟩ := rx
  obtain ⟨t', rfl⟩ := ry
  exact add_str (fun t' tk => ⟨.str (i ++ j), H, I.tok _, ⟨_, rfl⟩, q⟩) hz
def PlainIxT (b : Expr) : Prop := ∀ o i, subscripted b false o i = operate [o, i] (getItem o i)
theorem vals1 {x : V} {us : List Value} (r : Vals [x] us) : ∃ u, us = [u] ∧ RelV x u := by
  cases r with
  | cons r1 r2 => cases r2; exact ⟨_, rfl, r1⟩
theorem vals2 {x y : V} {us : List Value} (r : Vals [x, y] us) : ∃ u w', us = [u, w'] ∧ RelV x u ∧ RelV y w' := by
  cases r with
  | cons r1 r2 =>
    cases r2 with
    | cons r3 r4 => cases r4; exact ⟨_, _, rfl, r1, r3⟩
def LenV (K : PySem.W.Frag) (x : V) (H : Hp) (n : Nat) : Prop :=
  match x with
  | .str y => y.length ≤ sizeLine ∧ n = y.length
  | .byt y => y.size ≤ sizeLine ∧ n = y.size
  | .ref p => (∃ xs, SqL K H p xs ∧ n = xs.length) ∨ ∃ xs, SqT K H p xs ∧ n = xs.length
  | _ => False
end
end L2
namespace L2
open PySem PySem.Spec PyProof.Rows
structure ObjM (h : Heap) (x dx C : Addr) (mA : Str → Option Value) : Prop where
  obj : h.get? x = some (PySem.W.instObj C dx)
  ns : h.Ns1 dx mA
  ne : dx ≠ x
theorem lookIn_ns {h : Heap} {dx : Addr} {mA : Str → Option Value} (n : h.Ns1 dx mA) : ∃ od, h.get? dx = some od ∧ ∀ name, PySem.W.lookIn name od = some (mA name) := by
  obtain ⟨o, es, ep, ho, hd, hk, _, hm⟩ := n
  refine ⟨o, ho, fun name => ?_⟩
  have e := hm name
  unfold nsFind findBy at e
  rw [← Array.find?_toList] at e
  unfold PySem.W.lookIn
  rw [hd]
  dsimp only
  split
  · rename_i y q
    rw [q] at e
    exact congrArg some e
  · rename_i q
    rw [q] at e
    have a : es.toList.any (·.refKey) = false := by
      rw [List.any_eq_false]
      intro y hy
      obtain ⟨z, t, hkey⟩ := hk y (Array.mem_toList_iff.mp hy)
      simp [DictEntry.refKey, hkey]
    have a' : ¬ es.toList.any (·.refKey) = true := by rw [a]; exact Bool.false_ne_true
    rw [if_neg a']
    exact congrArg some e
theorem ObjM.look {h : Heap} {x dx C : Addr} {mA : Str → Option Value} (I : ObjM h x dx C mA) : ∃ od, PySem.W.InstAt h x (PySem.W.instObj C dx) C (some od) ∧ ∀ name, PySem.W.lookIn name od = some (mA name) :=
  let ⟨od, ho, hl⟩ := lookIn_ns I.ns
  ⟨od, ⟨I.obj, rfl, rfl, ho⟩, hl⟩
section
variable {prog : Program} {w : World} {A : Around} {E : Value → Shared → Prop} {s : Shared} {K : PySem.W.Frag} {x dx C f : Addr} {mA : Str → Option Value} {name : Str} {v : Value}
end
def putF (f : Str) (v : V) : List (Str × V) → List (Str × V)
  | [] => [(f, v)]
  | (g, x) :: r => if g = f then (g, v) :: r else (g, x) :: putF f v r
theorem RelO.some_of {v : V} {o : Option Value} (r : RelO (some v) o) : ∃ u, o = some u ∧ RelV v u := by
  cases o with
  | none => exact (show False from r).elim
  | some u => exact ⟨u, rfl, r⟩
section
variable {P : Program} {w : World} {H H' : Hp} {h h' : Heap} {a C dx : Addr} {fs fs' : List (Str × V)}
theorem ins_get (hok : HOk P w H h) (e : H a = some (.ins C dx fs)) : ∃ mA, ObjM h a dx C mA ∧ (∀ f, RelO (fs.lookup f) (mA f)) ∧ PySem.Within mA (fs.map (·.1)) ∧ fs.length ≤ 1000 ∧ H dx = some (.own a) := by
  obtain ⟨d, z, ne, ob, mA, n, r, q⟩ := (show ObjOk P w H h a (.ins C dx fs) from hok a _ e)
  exact ⟨mA, ⟨ob, n, ne⟩, r, q, z, d⟩
end
structure Cls (K : PySem.W.Frag) (C : Addr) : Prop where
  pg : PySem.W.plainGet K C Str.empty = true
  hd : PySem.W.hasDictIn K C = true
  po : PySem.W.plainOver K C = true
  sa : PySem.W.findIn K (.ref C) "__setattr__" = some (some (.builtin "object.__setattr__"))
theorem Cls.get {K : PySem.W.Frag} {C : Addr} (c : Cls K C) (f : Str) : PySem.W.plainGet K C f = true := c.pg
def NoAttr (K : PySem.W.Frag) (C : Addr) (f : Str) : Prop := PySem.W.findIn K (.ref C) f = some none
structure Con (K : PySem.W.Frag) (C : Addr) (f : Str) (v : V) (u : Value) : Prop where
  at_ : PySem.W.findIn K (.ref C) f = some (some u)
  rel : RelV v u
  get : PySem.W.specialIn K u "__get__" = some none
  cp : PySem.W.copiedNames.contains f = false
structure Meth (K : PySem.W.Frag) (C : Addr) (m : Str) (f : Addr) : Prop where
  at_ : PySem.W.findIn K (.ref C) m = some (some (.ref f))
  fn : PySem.W.isFn K (.ref f) = true
  kp : PySem.W.keepIn K (.ref f) = true
section
variable {X : Cx} {pins : List (Addr × Obj)} {σ : St} {H : Hp} {s : Shared} {a C dx : Addr} {fs : List (Str × V)} {f : Str} {v : V} {A : Around} {E : Value → Shared → Prop}
end
def tFld (K : PySem.W.Frag) (ta : TE) (f : Str) : TE := fun σ H Q => ta σ H fun x H1 => ∃ a C dx fs v, x = .ref a ∧ H1 a = some (.ins C dx fs) ∧ Cls K C ∧ NoAttr K C f ∧ fs.lookup f = some v ∧ Q v H1
def tCon (K : PySem.W.Frag) (ta : TE) (f : Str) : TE := fun σ H Q => ta σ H fun x H1 => ∃ a C dx fs v u, x = .ref a ∧ H1 a = some (.ins C dx fs) ∧ Cls K C ∧ Con K C f v u ∧ fs.lookup f = none ∧ Q v H1
def sFld (K : PySem.W.Frag) (ta tv : TE) (f : Str) : TS := fun D σ H => tv σ H fun y H1 => ta σ H1 fun x H2 => ∃ a C dx fs, x = .ref a ∧ H2 a = some (.ins C dx fs) ∧ Cls K C ∧ NoAttr K C f ∧ fs.length < 1000 ∧
  D.nx σ (upd H2 a (.ins C dx (putF f y fs)))
def InOp (X : Cx) (op : Operator) (rd : V → V → Hp → VK → Prop) : Prop :=
  ∀ (pins : List (Addr × Obj)) (s : Shared) (σ : St) (H : Hp) (x y : V) (u v : Value) (Q : VK), Inv X pins σ H s → RelV x u → RelV y v → rd x y H Q → wpAny (model X.prog X.w) X.A (inplaceOp op u v) (EP X pins σ Q) X.xe s
def sFldAug (K : PySem.W.Frag) (ta tv : TE) (rd : V → V → Hp → VK → Prop) (f : Str) : TS := fun D σ H => ta σ H fun x H1 => ∃ a C dx fs v, x = .ref a ∧ H1 a = some (.ins C dx fs) ∧ Cls K C ∧ NoAttr K C f ∧ fs.lookup f = some v ∧
  tv σ H1 fun y H2 => rd v y H2 fun z H3 => ∃ dx' fs', H3 a = some (.ins C dx' fs') ∧ fs'.length < 1000 ∧ D.nx σ (upd H3 a (.ins C dx' (putF f z fs')))
section
variable {X : Cx} {o e value : Expr} {f : Str} {pos pos' tpos : Pos} {ta tv : TE}
def rAdd : V → V → Hp → VK → Prop := fun x y H Q => ∃ i j, x = .int i ∧ y = .int j ∧ Q (.int (i + j)) H
def rSub : V → V → Hp → VK → Prop := fun x y H Q => ∃ i j, x = .int i ∧ y = .int j ∧ Q (.int (i - j)) H
end
section
variable {X : Cx} {pins : List (Addr × Obj)} {σ : St} {H : Hp} {s : Shared} {A : Around} {E : Value → Shared → Prop} {Q : Value → Shared → Prop} {c : Value} {b : Bool}
inductive TyOf (K : PySem.W.Frag) (H : Hp) : V → Value → Prop where
  | non : TyOf K H .non (.type "NoneType")
  | bl (x : Bool) : TyOf K H (.bl x) (.type "bool")
  | int (i : Int) : TyOf K H (.int i) (.type "int")
  | str (x : Str) : TyOf K H (.str x) (.type "str")
  | flt (x : UInt64) : TyOf K H (.flt x) (.type "float")
  | lst {a : Addr} {xs : List V} (e : H a = some (.lst xs)) : TyOf K H (.ref a) (.type "list")
  | frz {a : Addr} {o : Obj} {xs : List V} (e : H a = some (.frz o (.lst xs))) : TyOf K H (.ref a) (.type "list")
  | tup {a : Addr} {xs : List V} (e : H a = some (.tup xs)) : TyOf K H (.ref a) (.type "tuple")
  | dK {a : Addr} {kvs : List (Key × V)} (e : H a = some (.dK kvs)) : TyOf K H (.ref a) (.type "dict")
  | dT {a : Addr} {kvs : List (List Key × V)} (e : H a = some (.dT kvs)) : TyOf K H (.ref a) (.type "dict")
  | ins {a C dx : Addr} {fs : List (Str × V)} (e : H a = some (.ins C dx fs)) (cl : Cls K C) (ha : PySem.W.findIn K (.ref C) "__class__" = some (some (.builtin "object.__class__")))
      (hn : PySem.W.specialIn K (.builtin "object.__class__") "__get__" = some (some (.builtin "getset_descriptor.__get__"))) (htk : PySem.W.takesIn K (.builtin "object.__class__") = some true)
      (hm : PySem.W.mroIn K C (.type "object") = some true) : TyOf K H (.ref a) (.ref C)
theorem isinst_ok {x : V} {u t : Value} (I : Inv X pins σ H s) (rx : RelV x u) (ty : TyOf X.K H x t) (e : PySem.W.kitOne X.K t c = some b) (h : ∀ tk, Q (.bool b) { s with toks := tk }) :
    wpAny (model X.prog X.w) A (call (.builtin "isinstance") [u, c]) Q E s := by
  cases ty with
  | non => cases (show u = Value.none from rx); exact PySem.W.kia_one PySem.W.kitx_none I.kIn True.intro e (fun z => nomatch z) h
  | bl y => cases (show u = Value.bool y from rx); exact PySem.W.kia_one PySem.W.kitx_bool I.kIn True.intro e (fun z => nomatch z) h
  | int i => obtain ⟨t, q⟩ := (show ∃ t, u = Value.int i t from rx); cases q; exact PySem.W.kia_one PySem.W.kitx_int I.kIn True.intro e (fun z => nomatch z) h
  | str y => obtain ⟨t, q⟩ := (show ∃ t, u = Value.str y t from rx); cases q; exact PySem.W.kia_one PySem.W.kitx_str I.kIn True.intro e (fun z => nomatch z) h
  | flt y => obtain ⟨t, q⟩ := (show ∃ t, u = Value.float y t from rx); cases q; exact PySem.W.kia_one PySem.W.kitx_float I.kIn True.intro e (fun z => nomatch z) h
  | @lst a xs ea =>
    cases (show u = Value.ref a from rx)
    obtain ⟨_, _, n, _, h1⟩ := (show ObjOk X.prog X.w H s.heap a (.lst xs) from I.hok a _ ea)
    exact PySem.W.kia_one PySem.W.kitx_list I.kIn ⟨_, h1, rfl⟩ e (fun z => nomatch z) h
  | @frz a ob xs ea =>
    cases (show u = Value.ref a from rx)
    obtain ⟨_, _, _, n, _, h1⟩ := (show ObjOk X.prog X.w H s.heap a (.frz ob (.lst xs)) from I.hok a _ ea)
    exact PySem.W.kia_one PySem.W.kitx_list I.kIn ⟨_, h1, rfl⟩ e (fun z => nomatch z) h
  | @tup a xs ea =>
    cases (show u = Value.ref a from rx)
    obtain ⟨_, _, _, p⟩ := (show ObjOk X.prog X.w H s.heap a (.tup xs) from I.hok a _ ea)
    obtain ⟨o, h1, h2, _⟩ := p
    exact PySem.W.kia_one PySem.W.kitx_tuple I.kIn ⟨o, h1, h2⟩ e (fun z => nomatch z) h
  | @dK a kvs ea =>
    cases (show u = Value.ref a from rx)
    obtain ⟨_, _, vs, _, p⟩ := (show ObjOk X.prog X.w H s.heap a (.dK kvs) from I.hok a _ ea)
    obtain ⟨o, es, ep, h1, h2, _⟩ := p
    exact PySem.W.kia_one PySem.W.kitx_dict I.kIn ⟨o, h1, h2.1⟩ e (fun z => nomatch z) h
  | @dT a kvs ea =>
    cases (show u = Value.ref a from rx)
    obtain ⟨_, _, xs, _, o, es, ep, h1, h2, _⟩ := (show ObjOk X.prog X.w H s.heap a (.dT kvs) from I.hok a _ ea)
    exact PySem.W.kia_one PySem.W.kitx_dict I.kIn ⟨o, h1, h2.1⟩ e (fun z => nomatch z) h
  | @ins a C dx fs ea cl ha hn htk hm =>
    cases (show u = Value.ref a from rx)
    obtain ⟨mA, O, _⟩ := ins_get I.hok ea
    obtain ⟨od, J, _⟩ := O.look
    exact PySem.W.kia_one (PySem.W.kitx_own (cl.get _) cl.hd ha hn htk hm) I.kIn J e (fun z => nomatch z) h
end
end L2
namespace L2
open PySem PySem.Spec PyProof.Rows
structure Room (k : Nat) (A : Around) : Prop where
  hd : A.handled = none
  dp : A.depth + 3 * k + 5 < recursionLimit
  un : A.units + 16 * k + 200 < cLine
theorem Room.mono {j k : Nat} {A : Around} (r : Room k A) (h : j ≤ k) : Room j A := ⟨r.hd, by have := r.dp; omega, by have := r.un; omega⟩
theorem Room.deeper {k : Nat} {A : Around} (r : Room (k + 1) A) (env : Env) : Room k (A.deeper env) :=
  ⟨r.hd, by have := r.dp; show A.depth + 1 + 3 * k + 5 < _; omega, by have := r.un; show A.units + 3 + 16 * k + 200 < _; omega⟩
theorem Room.depth {k : Nat} {A : Around} (r : Room k A) : A.depth < recursionLimit := by have := r.dp; omega
theorem Room.units {k : Nat} {A : Around} (r : Room k A) : A.units + 64 < cLine := by have := r.un; omega
def tNil : TA := fun _ H Q => Q [] H
def tCons (ta : TE) (tr : TA) : TA := fun σ H Q => ta σ H fun x H1 => tr σ H1 fun xs H2 => Q (x :: xs) H2
section
variable {X : Cx} {e : Expr} {es : List Expr} {te : TE} {t : TA} {pos : Pos}
theorem pa_nil : PA X [] tNil := fun _ _ _ _ H Q I h => Calls.spliced_nil ⟨[], H, I, .nil, h⟩
theorem pa_cons (ha : PE X e te) (hr : PA X es t) (hs : starEach (e :: es) X.env = (false, eval e X.env) :: starEach es X.env := by rfl) : PA X (e :: es) (tCons te t) := by
  intro pos pins s σ H Q I h
  rw [hs]
  show wpAny _ _ (spliced ((false, eval e X.env) :: backTo pos (starEach es X.env))) _ _ s
  refine Calls.spliced_cons (thn (ha pins s σ H _ I h) fun u s1 ⟨x, H1, I1, r1, q1⟩ => ?_)
  exact thn (hr pos pins s1 σ H1 _ I1 q1) fun us s2 ⟨xs, H2, I2, r2, q2⟩ => ⟨x :: xs, H2, I2, .cons r1 r2, q2⟩
def tTup (t : TA) : TE := fun σ H Q => t σ H fun xs H1 => xs.length ≤ sizeLine ∧ ∀ p, H1 p = none → Q (.ref p) (upd H1 p (.tup xs))
def tLst (t : TA) : TE := fun σ H Q => t σ H fun xs H1 => xs.length ≤ sizeLine ∧ ∀ p, H1 p = none → Q (.ref p) (upd H1 p (.lst xs))
theorem pe_tup {x1} (h : PA X es t) : PE X (.Tuple es x1 pos) (tTup t) := by
  intro pins s σ H Q I hq
  refine wpAny_Tuple_spliced (thn (h pos pins s σ H _ I hq) fun us s1 ⟨xs, H1, I1, r, z, q⟩ => ⟨by rw [← r.length]; exact z, ?_⟩)
  have hf : H1 s1.heap.objs.size = none := I1.hok.fresh (Nat.le_refl _)
  refine ⟨.ref s1.heap.objs.size, upd H1 s1.heap.objs.size (.tup xs), I1.laid (t' := s1.toks) (fun b u e => Heap.get?_push_of_some _ e) (Nat.le_refl _) ?_, rfl, q _ hf⟩
  exact ⟨z, us, r, ⟨_, Heap.get?_push_size _ rfl, rfl, _, rfl⟩⟩
theorem pe_lst (h : PA X es t) : PE X (.List es pos) (tLst t) := by
  intro pins s σ H Q I hq
  refine wpAny_List_spliced (thn (h pos pins s σ H _ I hq) fun us s1 ⟨xs, H1, I1, r, z, q⟩ => ⟨by rw [← r.length]; exact z, ?_⟩)
  have hf : H1 s1.heap.objs.size = none := I1.hok.fresh (Nat.le_refl _)
  refine ⟨.ref s1.heap.objs.size, upd H1 s1.heap.objs.size (.lst xs), I1.laid (t' := s1.toks) (fun b u e => Heap.get?_push_of_some _ e) (Nat.le_refl _) ?_, rfl, q _ hf⟩
  exact ⟨z, us, 0, r, Heap.get?_push_size _ rfl⟩
end
abbrev Sp := List V → Hp → VK → XK → Prop
abbrev CXT := List Env → Hp → Shared → XK → Value → Shared → Prop
structure Env0 (P : Program) (w : World) (K : PySem.W.Frag) (mg : Str → Option Value) (base : Heap) (A : Around) (outer : List Env) (s : Shared) (H : Hp) : Prop where
  frames : A.frames = some outer
  mod : Mod K mg base
  bs : ∀ b o, base.get? b = some o → s.heap.get? b = some o ∧ H b = none
  bsz : base.objs.size ≤ s.heap.objs.size
  funs : s.heap.FunFrames base outer
  frf : ∀ b ∈ frs outer, H b = none
  hok : HOk P w H s.heap
  bare : AllBare s.gens
def CE (outer : List Env) (P : Program) (w : World) (H : Hp) (s : Shared) (Q : VK) (u : Value) (s' : Shared) : Prop :=
  ∃ v H', s'.os = s.os ∧ AllBare s'.gens ∧ Un (frs outer) [] H H' s.heap s'.heap ∧ HOk P w H' s'.heap ∧ RelV v u ∧ Q v H'
def CR (CX : CXT) (outer : List Env) (P : Program) (w : World) (H : Hp) (s : Shared) (Q : VK) (E : XK) (r : Result) (s' : Shared) : Prop :=
  match r with
  | .ok (.ret u) => CE outer P w H s Q u s'
  | .ok _ => False
  | .error e => CX outer H s E e s'
structure FnOk (P : Program) (w : World) (K : PySem.W.Frag) (mg : Str → Option Value) (base : Heap) (CX : CXT) (k : Nat) (f : Addr) (fd : FuncData) (ps : List Str) (sp : Sp) : Prop where
  len : ∀ vs H Q E, sp vs H Q E → vs.length = ps.length
  run : ∀ (A : Around) (outer : List Env) (s : Shared) (H : Hp) (args : Args) (us : List Value) (vs : List V) (Q : VK) (E : XK), Room k A → Env0 P w K mg base A outer s H → BindsTo s fd args (ps.zip us) → Vals vs us → sp vs H Q E →
    codeAny (model P w) A (.call (.ref f) args) (CR CX outer P w H s Q E) s
theorem FnOk.mono {P : Program} {w : World} {K : PySem.W.Frag} {mg : Str → Option Value} {base : Heap} {CX : CXT} {j k : Nat} {f : Addr} {fd : FuncData} {ps : List Str} {sp : Sp} (F : FnOk P w K mg base CX j f fd ps sp) (h : j ≤ k) :
    FnOk P w K mg base CX k f fd ps sp := ⟨F.len, fun A outer s H args us vs Q E hr => F.run A outer s H args us vs Q E (hr.mono h)⟩
section
variable {X : Cx} {pins : List (Addr × Obj)} {σ : St} {H : Hp} {s s' : Shared}
theorem Inv.env0 (I : Inv X pins σ H s) : Env0 X.prog X.w X.K X.mg X.base X.A X.stack s H :=
  ⟨I.ok.frames, I.ok.mod, I.bs, Nat.le_trans I.ok.bsz I.sz, I.stack, I.stkFree, I.hok, I.bare⟩
theorem Inv.after {Q : VK} {u : Value} (I : Inv X pins σ H s) (h : CE X.stack X.prog X.w H s Q u s') : EP X pins σ Q u s' := by
  obtain ⟨v, H', os, bare, un, hok, r, q⟩ := h
  obtain ⟨hh, g, d, t, os'⟩ := s'
  obtain rfl : os' = s.os := os
  exact ⟨v, H', I.call (h' := hh) (g' := g) (d' := d) (t' := t) (ch := []) un hok bare (fun b z => absurd z (by simp)), r, q⟩
end
def tCall (sp : Sp) (dvs : List V) (E : XK) (t : TA) : TE := fun σ H Q => t σ H fun vs H1 => sp (vs ++ dvs) H1 Q E
def tMeth (C : Addr) (m : Str) (sp : Sp) (dvs : List V) (E : XK) (ta : TE) (t : TA) : TE := fun σ H Q => ta σ H fun x H1 => ∃ a dx fs, x = .ref a ∧ H1 a = some (.ins C dx fs) ∧ fs.lookup m = none ∧
  t σ H1 fun vs H2 => sp (x :: (vs ++ dvs)) H2 Q E
def tMake (C : Addr) (sp : Sp) (dvs : List V) (E : XK) (t : TA) : TE := fun σ H Q => t σ H fun vs H1 => ∀ x dx, H1 x = none → H1 dx = none → dx ≠ x →
  sp (.ref x :: (vs ++ dvs)) (upd (upd H1 dx (.own x)) x (.ins C dx [])) (fun v H2 => v = .non ∧ Q (.ref x) H2) E
def Binds (K : PySem.W.Frag) (fd : FuncData) (ps : List Str) (ds : List Value) : Prop :=
  ∀ (s : Shared) (us : List Value), K.In s.heap → (us ++ ds).length = ps.length → BindsTo s fd ⟨us, []⟩ (ps.zip (us ++ ds))
theorem Binds.all {K : PySem.W.Frag} {fd : FuncData} {ps : List Str} (h : ∀ us : List Value, us.length = ps.length → bindArgs fd ⟨us, []⟩ = pure (ps.zip us)) : Binds K fd ps [] := fun s us _ hl => by
  rw [List.append_nil] at hl ⊢
  exact .of_eq (h us hl)
def Passes (CX : CXT) (X : Cx) (E : XK) : Prop := ∀ (pins : List (Addr × Obj)) (σ : St) (H : Hp) (s : Shared) (e : Value) (s' : Shared), Inv X pins σ H s → CX X.stack H s E e s' → X.xe e s'
section
variable {X : Cx} {CX : CXT} {k : Nat} {f C : Addr} {fd : FuncData} {ps : List Str} {sp : Sp} {dvs : List V} {ds : List Value} {E : XK} {x m : Str} {p pos apos : Pos} {e o : Expr} {es : List Expr} {ta : TE} {t : TA}
theorem run_fn {pins : List (Addr × Obj)} {σ : St} {H : Hp} {s : Shared} {Q : VK} {us : List Value} {vs : List V} (F : FnOk X.prog X.w X.K X.mg X.base CX k f fd ps sp) (hr : Room k X.A) (hb : Binds X.K fd ps ds) (hd : Vals dvs ds) (hx : Passes CX X E)
    (I : Inv X pins σ H s) (r : Vals vs us) (h : sp (vs ++ dvs) H Q E) : wpAny (model X.prog X.w) X.A (call (.ref f) us) (EP X pins σ Q) X.xe s := by
  have r2 : Vals (vs ++ dvs) (us ++ ds) := r.append hd
  have hl : (us ++ ds).length = ps.length := by rw [← r2.length]; exact F.len _ _ _ _ h
  refine wpAny_call (codeAny_mono (F.run X.A X.stack s H ⟨us, []⟩ (us ++ ds) (vs ++ dvs) Q E hr I.env0 (hb s us I.kIn hl) r2 h) fun r s' hq => ?_)
  cases r with
  | error e => exact hx pins σ H s e s' I hq
  | ok fl =>
    cases fl with
    | ret u => exact I.after hq
    | next => exact False.elim hq
    | brk => exact False.elim hq
    | cont => exact False.elim hq
theorem pe_call (F : FnOk X.prog X.w X.K X.mg X.base CX k f fd ps sp) (hr : Room k X.A) (hg : Gl X x) (hm : X.mg x = some (.ref f)) (hk : PySem.W.keepIn X.K (.ref f) = true) (hb : Binds X.K fd ps ds) (hd : Vals dvs ds) (hx : Passes CX X E)
    (ha : PA X (e :: es) t) (hdb : (x == ("__debug__" : Str)) = false := by decide) (he : starEach (e :: es) X.env = (false, eval e X.env) :: starEach es X.env := by rfl) (hpl : (backTo pos (starEach es X.env)).any (·.1) = false := by rfl) :
    PE X (.Call (.Name x p) (e :: es) [] pos) (tCall sp dvs E t) := by
  intro pins s σ H Q I h
  refine wpAny_Call_Name_kw (ld_glob I hg hm ?_ hdb)
  refine PySem.W.callWith_K (h₀ := X.base) I.ok.mod.kin hk (thn (ha pos pins s σ H _ I h) fun us s1 ⟨vs, H1, I1, r, q⟩ => ⟨I1.kIn, ?_⟩) he hpl
  exact run_fn F hr hb hd hx I1 r q
structure Mk (K : PySem.W.Frag) (C f : Addr) : Prop where
  makes : PySem.W.makesIn K C = true
  init : PySem.W.findIn K (.ref C) "__init__" = some (some (.ref f))
  fn : PySem.W.isFn K (.ref f) = true
  kp : PySem.W.keepIn K (.ref C) = true
end
def PK (X : Cx) (kws : List Keyword) (t : TA) : Prop :=
  ∀ (pos : Pos) (pins : List (Addr × Obj)) (s : Shared) (σ : St) (H : Hp) (Q : List V → Hp → Prop), Inv X pins σ H s → t σ H Q → wpAny (model X.prog X.w) X.A (evalAll ((backToKw pos (keywordEach kws X.env)).map (·.2))) (AP X pins σ Q) X.xe s
section
variable {X : Cx} {CX : CXT} {k : Nat} {f C : Addr} {fd : FuncData} {ps ks : List Str} {sp : Sp} {E : XK} {x m : Str} {p pos apos kpos : Pos} {e o : Expr} {es : List Expr} {kws : List Keyword} {te ta : TE} {t tk : TA} {nm : Option Str}
structure KBinds (K : PySem.W.Frag) (fd : FuncData) (ps ks : List Str) (g : List Value → List Value → List Value) (gV : List V → List V → List V) : Prop where
  to : ∀ (s : Shared) (us ws : List Value), K.In s.heap → (g us ws).length = ps.length → BindsTo s fd ⟨us, ks.zip ws⟩ (ps.zip (g us ws))
  rel : ∀ {vs : List V} {us : List Value} {zs : List V} {ws : List Value}, Vals vs us → Vals zs ws → Vals (gV vs zs) (g us ws)
def tCallK (sp : Sp) (gV : List V → List V → List V) (E : XK) (t tk : TA) : TE := fun σ H Q => t σ H fun vs H1 => tk σ H1 fun zs H2 => sp (gV vs zs) H2 Q E
variable {g : List Value → List Value → List Value} {gV : List V → List V → List V}
end
structure FnScope (N P : List Str) (sc : Scope) : Prop where
  kind : sc.kind = .function
  co : sc.isCoroutine = false
  gen : sc.isGenerator = false
  nd : N.Nodup
  pre : N.take P.length = P
  par : ∀ x ∈ P, sc.names.lookup x = some .local ∨ sc.names.lookup x = some .cell
  nofree : ∀ y ∈ sc.names, y.2 ≠ .free
theorem bindL_out {kindOf : Str → Option NameKind} {x : Str} : ∀ {binds : List (Str × Value)} {m : Str → Option Value}, (∀ v, (x, v) ∉ binds) → bindL kindOf binds m x = m x
  | [], _, _ => rfl
  | (n, v) :: r, m, h => by
    unfold bindL
    rw [bindL_out fun w hw => h w (List.mem_cons_of_mem _ hw)]
    split
    · have : x ≠ n := by rintro rfl; exact h v List.mem_cons_self
      simp [this]
    · rfl
theorem bindC_out {kindOf : Str → Option NameKind} {x : Str} : ∀ {binds : List (Str × Value)} {m : Str → Option Value}, (∀ v, (x, v) ∉ binds) → bindC kindOf binds m x = m x
  | [], _, _ => rfl
  | (n, v) :: r, m, h => by
    unfold bindC
    rw [bindC_out fun w hw => h w (List.mem_cons_of_mem _ hw)]
    split
    · rfl
    · have : x ≠ n := by rintro rfl; exact h v List.mem_cons_self
      simp [this]
theorem bindL_get {kindOf : Str → Option NameKind} {x : Str} {v : Value} : ∀ {P : List Str} {vs : List Value} {i : Nat} {m : Str → Option Value}, P.Nodup → P[i]? = some x → vs[i]? = some v → kindOf x = some .local →
    bindL kindOf (P.zip vs) m x = some v
  | [], _, _, _, _, h, _, _ => by simp at h
  | _ :: _, [], _, _, _, _, h, _ => by simp at h
  | p :: P, w :: vs, 0, m, nd, h1, h2, hk => by
    simp at h1 h2; subst h1; subst h2
    show bindL kindOf ((p, w) :: P.zip vs) m p = _
    unfold bindL
    rw [bindL_out fun v hv => (List.nodup_cons.mp nd).1 (List.of_mem_zip hv).1, if_pos hk]
    simp
  | p :: P, w :: vs, i + 1, m, nd, h1, h2, hk => by
    show bindL kindOf ((p, w) :: P.zip vs) m x = _
    unfold bindL
    exact bindL_get (i := i) (List.nodup_cons.mp nd).2 (by simpa using h1) (by simpa using h2) hk
theorem bindC_get {kindOf : Str → Option NameKind} {x : Str} {v : Value} : ∀ {P : List Str} {vs : List Value} {i : Nat} {m : Str → Option Value}, P.Nodup → P[i]? = some x → vs[i]? = some v → kindOf x ≠ some .local →
    bindC kindOf (P.zip vs) m x = some v
  | [], _, _, _, _, h, _, _ => by simp at h
  | _ :: _, [], _, _, _, _, h, _ => by simp at h
  | p :: P, w :: vs, 0, m, nd, h1, h2, hk => by
    simp at h1 h2; subst h1; subst h2
    show bindC kindOf ((p, w) :: P.zip vs) m p = _
    unfold bindC
    rw [bindC_out fun v hv => (List.nodup_cons.mp nd).1 (List.of_mem_zip hv).1, if_neg hk]
    simp
  | p :: P, w :: vs, i + 1, m, nd, h1, h2, hk => by
    show bindC kindOf ((p, w) :: P.zip vs) m x = _
    unfold bindC
    exact bindC_get (i := i) (List.nodup_cons.mp nd).2 (by simpa using h1) (by simpa using h2) hk
def start (N : List Str) (vs : List V) : St := vs.map some ++ List.replicate (N.length - vs.length) none
def cxOf (CX : CXT) (P : Program) (w : World) (K : PySem.W.Frag) (mg : Str → Option Value) (base : Heap) (N : List Str) (qual : Str) (scope : Scope) (f : Addr) (cd : Value) (A : Around) (outer : List Env) (s : Shared) (H : Hp) (E : XK) : Cx where
  prog := P
  w := w
  K := K
  mg := mg
  base := base
  A := A.deeper (envOfC qual scope s.heap.objs.size f cd)
  N := N
  s₀ := s
  H₀ := H
  env := envOfC qual scope s.heap.objs.size f cd
  outer := outer
  stack := envOfC qual scope s.heap.objs.size f cd :: outer
  ex := []
  calm := true
  fn := fun _ => true
  pn := []
  xe := fun e s' => wpAny (model P w) (A.deeper (envOfC qual scope s.heap.objs.size f cd)) (leaving (envOfC qual scope s.heap.objs.size f cd) e) (fun _ s'' => CX outer H s E e s'') (fun e' s'' => CX outer H s E e' s'') s'
theorem cell_has {sc : Scope} {n : Nat} {x : Str} (h : sc.names.lookup x = some .cell) : ∃ c, (cellsFrom n sc.names []).lookup x = some c := by
  have q := PySem.W.cellsFrom_some sc.names n [] (.inl h)
  exact Option.isSome_iff_exists.mp q
theorem inv_start {CX : CXT} {P : Program} {w : World} {K : PySem.W.Frag} {mg : Str → Option Value} {base : Heap} {N ps : List Str} {qual : Str} {scope : Scope} {f : Addr} {cd : Value} {A : Around} {outer : List Env} {s s1 : Shared} {H : Hp} {E : XK} {us : List Value} {vs : List V}
    (S : FnScope N ps scope) (hd : A.handled = none) (e0 : Env0 P w K mg base A outer s H) (hl : vs.length = ps.length) (r : Vals vs us)
    (x : InCallC s s.heap.objs.size (bindL (envOfC qual scope s.heap.objs.size f cd).kindOf (ps.zip us) fun _ => none) (cellsFrom (s.heap.objs.size + 1) scope.names []) (bindC (envOfC qual scope s.heap.objs.size f cd).kindOf (ps.zip us) fun _ => none) s1) :
    Inv (cxOf CX P w K mg base N qual scope f cd A outer s H E) [] (start N vs) H s1 := by
  have hpl : ps.length ≤ N.length := by have := congrArg List.length S.pre; rw [List.length_take] at this; omega
  obtain ⟨h1, tk, rfl, hk⟩ := x.done
  have noA : ∀ b : Addr, b ∉ (cxOf CX P w K mg base N qual scope f cd A outer s H E).ex := fun b z => absurd (show b ∈ ([] : List Addr) from z) (by simp)
  refine ⟨⟨e0.mod, S.kind, rfl, rfl, Nat.le_refl _, fun y z c h1 h2 => ?_, fun y hy => ?_, fun y c _ h => ?_, fun _ => hd, Around.frames_deeper e0.frames, .inr ⟨rfl, rfl⟩, fun b z => absurd z (noA b), e0.bs, e0.bsz, fun b _ _ => noA b, fun b z => absurd z (noA b), e0.funs, e0.frf⟩,
    rfl, e0.bare, Un.kept hk, ⟨_, x.toInCall.ns, fun i y v h1 h2 h3 => ?_⟩, fun y c h => ⟨_, x.cell y c h⟩, e0.hok.fresh (Nat.le_refl _), fun y c h => ?_, fun p hp => absurd (show p ∈ ([] : List (Addr × Obj)) from hp) (by simp), e0.hok.kept hk, ?_⟩
  · exact name_of_addr x.apart (PySem.mem_of_lookup h1) (PySem.mem_of_lookup h2)
  · have hy : scope.names.lookup y = some .cell ∨ scope.names.lookup y = some .free := hy
    rcases hy with hy | hy
    · exact cell_has hy
    · exact absurd rfl (S.nofree _ (PySem.mem_of_lookup hy))
  · exact Nat.le_of_lt (x.above y c (PySem.mem_of_lookup h))
  · have hi : i < vs.length := by
      unfold start at h2
      by_cases hi : i < vs.length
      · exact hi
      · rw [List.getElem?_append_right (by simpa using hi)] at h2
        rw [List.getElem?_replicate] at h2
        split at h2 <;> cases h2
    have ha : vs[i]? = some v := by
      unfold start at h2
      rw [List.getElem?_append_left (by simpa using hi), List.getElem?_map] at h2
      cases e : vs[i]? with
      | none => rw [e] at h2; cases h2
      | some a => rw [e] at h2; cases h2; rfl
    obtain ⟨u, hu, rv⟩ := r.get ha
    have hp : ps[i]? = some y := by
      rw [← S.pre, List.getElem?_take_of_lt (by omega)]; exact h1
    have ndP : ps.Nodup := by rw [← S.pre]; exact S.nd.sublist (List.take_sublist _ _)
    refine ⟨u, rv, ?_⟩
    rcases S.par y (List.mem_of_getElem? hp) with k | k
    · exact .inl ⟨k, bindL_get ndP hp hu k⟩
    · obtain ⟨c, e⟩ := cell_has (n := s.heap.objs.size + 1) k
      refine .inr ⟨.inl k, c, e, ?_⟩
      have q := x.cell y c e
      rw [bindC_get ndP hp hu (by show scope.names.lookup y ≠ _; rw [k]; decide)] at q
      exact q
  · exact e0.hok.fresh (Nat.le_of_lt (x.above y c (PySem.mem_of_lookup h)))
  · unfold start
    show _ = N.length
    rw [List.length_append, List.length_map, List.length_replicate]
    omega
theorem fn_of {CX : CXT} {P : Program} {w : World} {K : PySem.W.Frag} {mg : Str → Option Value} {base : Heap} {k : Nat} {f : Addr} {name qual : Str} {params : Arguments} {body : List Stmt} {scope : Scope} {dV kV doc pm cdv ct oc : Value} {an od : Option Addr}
    {osl : Array (Option Value)} {N ps : List Str} {sp : Sp} (lk : K.lookup f = some ⟨oc, od, .func (PySem.W.fnOf name qual params body scope dV kV doc pm an cdv ct), osl⟩) (hcd : PySem.W.codeIn K cdv qual = true) (S : FnScope N ps scope)
    (len : ∀ vs H Q E, sp vs H Q E → vs.length = ps.length)
    (hbody : ∀ (A : Around) (outer : List Env) (s : Shared) (H : Hp) (vs : List V) (Q : VK) (E : XK), Room k (A.deeper (envOfC qual scope s.heap.objs.size f cdv)) → sp vs H Q E →
      ∃ t, PSs (cxOf CX P w K mg base N qual scope f cdv A outer s H E) body t ∧ t { nx := fun _ H' => Q .non H', rt := Q } (start N vs) H) :
    FnOk P w K mg base CX (k + 1) f (PySem.W.fnOf name qual params body scope dV kV doc pm an cdv ct) ps sp := by
  refine ⟨len, fun A outer s H args us vs Q E hr e0 hb r hsp => ?_⟩
  have hl := len _ _ _ _ hsp
  have KX : K.In s.heap := e0.mod.kin.keeps fun b o e => (e0.bs b o e).1
  have lim : s.heap.NoLimit := e0.mod.nolimit.keeps fun b o e => (e0.bs b o e).1
  have hkind : ∀ y ∈ ps.zip us, scope.names.lookup y.1 = some .local ∨ (scope.names.lookup y.1 = some .cell ∧ ((cellsFrom (s.heap.objs.size + 1) scope.names []).lookup y.1).isSome = true) := fun ⟨n, v⟩ hy => by
    rcases S.par n (List.of_mem_zip hy).1 with q | q
    · exact .inl q
    · exact .inr ⟨q, PySem.W.cellsFrom_some _ _ _ (.inl q)⟩
  refine codeAny_call_function hr.depth (KX _ _ lk) rfl S.co S.gen rfl (PySem.W.codeRec_of KX hcd) (hb _ _ _ _ ?_)
  refine wpAny_newFunctionEnv_cells S.kind hkind fun env he s1 x => ?_
  subst he
  refine ⟨lim.keeps x.toInCall.keep, codeAny_func ?_⟩
  obtain ⟨t, ht, hq⟩ := hbody A outer s H vs Q E (hr.deeper _) hsp
  have I : Inv (cxOf CX P w K mg base N qual scope f cdv A outer s H E) [] (start N vs) H s1 := inv_start S hr.hd e0 hl r x
  refine wpAny_mono (ht [] s1 (start N vs) H _ I hq) (fun fl s' hs => ?_) fun e s' hs => hs
  have fin : ∀ {σ' : St} {H' : Hp} {v : V} {u : Value}, Inv (cxOf CX P w K mg base N qual scope f cdv A outer s H E) [] σ' H' s' → RelV v u → Q v H' → CE outer P w H s Q u s' :=
    fun {σ' H' v u} J rv q => ⟨v, H', J.os, J.bare, J.base, J.hok, rv, q⟩
  cases fl with
  | ret u =>
    obtain ⟨v, σ', H', J, rv, q⟩ := hs
    exact fin J rv q
  | next =>
    obtain ⟨σ', H', J, q⟩ := hs
    exact fin (v := V.non) (u := Value.none) J rfl q
  | brk =>
    obtain ⟨_, _, _, q⟩ := hs
    exact False.elim q
  | cont =>
    obtain ⟨_, _, _, q⟩ := hs
    exact False.elim q
end L2
namespace L2
open PySem PySem.Spec PyProof.Rows
section
variable {X : Cx} {x : Str} {p pos : Pos} {e : Expr} {es : List Expr} {t : TA} {id T : String} {r : List V → Hp → VK → Prop}
def tCB (r : List V → Hp → VK → Prop) (t : TA) : TE := fun σ H Q => t σ H fun vs H1 => r vs H1 Q
theorem pe_callB (hc : CallR X (.builtin id) r) (hg : Gl X x) (hm : X.mg x = none) (hv : bootBuiltins x = some (.builtin id)) (ha : PA X (e :: es) t) (hn : x ≠ "__name__" := by decide) (hdb : (x == ("__debug__" : Str)) = false := by decide)
    (he : starEach (e :: es) X.env = (false, eval e X.env) :: starEach es X.env := by rfl) (hpl : (backTo pos (starEach es X.env)).any (·.1) = false := by rfl) : PE X (.Call (.Name x p) (e :: es) [] pos) (tCB r t) := by
  intro pins s σ H Q I h
  refine wpAny_Call_Name_kw (ld_blt I hg hm hv ?_ hn hdb)
  exact PyProof.Rows.callWith_builtin1 (thn (ha pos pins s σ H _ I h) fun us s1 ⟨vs, H1, I1, r1, q1⟩ => hc pins s1 σ H1 vs us Q I1 r1 q1) he hpl
theorem pe_callTy (hc : CallR X (.type T) r) (hg : Gl X x) (hm : X.mg x = none) (hv : bootBuiltins x = some (.type T)) (ha : PA X (e :: es) t) (hn : x ≠ "__name__" := by decide) (hdb : (x == ("__debug__" : Str)) = false := by decide)
    (he : starEach (e :: es) X.env = (false, eval e X.env) :: starEach es X.env := by rfl) (hpl : (backTo pos (starEach es X.env)).any (·.1) = false := by rfl) : PE X (.Call (.Name x p) (e :: es) [] pos) (tCB r t) := by
  intro pins s σ H Q I h
  refine wpAny_Call_Name_kw (ld_blt I hg hm hv ?_ hn hdb)
  exact PyProof.Rows.callWith_type1 (thn (ha pos pins s σ H _ I h) fun us s1 ⟨vs, H1, I1, r1, q1⟩ => hc pins s1 σ H1 vs us Q I1 r1 q1) he hpl
end
end L2
namespace HT
open PySem PyProof.Rows
def lexLt : List Int → List Int → Bool
  | [], [] => false
  | [], _ :: _ => true
  | _ :: _, [] => false
  | x :: xs, y :: ys => if x = y then lexLt xs ys else decide (x < y)
section
open PySem.SeqAt
open PySem.AutoSeq1 (wpAny_loadPart')
open PySem.MeetsSeq PySem.MeetsSeq2 PySem.MeetsSeq3
end
section
variable {prog : Program} {w : World} {A : Around} {E : Value → Shared → Prop} {s : Shared}
theorem cat_tup {t b : Addr} {vs ws : List Value} {Q : Value → Shared → Prop} (ht : IsTup s.heap t vs.toArray) (hb : IsTup s.heap b ws.toArray) (hv : vs ≠ [])
    (h1 : ws = [] → Q (.ref t) s) (h2 : ws ≠ [] → Q (.ref s.heap.objs.size) { s with heap := s.heap.push { cls := .type "tuple", data := .seq (vs ++ ws).toArray } })
    (hsz : vs.length + ws.length ≤ sizeLine) : wpAny (model prog w) A (binaryOp .Add (.ref t) (.ref b)) Q E s := by
  obtain ⟨⟨cls, dd, data, sl⟩, ho, hc, n, hd⟩ := id ht
  obtain ⟨⟨cls2, dd2, data2, sl2⟩, ho2, hc2, n2, hd2⟩ := id hb
  simp only at hc hd hc2 hd2
  subst hc hd hc2 hd2
  have e : vs.toArray ++ ws.toArray = (vs ++ ws).toArray := by simp
  by_cases hw : ws = []
  · exact concat_meets ⟨_, ho, rfl⟩ ⟨_, ho2, rfl⟩ noFill_tuple_add seq_tuple_add PySem.F.slot_tuple_add PySem.F.entry_tuple_add (PySem.F.args_tuple_add_2 _ _)
      (tuple_addW1 t b vs.toArray ws.toArray n n2 dd dd2 sl sl2 (by simpa using hv) (by simp [hw])) ⟨ho, ho2, h1 hw⟩
  · refine concat_meets ⟨_, ho, rfl⟩ ⟨_, ho2, rfl⟩ noFill_tuple_add seq_tuple_add PySem.F.slot_tuple_add PySem.F.entry_tuple_add (PySem.F.args_tuple_add_2 _ _)
      (tuple_addW2 t b vs.toArray ws.toArray n n2 dd dd2 sl sl2 (by simpa using hv) (by simpa using hw) (by rw [List.size_toArray, List.size_toArray]; exact hsz)) ⟨ho, ho2, ?_⟩
    rw [e]
    exact h2 hw
def sIx (n d : Nat) : Option Int → Nat
  | none => d
  | some v => if v < 0 then (v + (n : Int)).toNat else min v.toNat n
theorem sIx_none (n d : Nat) : sIx n d none = d := rfl
theorem sIx_nat (n d k : Nat) : sIx n d (some (k : Int)) = min k n := by
  show (if (k : Int) < 0 then ((k : Int) + (n : Int)).toNat else min (k : Int).toNat n) = min k n
  rw [if_neg (by omega), Int.toNat_natCast]
theorem sIx_le (n d : Nat) (hd : d ≤ n) (o : Option Int) : sIx n d o ≤ n := by
  cases o with
  | none => exact hd
  | some v =>
    show (if v < 0 then (v + (n : Int)).toNat else min v.toNat n) ≤ n
    by_cases hv : v < 0
    · rw [if_pos hv]; omega
    · rw [if_neg hv]; exact Nat.min_le_right _ _
theorem clip_eq (v : Int) (n d : Nat) : (if v < 0 then max (v + (n : Int)) 0 else min v (n : Int)) = ((sIx n d (some v) : Nat) : Int) := by
  show (if v < 0 then max (v + (n : Int)) 0 else min v (n : Int)) = (((if v < 0 then (v + (n : Int)).toNat else min v.toNat n) : Nat) : Int)
  by_cases hv : v < 0
  · simp only [if_pos hv]; omega
  · simp only [if_neg hv]; omega
theorem adjust_gen (lo hi : Option Int) (n : Nat) : Builtin.Slice.sliceAdjust lo hi 1 (n : Int) = (((sIx n 0 lo : Nat) : Int), ((sIx n n hi : Nat) : Int)) := by
  have h1 : ¬ ((1 : Int) < 0) := by omega
  unfold Builtin.Slice.sliceAdjust
  simp only [h1, if_false]
  refine Prod.ext ?_ ?_
  · cases lo with
    | none => rfl
    | some v => exact clip_eq v n 0
  · cases hi with
    | none => rfl
    | some v => exact clip_eq v n n
theorem places_gen (i j : Nat) : Builtin.Slice.slicePlaces (i : Int) (j : Int) 1 = j - i := by
  unfold Builtin.Slice.slicePlaces
  have h1 : (1 : Int) > 0 := by omega
  simp only [h1, if_true, Int.ediv_one]
  split <;> omega
theorem slicePart_ {v : Value} {o : Option Int} {Q : Option Int → Shared → Prop} (p : IsPart v o) (h : Q o s) : wpAny (model prog w) A (Builtin.Slice.slicePartIndex v) Q E s := by
  cases p with
  | none => exact slicePart_none h
  | int i t => exact slicePart_int h
theorem sliceApplied_gen {sl : Addr} {vl vu : Value} {lo hi : Option Int} {n : Nat} {Q : Int × Int × Nat → Shared → Prop} (hs : s.heap.IsSliceOf sl vl vu .none) (pl : IsPart vl lo) (pu : IsPart vu hi)
    (h : Q (((sIx n 0 lo : Nat) : Int), 1, sIx n n hi - sIx n 0 lo) s) : wpAny (model prog w) A (Builtin.Slice.sliceApplied (.ref sl) (pure (n : Int))) Q E s := by
  obtain ⟨os, hos, hcs, hds⟩ := id hs
  unfold Builtin.Slice.sliceApplied Builtin.Slice.sliceFields
  refine wpAny_bind (wpAny_bind (wpAny_field hos hds (x := vl) rfl (wpAny_bind (wpAny_field hos hds (x := vu) rfl (wpAny_bind (wpAny_field hos hds (x := .none) rfl (wpAny_pure ?_)))))))
  refine wpAny_bind (slicePart_none ?_)
  show wpAny _ _ (if ((1 : Int) == 0) = true then _ else _) _ _ s
  rw [if_neg (by decide)]
  refine wpAny_bind (slicePart_ pl (wpAny_bind (slicePart_ pu (wpAny_bind (wpAny_pure ?_)))))
  show wpAny _ _ (match Builtin.Slice.sliceAdjust lo hi 1 (n : Int) with | (lo, hi) => pure (lo, (1 : Int), Builtin.Slice.slicePlaces lo hi 1)) _ _ s
  rw [adjust_gen lo hi n]
  show wpAny _ _ (pure (((sIx n 0 lo : Nat) : Int), (1 : Int), Builtin.Slice.slicePlaces ((sIx n 0 lo : Nat) : Int) ((sIx n n hi : Nat) : Int) 1)) _ _ s
  rw [places_gen]
  exact wpAny_pure h
theorem pick_gen (xs : Array Value) (i k : Nat) : ((List.range k).filterMap fun (m : Nat) => xs[((i : Int) + (m : Int) * 1).toNat]?).toArray = ((xs.toList.drop i).take k).toArray := by
  have e : (fun (m : Nat) => xs[((i : Int) + (m : Int) * 1).toNat]?) = fun m => xs[i + m]? := by
    funext m
    have : ((i : Int) + (m : Int) * 1).toNat = i + m := by omega
    rw [this]
  rw [e]
  have := pick_run xs i k
  rw [List.filterMap_map] at this
  have e2 : ((fun x => xs[x]?) ∘ fun x => i + x) = fun m => xs[i + m]? := rfl
  rw [e2] at this
  rw [this]
theorem getItem_tuple_cut {t sl : Addr} {items : Array Value} {vl vu : Value} {lo hi : Option Int} {Q : Value → Shared → Prop} (ht : IsTup s.heap t items) (hs : s.heap.IsSliceOf sl vl vu .none) (pl : IsPart vl lo) (pu : IsPart vu hi)
    (hw : ¬ (sIx items.size 0 lo = 0 ∧ sIx items.size items.size hi = items.size))
    (h : Q (.ref s.heap.objs.size) { s with heap := s.heap.push { cls := .type "tuple", data := .seq ((items.toList.drop (sIx items.size 0 lo)).take (sIx items.size items.size hi - sIx items.size 0 lo)).toArray } })
    (hsz : items.size ≤ sizeLine) : wpAny (model prog w) A (getItem (.ref t) (.ref sl)) Q E s := by
  have htake : sizeOk (.seq ((items.toList.drop (sIx items.size 0 lo)).take (sIx items.size items.size hi - sIx items.size 0 lo)).toArray) := by
    show ((items.toList.drop (sIx items.size 0 lo)).take (sIx items.size items.size hi - sIx items.size 0 lo)).toArray.size ≤ sizeLine
    rw [List.size_toArray, List.length_take, List.length_drop, Array.length_toList]
    omega
  have hj : sIx items.size items.size hi ≤ items.size := sIx_le _ _ (Nat.le_refl _) hi
  obtain ⟨os, hos, hcs, hds⟩ := id hs
  have hTs : s.TypeIs (.ref sl) "slice" := ⟨os, hos, hcs⟩
  unfold getItem
  try with_reducible refine wpAny_holding ?_
  first | refine wpAny_bind (wpAny_pure ?_) | skip
  refine wpAny_bind (wpAny_sequenceKey ht.typeIs (by decide) ?_)
  refine wpAny_bind (wpAny_callSpecial?_slot (name := Str.ofString "__getitem__") ht.typeIs PyProof.Rows.slot_tuple_getitem
    (wpAny_call_entry PyProof.Rows.slot_tuple_getitem ht.typeIs entry_tuple_getitem ?_ (args_tuple_getitem _ _)))
  show wpAny _ _ (Builtin.Tuple.tupleItemsOf (.ref t) >>= _) _ _ s
  refine wpAny_bind (tupleItemsOf_ ht ?_)
  refine wpAny_bind (wpAny_typeOf hTs ?_)
  rw [if_pos (by decide)]
  refine wpAny_bind (sliceApplied_gen hs pl pu ?_)
  have hno : ¬ ((((sIx items.size 0 lo : Nat) : Int) == 0 && (1 : Int) == 1 && (sIx items.size items.size hi - sIx items.size 0 lo) == items.size) = true) := by
    intro q
    rw [Bool.and_eq_true, Bool.and_eq_true] at q
    have q1 : ((sIx items.size 0 lo : Nat) : Int) = 0 := eq_of_beq q.1.1
    have q2 : sIx items.size items.size hi - sIx items.size 0 lo = items.size := eq_of_beq q.2
    exact hw ⟨by omega, by omega⟩
  show wpAny _ _ (if (((sIx items.size 0 lo : Nat) : Int) == 0 && (1 : Int) == 1 && (sIx items.size items.size hi - sIx items.size 0 lo) == items.size) = true then _ else _) _ _ s
  rw [if_neg hno, pick_gen]
  first
    | exact wpAny_bind (m := Builtin.Tuple.tupleExact _) (wpAny_newObj_type (wpAny_pure ⟨_, rfl, wpAny_pure h⟩) htake)
    | exact wpAny_bind (m := Builtin.Tuple.tupleExact _) (wpAny_newObj_type (wpAny_bind (wpAny_pure (wpAny_pure ⟨_, rfl, wpAny_pure h⟩))) htake)
    | exact wpAny_bind (wpAny_bind (m := Builtin.Tuple.tupleExact _) (wpAny_newObj_type (wpAny_pure (wpAny_pure ⟨_, rfl, wpAny_pure h⟩)) htake))
    | exact wpAny_bind (wpAny_bind (m := Builtin.Tuple.tupleExact _) (wpAny_newObj_type (wpAny_pure ⟨_, rfl, wpAny_pure h⟩) htake))
end
end HT
namespace L2
open PySem PySem.Spec PyProof.Rows
abbrev TO := St → Hp → (Option Int → Hp → Prop) → Prop
def PO (X : Cx) (e : Option Expr) (t : TO) : Prop :=
  ∀ (pins : List (Addr × Obj)) (s : Shared) (σ : St) (H : Hp) (Q : Option Int → Hp → Prop), Inv X pins σ H s → t σ H Q →
    wpAny (model X.prog X.w) X.A (evalPart e X.env) (fun u s' => ∃ o H', Inv X pins σ H' s' ∧ IsPart u o ∧ Q o H') X.xe s
def tNoPart : TO := fun _ H Q => Q none H
def tPart (t : TE) : TO := fun σ H Q => t σ H fun x H1 => ∃ i, x = .int i ∧ Q (some i) H1
section
variable {X : Cx} {e : Expr} {te : TE} {lo hi : Option Expr} {tl th : TO} {pos p2 : Pos}
theorem po_none : PO X none tNoPart := by
  intro pins s σ H Q I h
  rw [evalPart_none]
  exact wpAny_pure ⟨none, H, I, .none, h⟩
theorem po_some (h : PE X e te) : PO X (some e) (tPart te) := by
  intro pins s σ H Q I hw
  rw [evalPart_some]
  refine thn (h pins s σ H _ I hw) fun u s1 ⟨x, H1, I1, r1, q1⟩ => ?_
  obtain ⟨i, rfl, q⟩ := q1
  obtain ⟨t, rfl⟩ := r1
  exact ⟨some i, H1, I1, .int i t, q⟩
def SlR (X : Cx) (r : V → Option Int → Option Int → Hp → VK → Prop) : Prop :=
  ∀ (pins : List (Addr × Obj)) (s : Shared) (σ : St) (H : Hp) (x : V) (v vl vu : Value) (lo hi : Option Int) (sl : Addr) (Q : VK), Inv X pins σ H s → RelV x v → s.heap.IsSliceOf sl vl vu .none → IsPart vl lo → IsPart vu hi → r x lo hi H Q →
    ∃ T id, typeLookup (.type T) "__getitem__" = pure (some (.builtin id)) ∧ s.TypeIs v T ∧ wpAny (model X.prog X.w) X.A (getItem v (.ref sl)) (EP X pins σ Q) X.xe s
def tSl (r : V → Option Int → Option Int → Hp → VK → Prop) (te : TE) (tl th : TO) : TE := fun σ H Q => te σ H fun x H1 => tl σ H1 fun l H2 => th σ H2 fun u H3 => r x l u H3 Q
theorem pe_slice {r : V → Option Int → Option Int → Hp → VK → Prop} (hr : SlR X r) (he : PE X e te) (hl : PO X lo tl) (hu : PO X hi th) : PE X (.Subscript e (.Slice lo hi none p2) pos) (tSl r te tl th) := by
  intro pins s σ H Q I h
  refine Subscript_ (thn (he pins s σ H _ I h) fun v s1 ⟨x, H1, I1, r1, q1⟩ => ?_)
  refine wpAny_Slice (thn (hl pins s1 σ H1 _ I1 q1) fun vl s2 ⟨l, H2, I2, pl, q2⟩ => thn (hu pins s2 σ H2 _ I2 q2) fun vu s3 ⟨u, H3, I3, pu, q3⟩ => ?_)
  rw [evalPart_none]
  refine wpAny_pure ?_
  have I4 : Inv X pins σ H3 { s3 with heap := s3.heap.push { cls := .type "slice", data := .fields #[vl, vu, .none] } } := I3.kept (t' := s3.toks) fun b ob q => Heap.get?_push_of_some _ q
  obtain ⟨T, id, hT, ht, hg⟩ := hr pins { s3 with heap := s3.heap.push { cls := .type "slice", data := .fields #[vl, vu, .none] } } σ H3 x v vl vu l u s3.heap.objs.size Q I4 r1 (Heap.IsSliceOf.new ..) pl pu q3
  show wpAny (model X.prog X.w) X.A (subscriptTail e (.Slice lo hi none p2) v (.ref s3.heap.objs.size)) (EP X pins σ Q) X.xe { s3 with heap := s3.heap.push { cls := .type "slice", data := .fields #[vl, vu, .none] } }
  exact tail_any (ops := [.ref s3.heap.objs.size, v]) ht hT hg (by with_unfolding_all rfl)
def cutV (xs : List V) (lo hi : Option Int) : List V := (xs.drop (HT.sIx xs.length 0 lo)).take (HT.sIx xs.length xs.length hi - HT.sIx xs.length 0 lo)
theorem cutV_length (xs : List V) (lo hi : Option Int) : (cutV xs lo hi).length ≤ xs.length := by
  unfold cutV
  rw [List.length_take, List.length_drop]
  omega
def rSlT (K : PySem.W.Frag) : V → Option Int → Option Int → Hp → VK → Prop := fun x lo hi H Q => ∃ a xs, x = .ref a ∧ SqT K H a xs ∧
  ¬ (HT.sIx xs.length 0 lo = 0 ∧ HT.sIx xs.length xs.length hi = xs.length) ∧ ∀ p, H p = none → Q (.ref p) (upd H p (.tup (cutV xs lo hi)))
theorem sl_tup : SlR X (rSlT X.K) := by
  intro pins s σ H x v vl vu lo hi sl Q I rx hs pl pu h
  obtain ⟨a, xs, rfl, hx, hw, q⟩ := h
  cases rx
  obtain ⟨its, r, ht, hz⟩ := I.tuple hx
  have hlen : its.toArray.size = xs.length := by rw [List.size_toArray]; exact r.length.symm
  refine ⟨"tuple", _, PyProof.Rows.slot_tuple_getitem.lookup, ht.typeIs, ?_⟩
  refine HT.getItem_tuple_cut ht hs pl pu (by rw [hlen]; exact hw) ?_ (by rw [hlen]; exact hz)
  rw [hlen]
  refine ⟨.ref s.heap.objs.size, _, I.laid (t' := s.toks) (o := .tup (cutV xs lo hi)) (fun b ob q => Heap.get?_push_of_some _ q) (Nat.le_refl _) ?_, rfl, q _ (I.hok.fresh (Nat.le_refl _))⟩
  exact ⟨Nat.le_trans (cutV_length xs lo hi) hz, _, (r.drop (HT.sIx xs.length 0 lo)).take (HT.sIx xs.length xs.length hi - HT.sIx xs.length 0 lo), IsTup.new _ _⟩
def rLtT (K : PySem.W.Frag) : R2 := fun x y H Q => ∃ a b ns ms, x = .ref a ∧ y = .ref b ∧ SqT K H a (ns.map V.int) ∧ SqT K H b (ms.map V.int) ∧ Q (.bl (HT.lexLt ns ms)) H
def rCatT (K : PySem.W.Frag) : R2 := fun x y H Q => ∃ a b xs ys, x = .ref a ∧ y = .ref b ∧ SqT K H a xs ∧ SqT K H b ys ∧ xs ≠ [] ∧ xs.length + ys.length ≤ sizeLine ∧
  (ys = [] → Q (.ref a) H) ∧ (ys ≠ [] → ∀ p, H p = none → Q (.ref p) (upd H p (.tup (xs ++ ys))))
theorem Vals.nil_iff {xs : List V} {us : List Value} (r : Vals xs us) : us = [] ↔ xs = [] := by
  cases r with
  | nil => simp
  | cons _ _ => simp
theorem op_catT : OpR X (binaryOp .Add) (rCatT X.K) := by
  intro pins s σ H x y v u Q I rx ry h
  obtain ⟨a, b, xs, ys, rfl, rfl, ha, hb, hx, hz, q1, q2⟩ := h
  cases rx
  cases ry
  obtain ⟨its, r1, p1, _⟩ := I.tuple ha
  obtain ⟨its2, r2, p2, _⟩ := I.tuple hb
  refine HT.cat_tup p1 p2 (fun z => hx (r1.nil_iff.mp z)) (fun z => ⟨.ref a, H, I, rfl, q1 (r2.nil_iff.mp z)⟩) (fun z => ?_) (by rw [← r1.length, ← r2.length]; exact hz)
  refine ⟨.ref s.heap.objs.size, _, I.laid (t' := s.toks) (o := .tup (xs ++ ys)) (fun b ob q => Heap.get?_push_of_some _ q) (Nat.le_refl _) ?_, rfl, q2 (fun w => z (r2.nil_iff.mpr w)) _ (I.hok.fresh (Nat.le_refl _))⟩
  exact ⟨by rw [List.length_append]; exact hz, _, r1.append r2, IsTup.new _ _⟩
end
end L2
namespace L2
open PySem PySem.Spec PyProof.Rows
def ixN (n : Nat) (i : Int) : Option Nat := if 0 ≤ i then (if i < n then some i.toNat else none) else if -(n : Int) ≤ i then some (i + n).toNat else none
def atI {α : Type} (xs : List α) (i : Int) : Option α := (ixN xs.length i).bind fun j => xs[j]?
theorem ixN_seq {n : Nat} {i : Int} {j : Nat} (h : ixN n i = some j) : seqIndex? i n = some j ∧ j < n ∧ -(n : Int) ≤ i ∧ i < n := by
  unfold ixN at h
  by_cases h0 : 0 ≤ i
  · rw [if_pos h0] at h
    by_cases h1 : i < n
    · rw [if_pos h1] at h
      have e : i.toNat = j := Option.some.inj h
      exact ⟨by rw [seqIndex_of h0 h1, e], by omega, by omega, h1⟩
    · rw [if_neg h1] at h; cases h
  · rw [if_neg h0] at h
    by_cases h1 : -(n : Int) ≤ i
    · rw [if_pos h1] at h
      have e : (i + n).toNat = j := Option.some.inj h
      exact ⟨by rw [seqIndex_neg (by omega) h1, e], by omega, h1, by omega⟩
    · rw [if_neg h1] at h; cases h
theorem atI_get {α : Type} {xs : List α} {i : Int} {v : α} (h : atI xs i = some v) : ∃ j, seqIndex? i xs.length = some j ∧ xs[j]? = some v ∧ j < xs.length ∧ -(xs.length : Int) ≤ i ∧ i < xs.length := by
  unfold atI at h
  cases e : ixN xs.length i with
  | none => rw [e] at h; cases h
  | some j =>
    rw [e] at h
    obtain ⟨h1, h2, h3, h4⟩ := ixN_seq e
    exact ⟨j, h1, h, h2, h3, h4⟩
theorem atI_nat {α : Type} {xs : List α} {j : Nat} {v : α} (h : xs[j]? = some v) : atI xs (j : Int) = some v := by
  have hj : j < xs.length := (List.getElem?_eq_some_iff.mp h).1
  have e : ixN xs.length (j : Int) = some j := by
    unfold ixN
    rw [if_pos (by omega), if_pos (by omega)]; simp
  unfold atI; rw [e]; exact h
theorem atI_last {α : Type} (xs : List α) (v : α) : atI (xs ++ [v]) (-1) = some v := by
  have hl : (xs ++ [v]).length = xs.length + 1 := by simp
  have e : ixN (xs ++ [v]).length (-1) = some xs.length := by
    unfold ixN
    rw [hl, if_neg (by decide), if_pos (by omega)]
    congr 1
    omega
  unfold atI
  rw [e]
  show (xs ++ [v])[xs.length]? = some v
  simp
def PlainIx (b : Expr) : Prop := ∀ o i, subscripted b false o i = operate [o, i] (getItem o i)
def IxR (X : Cx) (r : R2) : Prop :=
  ∀ (value slice : Expr) (pins : List (Addr × Obj)) (s : Shared) (σ : St) (H : Hp) (x y : V) (v u : Value) (Q : VK), Inv X pins σ H s → RelV x v → RelV y u → r x y H Q →
    subscripted slice false v u = operate [v, u] (getItem v u) → wpAny (model X.prog X.w) X.A (subscriptTail value slice v u) (EP X pins σ Q) X.xe s
def MtR (X : Cx) (id : String) (r : V → List V → Hp → VK → Prop) : Prop :=
  ∀ (pins : List (Addr × Obj)) (s : Shared) (σ : St) (H : Hp) (x : V) (xs : List V) (v : Value) (us : List Value) (Q : VK), Inv X pins σ H s → RelV x v → Vals xs us → r x xs H Q →
    wpAny (model X.prog X.w) X.A (call (.builtin id) (v :: us)) (EP X pins σ Q) X.xe s
section
variable {X : Cx} {a b : Expr} {ta tb : TE} {pos : Pos}
theorem pe_ix {r : R2} (hr : IxR X r) (ha : PE X a ta) (hb : PE X b tb) (hs : PlainIx b) : PE X (.Subscript a b pos) (tOp r ta tb) := by
  intro pins s σ H Q I h
  exact Subscript_ (binT ha hb I h fun v u s2 x y H2 I2 rx ry q => hr a b pins s2 σ H2 x y v u Q I2 rx ry q (hs _ _))
def rIxL (K : PySem.W.Frag) : R2 := fun x y H Q => ∃ p xs i v, x = .ref p ∧ y = .int i ∧ SqL K H p xs ∧ atI xs i = some v ∧ Q v H
def rIxT (K : PySem.W.Frag) : R2 := fun x y H Q => ∃ p xs i v, x = .ref p ∧ y = .int i ∧ SqT K H p xs ∧ atI xs i = some v ∧ Q v H
def rIxS : R2 := fun x y H Q => ∃ z i c, x = .str z ∧ y = .int i ∧ z.length ≤ sizeLine ∧ atI z.cps.toList i = some c ∧ Q (.str ⟨#[c]⟩) H
theorem ix_list : IxR X (rIxL X.K) := by
  intro value slice pins s σ H x y v u Q I rx ry h hs
  obtain ⟨p, xs, i, z, rfl, rfl, hq, he, q⟩ := h
  cases rx
  obtain ⟨t, rfl⟩ := ry
  obtain ⟨its, r, pl, hz⟩ := I.list hq
  obtain ⟨j, h1, h2, h3, h4, h5⟩ := atI_get he
  obtain ⟨w, ew, rw'⟩ := r.get h2
  have hl := r.length
  have hn := line63
  have fin : EP X pins σ Q w s := ⟨z, H, I, rw', q⟩
  by_cases h0 : 0 ≤ i
  · have hj : i.toNat = j := by
      rw [seqIndex_of h0 h5] at h1
      exact Option.some.inj h1
    exact item_listR pl.isList h0 (by omega) (by rw [hj]; simpa using ew) fin hs
  · have hj : (i + (its.toArray.size : Int)).toNat = j := by
      rw [seqIndex_neg (by omega) h4] at h1
      rw [List.size_toArray, ← hl]
      exact Option.some.inj h1
    exact subscriptTail_builtinR (x := w) pl.isList.typeIs slot_list_getitem.lookup
      (wpAny_getItem_list_neg (Q := fun r s' => r = w ∧ EP X pins σ Q r s') pl.isList (by omega) (by rw [List.size_toArray] <;> omega) (by omega) (by rw [hj]; simpa using ew) ⟨rfl, fin⟩) hs
theorem ix_tup : IxR X (rIxT X.K) := by
  intro value slice pins s σ H x y v u Q I rx ry h hs
  obtain ⟨p, xs, i, z, rfl, rfl, hq, he, q⟩ := h
  cases rx
  obtain ⟨t, rfl⟩ := ry
  obtain ⟨its, r, pl, hz⟩ := I.tuple hq
  obtain ⟨j, h1, h2, h3, h4, h5⟩ := atI_get he
  obtain ⟨w, ew, rw'⟩ := r.get h2
  have hl := r.length
  have hn := line63
  have fin : EP X pins σ Q w s := ⟨z, H, I, rw', q⟩
  exact subscriptTail_builtinR (x := w) pl.typeIs slot_tuple_getitem.lookup
    (getItem_tuple (j := j) (Q := fun r s' => r = w ∧ EP X pins σ Q r s') pl (by omega) (by omega) (by rw [List.size_toArray, ← hl]; exact h1) (by simpa using ew) ⟨rfl, fin⟩) hs
theorem ix_str : IxR X rIxS := by
  intro value slice pins s σ H x y v u Q I rx ry h hs
  obtain ⟨z, i, c, rfl, rfl, hz, he, q⟩ := h
  obtain ⟨t, rfl⟩ := rx
  obtain ⟨t', rfl⟩ := ry
  obtain ⟨j, h1, h2, h3, h4, h5⟩ := atI_get he
  have hl : z.cps.toList.length = z.length := by simp [Str.length]
  rw [hl] at h1 h4 h5
  have hn := line63
  exact tail_any (typeIs_str s z t) slot_str_getitem.lookup (getItem_str (c := c) (by
    have e1 : decide (i < -(2 ^ 63 : Int)) = false := decide_eq_false (by omega)
    have e2 : decide (i ≥ 2 ^ 63) = false := decide_eq_false (by omega)
    rw [e1, e2, Bool.or_false]) (by rw [h1]; simpa using h2) ⟨.str ⟨#[c]⟩, H, I.tok _, ⟨_, rfl⟩, q⟩) hs
def rIx (K : PySem.W.Frag) : R2 := fun x y H Q => rIxL K x y H Q ∨ rIxT K x y H Q ∨ rIxS x y H Q
theorem mapSeq_set (its : List Value) (n j : Nat) (u : Value) : Obj.mapSeq (·.setIfInBounds j u) { cls := .type "list", data := .seq its.toArray n } = { cls := .type "list", data := .seq (its.set j u).toArray n } := by
  simp [Obj.mapSeq]
theorem Inv.lst {pins : List (Addr × Obj)} {σ : St} {H : Hp} {s : Shared} {p : Addr} {xs : List V} (I : Inv X pins σ H s) (h : H p = some (.lst xs)) :
    ∃ (its : List Value) (n : Nat), Vals xs its ∧ s.heap.get? p = some { cls := .type "list", data := .seq its.toArray n } ∧ xs.length ≤ sizeLine := by
  obtain ⟨z, its, n, r, e⟩ := I.hok p _ h
  exact ⟨its, n, r, e, z⟩
theorem Inv.lstUpd {pins : List (Addr × Obj)} {σ : St} {H : Hp} {s : Shared} {p : Addr} {xs ys : List V} {its its' : List Value} {n n' : Nat} {f : Obj → Obj} (I : Inv X pins σ H s) (h : H p = some (.lst xs))
    (ho : s.heap.get? p = some { cls := .type "list", data := .seq its.toArray n }) (hf : f { cls := .type "list", data := .seq its.toArray n } = { cls := .type "list", data := .seq its'.toArray n' }) (r : Vals ys its') (hz : ys.length ≤ sizeLine) (t : Nat) :
    Inv X pins σ (upd H p (.lst ys)) { s with heap := s.heap.update p f, toks := t } := by
  have e : (s.heap.update p f).get? p = some { cls := .type "list", data := .seq its'.toArray n' } := by
    rw [Heap.get?_update_self f ho (by rw [hf] <;> rfl), hf]
  refine I.write (x := p) (e := p) (by rw [h]; trivial) (.inl rfl) (fun b u hb q => (Heap.get?_update_other _ _ (Ne.symm hb)).trans q) ⟨_, e⟩ ?_
  exact ⟨hz, its', n', r, e⟩
def rSetL : V → V → V → Hp → (Hp → Prop) → Prop := fun o i v H Q => ∃ p xs k j, o = .ref p ∧ i = .int k ∧ H p = some (.lst xs) ∧ ixN xs.length k = some j ∧ Q (upd H p (.lst (xs.set j v)))
theorem set_list : PSet X rSetL := by
  intro pins s σ H o i v ov iv u Q I ro ri rv h
  obtain ⟨p, xs, k, j, rfl, rfl, hp, hj, q⟩ := h
  cases ro
  obtain ⟨t, rfl⟩ := ri
  obtain ⟨its, n, r, ho, hz⟩ := I.lst hp
  obtain ⟨h1, h2, h3, h4⟩ := ixN_seq hj
  have hl := r.length
  have hn := line63
  have I' : Inv X pins σ (upd H p (.lst (xs.set j v))) { s with heap := s.heap.update p (Obj.mapSeq (·.setIfInBounds j u)) } :=
    I.lstUpd hp ho (mapSeq_set its n j u) (r.set rv j) (by rw [List.length_set]; exact hz) s.toks
  by_cases h0 : 0 ≤ k
  · have hk : k.toNat = j := by
      rw [seqIndex_of h0 h4] at h1
      exact Option.some.inj h1
    exact PySem.W.ki_setAt ho h0 (by omega) (by rw [List.size_toArray, ← hl]; exact h4) (by rw [hk]; exact ⟨_, I', q⟩)
  · have hk : (k + (its.toArray.size : Int)).toNat = j := by
      rw [seqIndex_neg (by omega) h3] at h1
      rw [List.size_toArray, ← hl]
      exact Option.some.inj h1
    exact PySem.W.ki_setBack ho (by omega) (by rw [List.size_toArray, ← hl]; exact h3) (by omega) (by rw [hk]; exact ⟨_, I', q⟩)
theorem slice_bounds (lo hi : Option Int) (n : Nat) : (sliceBounds lo hi none n).1 = ((HT.sIx n 0 lo : Nat) : Int) ∧ (sliceBounds lo hi none n).2.1 = ((HT.sIx n n hi : Nat) : Int) ∧ (sliceBounds lo hi none n).2.2 = 1 := by
  refine ⟨?_, ?_, rfl⟩
  · cases lo with
    | none => simp [sliceBounds, HT.sIx]
    | some i =>
      simp only [sliceBounds, HT.sIx, Option.getD_none, show (1 : Int) > 0 by decide, if_true]
      by_cases h : i < 0
      · simp only [h, if_true] <;> omega
      · simp only [h, if_false] <;> omega
  · cases hi with
    | none => simp [sliceBounds, HT.sIx]
    | some i =>
      simp only [sliceBounds, HT.sIx, Option.getD_none, show (1 : Int) > 0 by decide, if_true]
      by_cases h : i < 0
      · simp only [h, if_true] <;> omega
      · simp only [h, if_false] <;> omega
theorem slicePick_cut (its : List Value) (lo hi : Option Int) : slicePick its.toArray lo hi none = ((its.drop (HT.sIx its.length 0 lo)).take (HT.sIx its.length its.length hi - HT.sIx its.length 0 lo)).toArray := by
  obtain ⟨h1, h2, h3⟩ := slice_bounds lo hi its.toArray.size
  unfold slicePick
  rw [h1, h2, h3]
  simp only [sliceRange_one, pick_run, List.size_toArray] <;> rfl
def rSlL (K : PySem.W.Frag) : V → Option Int → Option Int → Hp → VK → Prop := fun x lo hi H Q => ∃ a xs, x = .ref a ∧ SqL K H a xs ∧ ∀ p, H p = none → Q (.ref p) (upd H p (.lst (cutV xs lo hi)))
theorem sl_list : SlR X (rSlL X.K) := by
  intro pins s σ H x v vl vu lo hi sl Q I rx hs pl pu h
  obtain ⟨a, xs, rfl, hx, q⟩ := h
  cases rx
  obtain ⟨its, r, ht, hz⟩ := I.list hx
  have hlen := r.length
  refine ⟨"list", _, slot_list_getitem.lookup, ht.isList.typeIs, ?_⟩
  refine wpAny_getItem_list_slice ht.isList hs pl pu .none (by simp) ?_ (by rw [List.size_toArray] <;> omega)
  rw [slicePick_cut, ← hlen]
  refine ⟨.ref s.heap.objs.size, _, I.laid (t' := s.toks) (o := .lst (cutV xs lo hi)) (fun b ob q => Heap.get?_push_of_some _ q) (Nat.le_refl _) ?_, rfl, q _ (I.hok.fresh (Nat.le_refl _))⟩
  exact ⟨Nat.le_trans (cutV_length xs lo hi) hz, _, 0, (r.drop (HT.sIx xs.length 0 lo)).take (HT.sIx xs.length xs.length hi - HT.sIx xs.length 0 lo), Heap.get?_push_size _ rfl⟩
def flatV : V → Bool
  | .non => true
  | .bl _ => true
  | .int _ => true
  | .str _ => true
  | _ => false
def eqV : V → V → Bool
  | .non, .non => true
  | .bl a, .bl b => a == b
  | .bl a, .int b => (if a then 1 else 0) == b
  | .int a, .bl b => a == (if b then 1 else 0)
  | .int a, .int b => a == b
  | .str a, .str b => a == b
  | _, _ => false
theorem eqAt_V {A : Around} {s : Shared} {y x : V} {u v : Value} (ry : RelV y u) (rx : RelV x v) (fy : flatV y = true) (fx : flatV x = true) : SeqAt.EqAt A s u v (eqV y x) := by
  cases y with
  | non =>
    cases ry
    cases x with
    | non => cases rx; exact SeqAt.EqAt.same _
    | bl b => cases rx; exact SeqAt.EqAt.none_bool b
    | int b => obtain ⟨t, rfl⟩ := rx; exact SeqAt.EqAt.none_int b t
    | str b => obtain ⟨t, rfl⟩ := rx; exact SeqAt.EqAt.none_str b t
    | _ => exact absurd (show false = true from fx) Bool.false_ne_true
  | bl a =>
    cases ry
    cases x with
    | non => cases rx; exact SeqAt.EqAt.bool_none a
    | bl b => cases rx; exact SeqAt.EqAt.bool_bool a b
    | int b => obtain ⟨t, rfl⟩ := rx; exact SeqAt.EqAt.bool_int a b t
    | str b => obtain ⟨t, rfl⟩ := rx; exact SeqAt.EqAt.bool_str a b t
    | _ => exact absurd (show false = true from fx) Bool.false_ne_true
  | int a =>
    obtain ⟨t', rfl⟩ := ry
    cases x with
    | non => cases rx; exact SeqAt.EqAt.int_none a t'
    | bl b => cases rx; exact SeqAt.EqAt.int_bool a t' b
    | int b => obtain ⟨t, rfl⟩ := rx; exact SeqAt.EqAt.int_int a t' b t
    | str b => obtain ⟨t, rfl⟩ := rx; exact SeqAt.EqAt.int_str a t' b t
    | _ => exact absurd (show false = true from fx) Bool.false_ne_true
  | str a =>
    obtain ⟨t', rfl⟩ := ry
    cases x with
    | non => cases rx; exact SeqAt.EqAt.str_none a t'
    | bl b => cases rx; exact SeqAt.EqAt.str_bool a t' b
    | int b => obtain ⟨t, rfl⟩ := rx; exact SeqAt.EqAt.str_int a t' b t
    | str b => obtain ⟨t, rfl⟩ := rx; exact SeqAt.EqAt.str_str a t' b t
    | _ => exact absurd (show false = true from fx) Bool.false_ne_true
  | _ => exact absurd (show false = true from fy) Bool.false_ne_true
def eqU (x : V) (u : Value) : Bool := match u with
  | .none => eqV .non x
  | .bool b => eqV (.bl b) x
  | .int i _ => eqV (.int i) x
  | .str z _ => eqV (.str z) x
  | _ => false
theorem eqU_of {x y : V} {u : Value} (r : RelV y u) (f : flatV y = true) : eqU x u = eqV y x := by
  cases y with
  | non => cases r; rfl
  | bl b => cases r; rfl
  | int i => obtain ⟨t, rfl⟩ := r; rfl
  | str z => obtain ⟨t, rfl⟩ := r; rfl
  | _ => exact absurd (show false = true from f) Bool.false_ne_true
theorem any_eqU {x : V} : ∀ {xs : List V} {us : List Value}, Vals xs us → xs.all flatV = true → us.any (eqU x) = xs.any fun y => eqV y x
  | _, _, .nil, _ => rfl
  | y :: xs, u :: us, .cons r t, f => by
    rw [List.all_cons, Bool.and_eq_true] at f
    rw [List.any_cons, List.any_cons, eqU_of r f.1, any_eqU t f.2]
theorem mem_eqAt {A : Around} {s : Shared} {x : V} {v : Value} (rx : RelV x v) (fx : flatV x = true) : ∀ {xs : List V} {us : List Value}, Vals xs us → xs.all flatV = true → ∀ u ∈ us, SeqAt.EqAt A s u v (eqU x u)
  | _, _, .nil, _ => fun u hu => by cases hu
  | y :: xs, u :: us, .cons r t, f => fun u' hu => by
    rw [List.all_cons, Bool.and_eq_true] at f
    rcases List.mem_cons.mp hu with rfl | hu
    · rw [eqU_of r f.1]; exact eqAt_V r rx f.1 fx
    · exact mem_eqAt rx fx t f.2 u' hu
def inV (x : V) (xs : List V) : Bool := xs.any fun y => eqV y x
def rIn (K : PySem.W.Frag) (neg : Bool) : R2 := fun x y H Q => ∃ p xs, y = .ref p ∧ (SqL K H p xs ∨ SqT K H p xs) ∧ flatV x = true ∧ xs.all flatV = true ∧ Q (.bl (if neg then !inV x xs else inV x xs)) H
theorem op_in_seq : OpR X (compareOp .In) (rIn X.K false) := by
  intro pins s σ H x y v u Q I rx ry h
  obtain ⟨p, xs, rfl, hq, fx, fs, q⟩ := h
  cases ry
  rcases hq with hq | hq
  · obtain ⟨its, r, pl, hz⟩ := I.list hq
    refine SeqAt.in_listAt (eqU x) pl.isList (fun w hw => mem_eqAt rx fx r fs w (by simpa using hw)) ⟨.bl _, H, I, rfl, ?_⟩
    rw [show its.toArray.any (eqU x) = its.any (eqU x) by simp, any_eqU r fs]
    exact q
  · obtain ⟨its, r, pl, hz⟩ := I.tuple hq
    refine SeqAt.in_tupleAt (eqU x) pl (fun w hw => mem_eqAt rx fx r fs w (by simpa using hw)) ⟨.bl _, H, I, rfl, ?_⟩
    rw [show its.toArray.any (eqU x) = its.any (eqU x) by simp, any_eqU r fs]
    exact q
theorem call_len_seq : CallR X (.builtin "len") (fun xs H Q => ∃ p ys, xs = [.ref p] ∧ (SqL X.K H p ys ∨ SqT X.K H p ys) ∧ Q (.int ys.length) H) := by
  intro pins s σ H xs us Q I r h
  obtain ⟨p, ys, rfl, hq, q⟩ := h
  obtain ⟨u, rfl, rx⟩ := vals1 r
  cases rx
  have hn := line63
  rcases hq with hq | hq
  · obtain ⟨its, r', pl, hz⟩ := I.list hq
    have hlen := r'.length
    exact Calls.call_len_list pl.isList (by simp only [List.size_toArray] <;> omega) ⟨.int ys.length, H, I.tok _, ⟨s.toks + 1, by rw [List.size_toArray, hlen]⟩, q⟩
  · obtain ⟨its, r', pl, hz⟩ := I.tuple hq
    have hlen := r'.length
    exact len_tuple pl (by simp only [List.size_toArray] <;> omega) ⟨.int ys.length, H, I.tok _, ⟨s.toks + 1, by rw [List.size_toArray, hlen]⟩, q⟩
def tyV (K : PySem.W.Frag) (T : String) (x : V) (H : Hp) : Prop := match x with
  | .str _ => T = "str"
  | .int _ => T = "int"
  | .ref p => (T = "list" ∧ ∃ xs, SqL K H p xs) ∨ (T = "tuple" ∧ ∃ o, K.lookup p = some o ∧ o.cls = .type "tuple" ∧ o.dict = none) ∨
      (T = "dict" ∧ ((∃ kvs, H p = some (.dK kvs)) ∨ ∃ kvs, H p = some (.dT kvs))) ∨ (T = "set" ∧ ∃ S n, H p = some (.set S n))
  | _ => False
theorem tyV_is {pins : List (Addr × Obj)} {σ : St} {H : Hp} {s : Shared} {T : String} {x : V} {v : Value} (I : Inv X pins σ H s) (r : RelV x v) (ty : tyV X.K T x H) :
    s.TypeIs v T ∧ ∀ a, v = .ref a → ∃ ob, s.heap.get? a = some ob ∧ ob.dict = none := by
  cases x with
  | str z =>
    obtain ⟨t, rfl⟩ := r
    cases (show T = "str" from ty)
    exact ⟨typeIs_str s z t, fun _ e => nomatch e⟩
  | int i =>
    obtain ⟨t, rfl⟩ := r
    cases (show T = "int" from ty)
    exact ⟨typeIs_int s i t, fun _ e => nomatch e⟩
  | ref p =>
    cases r
    rcases ty with ⟨rfl, xs, hq⟩ | ⟨rfl, o, hk, hc, hd⟩ | ⟨rfl, hk⟩ | ⟨rfl, S, n, hk⟩
    · obtain ⟨its, _, pl, _⟩ := I.list hq
      refine ⟨pl.isList.typeIs, fun a e => ?_⟩
      cases e
      obtain ⟨o, n, e, c, hd, _⟩ := pl
      exact ⟨o, e, hd⟩
    · refine ⟨⟨o, I.kIn p o hk, hc⟩, fun a e => ?_⟩
      cases e
      exact ⟨o, I.kIn _ o hk, hd⟩
    · have z : ∃ o, s.heap.get? p = some o ∧ o.ExactDict := by
        rcases hk with ⟨kvs, hk⟩ | ⟨kvs, hk⟩
        · obtain ⟨_, _, _, _, o, _, _, e, ex, _⟩ := I.hok p _ hk
          exact ⟨o, e, ex⟩
        · obtain ⟨_, _, _, _, o, _, _, e, ex, _⟩ := I.hok p _ hk
          exact ⟨o, e, ex⟩
      obtain ⟨o, e, ex⟩ := z
      refine ⟨⟨o, e, ex.1⟩, fun a e2 => ?_⟩
      cases e2
      exact ⟨o, e, ex.2.1⟩
    · obtain ⟨o, _, _, _, e, ex, _⟩ := I.hok p _ hk
      refine ⟨⟨o, e, ex.1⟩, fun a e2 => ?_⟩
      cases e2
      exact ⟨o, e, ex.2.1⟩
  | _ => exact False.elim ty
def tBM0 (K : PySem.W.Frag) (T : String) (r : V → List V → Hp → VK → Prop) (to : TE) : TE := fun σ H Q => to σ H fun x H1 => tyV K T x H1 ∧ r x [] H1 Q
def tBM (K : PySem.W.Frag) (T : String) (r : V → List V → Hp → VK → Prop) (to : TE) (t : TA) : TE := fun σ H Q => to σ H fun x H1 => tyV K T x H1 ∧ t σ H1 fun xs H2 => r x xs H2 Q
variable {o e : Expr} {es : List Expr} {to : TE} {t : TA} {name : Str} {apos cpos : Pos} {T id : String} {r : V → List V → Hp → VK → Prop}
theorem pe_bm (pa : PlainAttrs T) (slot : Slot T name id) (hty : typeOf (.builtin id) = pure (.type "method_descriptor")) (hm : MtR X id r) (ho : PE X o to) (ha : PA X (e :: es) t)
    (hbase : attributeBase o name X.env (eval o X.env) = eval o X.env := by rfl)
    (hfew : ((backTo cpos (starEach (e :: es) X.env)).all (fun x => !x.1) && (backToKw cpos (keywordEach [] X.env)).all (fun x => x.1.isSome)
      && decide ((e :: es).length + ([] : List Keyword).length + (if ([] : List Keyword).isEmpty then 0 else 1) < 30)) = true := by rfl)
    (hline : (apos.endLine == cpos.line) = true := by rfl) (hs : starEach (e :: es) X.env = (false, eval e X.env) :: starEach es X.env := by rfl) (hplain : (backTo cpos (starEach es X.env)).any (·.1) = false := by rfl) :
    PE X (.Call (.Attribute o name apos) (e :: es) [] cpos) (tBM X.K T r to t) := by
  intro pins s σ H Q I h
  refine wpAny_Call_method_late hbase hfew hline rfl (thn (ho pins s σ H _ I h) fun v s1 ⟨x, H1, I1, r1, ty, q1⟩ => ?_)
  obtain ⟨h1, h2⟩ := tyV_is I1 r1 ty
  refine ⟨T, id, pa, slot, hty, h1, h2, ?_⟩
  have hA := ha cpos pins s1 σ H1 _ I1 q1
  rw [hs] at hA ⊢
  refine Calls.callWith_builtin (by show (false || (backTo cpos (starEach es X.env)).any (·.1)) = false; rw [hplain] <;> rfl) (Calls.evalArgs_plain ?_)
  exact thn hA fun us s2 ⟨vs, H2, I2, r2, q2⟩ => hm pins s2 σ H2 x vs v us Q I2 r1 r2 q2
end
end L2
namespace L2
open PySem PySem.Spec PyProof.Rows
def MtM (X : Cx) (id : String) (r : V → List V → Hp → VK → Prop) : Prop :=
  ∀ (pins : List (Addr × Obj)) (s : Shared) (σ : St) (H : Hp) (x : V) (xs : List V) (v : Value) (us : List Value) (Q : VK), Inv X pins σ H s → RelV x v → Vals xs us → r x xs H Q →
    wpAny (model X.prog X.w) X.A (call (.builtin id) (v :: us)) (EP X pins σ Q) X.xe s
theorem Vals.one : ∀ {x : V} {us : List Value}, Vals [x] us → ∃ u, us = [u] ∧ RelV x u
  | _, _, .cons r .nil => ⟨_, rfl, r⟩
section
variable {X : Cx} {pins : List (Addr × Obj)} {σ : St} {H : Hp} {s : Shared} {l b : Addr} {xs ys zs : List V}
theorem Inv.lset {its its' : List Value} {n : Nat} {f : Array Value → Array Value} {t' : Nat} (I : Inv X pins σ H s) (hH : H l = some (.lst xs))
    (e : s.heap.get? l = some { cls := .type "list", data := .seq its.toArray n }) (hf : f its.toArray = its'.toArray) (hv : Vals ys its') (hz : ys.length ≤ sizeLine) :
    Inv X pins σ (upd H l (.lst ys)) { s with heap := s.heap.update l (Obj.mapSeq f), toks := t' } := by
  have q := PySem.IsL.update e f
  rw [hf] at q
  refine I.write (x := l) (e := l) (by rw [hH]; exact trivial) (.inl rfl) (fun b' u hb hu => (Heap.get?_update_other s.heap (Obj.mapSeq f) (Ne.symm hb)).trans hu) ⟨_, q⟩ ?_
  exact ⟨hz, its', _, hv, q⟩
theorem Inv.lnew {its : List Value} {t' : Nat} (I : Inv X pins σ H s) (hv : Vals ys its) (hz : ys.length ≤ sizeLine) :
    Inv X pins σ (upd H s.heap.objs.size (.lst ys)) { s with heap := s.heap.push { cls := .type "list", data := .seq its.toArray }, toks := t' } :=
  I.laid (fun _ _ q => Heap.get?_push_of_some _ q) (Nat.le_refl _) ⟨hz, its, 0, hv, Heap.get?_push_size _ rfl⟩
theorem Inv.fresh (I : Inv X pins σ H s) : H s.heap.objs.size = none := I.hok.fresh (Nat.le_refl _)
theorem Inv.lstM (I : Inv X pins σ H s) (hH : H l = some (.lst xs)) : xs.length ≤ sizeLine ∧ ∃ (its : List Value) (n : Nat), Vals xs its ∧ xs.length = its.length ∧ s.heap.get? l = some { cls := .type "list", data := .seq its.toArray n } := by
  obtain ⟨z, its, n, r, e⟩ := I.hok l _ hH
  exact ⟨z, its, n, r, r.length, e⟩
theorem notLongL {n : Nat} (h : n ≤ sizeLine) : Builtin.List.listTooLong n = false := by
  unfold Builtin.List.listTooLong
  exact decide_eq_false (by omega)
end
section
variable {X : Cx}
def rAppend : V → List V → Hp → VK → Prop := fun x vs H Q => ∃ l xs y, x = .ref l ∧ vs = [y] ∧ H l = some (.lst xs) ∧ xs.length < sizeLine ∧ Q .non (upd H l (.lst (xs ++ [y])))
theorem mt_append : MtM X "list.append" rAppend := by
  intro pins s σ H x vs v us Q I rx rv h
  obtain ⟨l, xs, y, rfl, rfl, hH, hz, q⟩ := h
  cases rx
  obtain ⟨u, rfl, ru⟩ := rv.one
  obtain ⟨z, its, n, r, hl, e⟩ := I.lstM hH
  refine call_meets F.slot_list_append ⟨_, e, rfl⟩ F.entry_list_append (F.args_list_append_2 _ _) (PySem.list_append l its.toArray n u (by rw [List.size_toArray]; omega)) ⟨e, ?_⟩
  refine ⟨.non, _, I.lset (its' := its ++ [u]) hH e (by simp) (r.append (.cons ru .nil)) ?_, rfl, q⟩
  rw [List.length_append, List.length_singleton]
  omega
def rExtend : V → List V → Hp → VK → Prop := fun x vs H Q => ∃ l b xs zs, x = .ref l ∧ vs = [.ref b] ∧ H l = some (.lst xs) ∧ H b = some (.lst zs) ∧ xs.length + zs.length ≤ sizeLine ∧ Q .non (upd H l (.lst (xs ++ zs)))
theorem mt_extend : MtM X "list.extend" rExtend := by
  intro pins s σ H x vs v us Q I rx rv h
  obtain ⟨l, b, xs, zs, rfl, rfl, hH, hB, hz, q⟩ := h
  cases rx
  obtain ⟨u, rfl, ru⟩ := rv.one
  cases ru
  obtain ⟨z, its, n, r, hl, e⟩ := I.lstM hH
  obtain ⟨z2, its2, n2, r2, hl2, e2⟩ := I.lstM hB
  have hsz : its.toArray.size + its2.toArray.size ≤ sizeLine := by rw [List.size_toArray, List.size_toArray]; omega
  have hlong : ¬ (!its.toArray.isEmpty && Builtin.List.listTooLong (its.toArray.size + its2.toArray.size)) = true := by
    rw [notLongL hsz, Bool.and_false]
    exact Bool.false_ne_true
  refine call_meets F.slot_list_extend ⟨_, e, rfl⟩ F.entry_list_extend (F.args_list_extend_2 _ _)
    (AutoSeq1.list_extend_list_list_0 l its.toArray n b its2.toArray n2 hlong (by rw [List.size_toArray]; omega) (by omega)) ⟨e, e2, ?_⟩
  refine ⟨.non, _, I.lset (its' := its ++ its2) hH e (by simp) (r.append r2) ?_, rfl, q⟩
  rw [List.length_append]
  omega
def rPop : V → List V → Hp → VK → Prop := fun x vs H Q => ∃ l xs y, x = .ref l ∧ vs = [] ∧ H l = some (.lst xs) ∧ xs[xs.length - 1]? = some y ∧ Q y (upd H l (.lst xs.dropLast))
def rPopAt : V → List V → Hp → VK → Prop := fun x vs H Q => ∃ l xs i k y, x = .ref l ∧ vs = [.int i] ∧ H l = some (.lst xs) ∧ -(2 ^ 63) ≤ i ∧ i < 2 ^ 63 ∧ seqIndex? i xs.length = some k ∧ xs[k]? = some y ∧ Q y (upd H l (.lst (xs.eraseIdx k)))
def rReverse : V → List V → Hp → VK → Prop := fun x vs H Q => ∃ l xs, x = .ref l ∧ vs = [] ∧ H l = some (.lst xs) ∧ Q .non (upd H l (.lst xs.reverse))
def rClear : V → List V → Hp → VK → Prop := fun x vs H Q => ∃ l xs, x = .ref l ∧ vs = [] ∧ H l = some (.lst xs) ∧ Q .non (upd H l (.lst []))
def rCat : R2 := fun x y H Q => ∃ l b xs zs, x = .ref l ∧ y = .ref b ∧ H l = some (.lst xs) ∧ H b = some (.lst zs) ∧ xs.length + zs.length ≤ sizeLine ∧ ∀ p, H p = none → Q (.ref p) (upd H p (.lst (xs ++ zs)))
theorem op_cat : OpR X (binaryOp .Add) rCat := by
  intro pins s σ H x y v u Q I rx ry h
  obtain ⟨l, b, xs, zs, rfl, rfl, hH, hB, hz, q⟩ := h
  cases rx
  cases ry
  obtain ⟨z, its, n, r, hl, e⟩ := I.lstM hH
  obtain ⟨z2, its2, n2, r2, hl2, e2⟩ := I.lstM hB
  refine PySem.P.add_list e e2 ?_ (by rw [List.size_toArray, List.size_toArray]; omega)
  have ea : its.toArray ++ its2.toArray = (its ++ its2).toArray := by simp
  rw [ea]
  exact ⟨.ref _, _, I.lnew (t' := s.toks) (r.append r2) (by rw [List.length_append]; omega), rfl, q _ I.fresh⟩
def rRep : R2 := fun x y H Q => ∃ l k xs, x = .ref l ∧ y = .int k ∧ H l = some (.lst xs) ∧ -(2 ^ 63) ≤ k ∧ k < 2 ^ 63 ∧ xs.length * k.toNat ≤ sizeLine ∧
  ∀ p, H p = none → Q (.ref p) (upd H p (.lst (List.replicate k.toNat xs).flatten))
end
section
variable {prog : Program} {w : World} {A : Around} {E : Value → Shared → Prop} {s : Shared}
set_option maxRecDepth 100000 in
end
section
variable {X : Cx}
end
end L2
namespace L2
open PySem PySem.Spec PyProof.Rows
section
variable {κ : Type} [DecidableEq κ]
def valV (kvs : List (κ × V)) (k : κ) : Option V := (kvs.find? fun kv => decide (kv.1 = k)).map (·.2)
def putK (kvs : List (κ × V)) (k : κ) (v : V) : List (κ × V) :=
  if (kvs.any fun kv => decide (kv.1 = k)) = true then kvs.map (fun kv => if kv.1 = k then (kv.1, v) else kv) else kvs ++ [(k, v)]
def dropK (kvs : List (κ × V)) (k : κ) : List (κ × V) := kvs.filter fun kv => decide (kv.1 ≠ k)
theorem valV_pos {p : κ × V} {r : List (κ × V)} {k : κ} (e : p.1 = k) : valV (p :: r) k = some p.2 := by simp [valV, List.find?_cons, e]
theorem valV_neg {p : κ × V} {r : List (κ × V)} {k : κ} (e : ¬ p.1 = k) : valV (p :: r) k = valV r k := by simp [valV, List.find?_cons, e]
theorem valV_any (k : κ) : ∀ kvs : List (κ × V), (kvs.any fun kv => decide (kv.1 = k)) = (valV kvs k).isSome
  | [] => rfl
  | p :: r => by
    rw [List.any_cons]
    by_cases e : p.1 = k
    · simp only [valV_pos e, decide_eq_true e, Bool.true_or, Option.isSome_some]
    · rw [valV_neg e, decide_eq_false e, Bool.false_or]; exact valV_any k r
theorem valV_map (k j : κ) (y : V) : ∀ kvs : List (κ × V), valV (kvs.map fun kv => if kv.1 = k then (kv.1, y) else kv) j = (valV kvs j).map fun x => if j = k then y else x
  | [] => rfl
  | p :: r => by
    have ih := valV_map k j y r
    rw [List.map_cons]
    by_cases h : p.1 = k
    · rw [if_pos h]
      by_cases e : p.1 = j
      · rw [valV_pos (p := (p.1, y)) e, valV_pos e, Option.map_some, if_pos (e.symm.trans h)]
      · rw [valV_neg (p := (p.1, y)) e, valV_neg e, ih]
    · rw [if_neg h]
      by_cases e : p.1 = j
      · rw [valV_pos (p := p) e, valV_pos e, Option.map_some, if_neg (fun z => h (e.trans z))]
      · rw [valV_neg (p := p) e, valV_neg e, ih]
theorem valV_snoc (k j : κ) (y : V) : ∀ kvs : List (κ × V), valV kvs k = none → valV (kvs ++ [(k, y)]) j = if j = k then some y else valV kvs j
  | [], _ => by
    by_cases e : k = j
    · rw [if_pos e.symm]; exact valV_pos (p := (k, y)) e
    · rw [if_neg (fun z => e z.symm)]; exact valV_neg (p := (k, y)) e
  | p :: r, hn => by
    rw [List.cons_append]
    have hk : ¬ p.1 = k := fun z => by rw [valV_pos z] at hn; cases hn
    rw [valV_neg hk] at hn
    have ih := valV_snoc k j y r hn
    by_cases e : p.1 = j
    · rw [valV_pos e, valV_pos e, if_neg (fun z => hk (e.trans z))]
    · rw [valV_neg e, valV_neg e, ih]
theorem valV_put (kvs : List (κ × V)) (k j : κ) (y : V) : valV (putK kvs k y) j = if j = k then some y else valV kvs j := by
  unfold putK
  by_cases a : (kvs.any fun kv => decide (kv.1 = k)) = true
  · rw [if_pos a, valV_map]
    rw [valV_any] at a
    by_cases e : j = k
    · obtain ⟨x, hx⟩ := Option.isSome_iff_exists.mp a
      rw [if_pos e, e, hx, Option.map_some, if_pos rfl]
    · rw [if_neg e]
      cases valV kvs j with
      | none => rfl
      | some x => rw [Option.map_some, if_neg e]
  · rw [if_neg a]
    refine valV_snoc k j y kvs ?_
    rw [valV_any] at a
    cases q : valV kvs k with
    | none => rfl
    | some x => rw [q] at a; exact (a rfl).elim
theorem length_putK (kvs : List (κ × V)) (k : κ) (v : V) : (putK kvs k v).length ≤ kvs.length + 1 := by
  unfold putK
  split
  · rw [List.length_map]; omega
  · rw [List.length_append, List.length_cons, List.length_nil]; omega
theorem putK_new {kvs : List (κ × V)} {k : κ} (v : V) (h : valV kvs k = none) : putK kvs k v = kvs ++ [(k, v)] := by
  unfold putK
  rw [valV_any, h]
  exact if_neg (by decide)
theorem RelO.isSome_eq {o : Option V} {u : Option Value} (r : RelO o u) : o.isSome = u.isSome := by
  cases o with
  | none => cases u with
    | none => rfl
    | some _ => exact (show False from r).elim
  | some _ => cases u with
    | none => exact (show False from r).elim
    | some _ => rfl
theorem RelO.getD {o : Option V} {u : Option Value} {d : V} {d' : Value} (r : RelO o u) (rd : RelV d d') : RelV (o.getD d) (u.getD d') := by
  cases o with
  | none => cases u with
    | none => exact rd
    | some _ => exact (show False from r).elim
  | some _ => cases u with
    | none => exact (show False from r).elim
    | some _ => exact r
theorem KV.val {kvs : List (κ × V)} {vs : List (κ × Value)} (r : KV kvs vs) (k : κ) : RelO (valV kvs k) (valueAt vs k) := by
  unfold KV at r
  induction r with
  | nil => exact True.intro
  | @cons p q ps qs h t ih =>
    obtain ⟨h1, h2⟩ := h
    by_cases e : p.1 = k
    · have e' : q.1 = k := h1.symm.trans e
      have b : valueAt (q :: qs) k = some q.2 := by simp [valueAt, List.find?_cons, e']
      rw [valV_pos e, b]; exact h2
    · have e' : ¬ q.1 = k := fun z => e (h1.trans z)
      have b : valueAt (q :: qs) k = valueAt qs k := by simp [valueAt, List.find?_cons, e']
      rw [valV_neg e, b]; exact ih
theorem KV.any {kvs : List (κ × V)} {vs : List (κ × Value)} (r : KV kvs vs) (k : κ) : (kvs.any fun kv => decide (kv.1 = k)) = vs.any fun kv => decide (kv.1 = k) := by
  unfold KV at r
  induction r with
  | nil => rfl
  | cons h t ih => rw [List.any_cons, List.any_cons, ih, h.1]
theorem KV.repl {kvs : List (κ × V)} {vs : List (κ × Value)} (r : KV kvs vs) (k : κ) {y : V} {u : Value} (ry : RelV y u) :
    KV (kvs.map fun kv => if kv.1 = k then (kv.1, y) else kv) (vs.map fun kv => if kv.1 = k then (kv.1, u) else kv) := by
  unfold KV at r ⊢
  induction r with
  | nil => exact .nil
  | @cons p q ps qs h t ih =>
    rw [List.map_cons, List.map_cons]
    refine .cons ?_ ih
    obtain ⟨h1, h2⟩ := h
    by_cases e : p.1 = k
    · rw [if_pos e, if_pos (h1.symm.trans e)]; exact ⟨h1, ry⟩
    · rw [if_neg e, if_neg (fun z => e (h1.trans z))]; exact ⟨h1, h2⟩
theorem KV.put {kvs : List (κ × V)} {vs : List (κ × Value)} (r : KV kvs vs) (k : κ) {y : V} {u : Value} (ry : RelV y u) : KV (putK kvs k y) (stored vs k u) := by
  unfold putK stored
  rw [r.any k]
  by_cases e : (vs.any fun kv => decide (kv.1 = k)) = true
  · rw [if_pos e, if_pos e]; exact r.repl k ry
  · rw [if_neg e, if_neg e]; exact Paired.snoc r ⟨rfl, ry⟩
theorem KV.length {kvs : List (κ × V)} {vs : List (κ × Value)} (r : KV kvs vs) : kvs.length = vs.length := Paired.length r
end
theorem kV_is {P : Program} {w : World} {k : Key} {u : Value} (r : RelV (kV k) u) : (mixKind P w).is k u = true := by
  cases k with
  | inl i => obtain ⟨t, e⟩ := (show ∃ t, u = Value.int i t from r); subst e; exact mixKind_int P w i t
  | inr x => obtain ⟨t, e⟩ := (show ∃ t, u = Value.str x t from r); subst e; exact mixKind_str P w x t
theorem items_are {P : Program} {w : World} : ∀ {ks : List Key} {us : List Value}, Vals (ks.map kV) us → ItemsAre (mixKind P w) ks us
  | [], _, r => by rw [List.map_nil] at r; cases r; exact .nil
  | k :: ks, _, r => by
    rw [List.map_cons] at r
    cases r with
    | cons h t => exact .cons (kV_is h) (items_are t)
abbrev KT (H : Hp) : List (List Key × V) → List (List Key × Addr × Value) → Prop := Paired fun p q => p.1 = q.1 ∧ H q.2.1 = some (.tup (p.1.map kV)) ∧ RelV p.2 q.2.2
theorem KT.val {H : Hp} {kvs : List (List Key × V)} {xs : List (List Key × Addr × Value)} (r : KT H kvs xs) (k : List Key) : RelO (valV kvs k) ((atKey xs k).map (·.2)) := by
  induction r with
  | nil => exact True.intro
  | @cons p q ps qs h t ih =>
    obtain ⟨h1, _, h2⟩ := h
    by_cases e : p.1 = k
    · have e' : q.1 = k := h1.symm.trans e
      have b : atKey (q :: qs) k = some q.2 := by simp [atKey, List.find?_cons, e']
      rw [valV_pos e, b]; exact h2
    · have e' : ¬ q.1 = k := fun z => e (h1.trans z)
      have b : atKey (q :: qs) k = atKey qs k := by simp [atKey, List.find?_cons, e']
      rw [valV_neg e, b]; exact ih
theorem KT.repl {H : Hp} {kvs : List (List Key × V)} {xs : List (List Key × Addr × Value)} (r : KT H kvs xs) (k : List Key) {y : V} {u : Value} (ry : RelV y u) :
    KT H (kvs.map fun kv => if kv.1 = k then (kv.1, y) else kv) (xs.map (putAt k u)) := by
  induction r with
  | nil => exact .nil
  | @cons p q ps qs h t ih =>
    rw [List.map_cons, List.map_cons]
    refine .cons ?_ ih
    obtain ⟨h1, h2, h3⟩ := h
    unfold putAt
    by_cases e : p.1 = k
    · rw [if_pos e, if_pos (h1.symm.trans e)]; exact ⟨h1, h2, ry⟩
    · rw [if_neg e, if_neg (fun z => e (h1.trans z))]; exact ⟨h1, h2, h3⟩
theorem KT.put {H : Hp} {kvs : List (List Key × V)} {xs : List (List Key × Addr × Value)} (r : KT H kvs xs) (k : List Key) {b : Addr} {y : V} {u : Value} (hb : H b = some (.tup (k.map kV))) (ry : RelV y u) :
    KT H (putK kvs k y) (storedH xs k b u) := by
  have e : (kvs.any fun kv => decide (kv.1 = k)) = (atKey xs k).isSome := by
    rw [valV_any, (r.val k).isSome_eq, Option.isSome_map]
  unfold putK storedH
  rw [e]
  by_cases q : (atKey xs k).isSome = true
  · rw [if_pos q, if_pos q]; exact r.repl k ry
  · rw [if_neg q, if_neg q]; exact Paired.snoc r ⟨rfl, hb, ry⟩
theorem KT.keeps {H H' : Hp} {kvs : List (List Key × V)} {xs : List (List Key × Addr × Value)} (r : KT H kvs xs) (ht : ∀ b ys, H b = some (.tup ys) → H' b = some (.tup ys)) : KT H' kvs xs :=
  Paired.mapP r fun _ _ z => ⟨z.1, ht _ _ z.2.1, z.2.2⟩
section
variable {P : Program} {w : World} {H : Hp} {h : Heap} {a : Addr}
theorem rd_of {u : HO} (ok : HOk P w H h) (e : Rd H a u) : ObjOk P w H h a u := e.ok ok
theorem dk_rd {kvs : List (Key × V)} (ok : HOk P w H h) (e : Rd H a (.dK kvs)) : kvs.length ≤ sizeLine ∧ (a == sysModules) = false ∧ ∃ vs, KV kvs vs ∧ h.DictOf (mixKind P w) a vs :=
  show ObjOk P w H h a (.dK kvs) from rd_of ok e
theorem dk_of {kvs : List (Key × V)} (ok : HOk P w H h) (e : H a = some (.dK kvs)) : kvs.length ≤ sizeLine ∧ (a == sysModules) = false ∧ ∃ vs, KV kvs vs ∧ h.DictOf (mixKind P w) a vs := dk_rd ok (.inl e)
theorem key_of {ks : List Key} (ok : HOk P w H h) (e : H a = some (.tup (ks.map kV))) : (tupleKind (mixKind P w)).is h ks a := by
  obtain ⟨_, its, r, o, h1, h2, n, h3⟩ := (show ObjOk P w H h a (.tup (ks.map kV)) from ok a _ e)
  exact ⟨o, its.toArray, n, h1, h2, h3, by simpa using items_are r⟩
theorem dt_rd {kvs : List (List Key × V)} (ok : HOk P w H h) (e : Rd H a (.dT kvs)) : kvs.length ≤ sizeLine ∧ (a == sysModules) = false ∧
    ∃ xs, KT H kvs xs ∧ h.DictOfH (tupleKind (mixKind P w)) a xs := by
  obtain ⟨z, y, xs, r, o, es, ep, h1, h2, h3, h4, h5⟩ := (show ObjOk P w H h a (.dT kvs) from rd_of ok e)
  refine ⟨z, y, xs, r, o, es, ep, h1, h2, h3, h4, fun x hx => ?_, h5⟩
  have all : ∀ {l : List (List Key × V)} {m : List (List Key × Addr × Value)}, KT H l m → ∀ x ∈ m, (tupleKind (mixKind P w)).is h x.1 x.2.1 := by
    intro l m q
    induction q with
    | nil => intro x hx; exact nomatch hx
    | @cons p q ps qs hq t ih =>
      intro x hx
      rcases List.mem_cons.mp hx with e | hx
      · subst e
        exact key_of ok (by rw [← hq.1]; exact hq.2.1)
      · exact ih x hx
  exact all r x hx
theorem dt_of {kvs : List (List Key × V)} (ok : HOk P w H h) (e : H a = some (.dT kvs)) : kvs.length ≤ sizeLine ∧ (a == sysModules) = false ∧
    ∃ xs, KT H kvs xs ∧ h.DictOfH (tupleKind (mixKind P w)) a xs := dt_rd ok (.inl e)
end
def DGet (H : Hp) (a : Addr) (y : V) (r : Option V) : Prop :=
  (∃ kvs k, Rd H a (.dK kvs) ∧ y = kV k ∧ r = valV kvs k) ∨ ∃ kvs k b, Rd H a (.dT kvs) ∧ y = .ref b ∧ H b = some (.tup (k.map kV)) ∧ r = valV kvs k
def DPut (H : Hp) (a : Addr) (y v : V) (H' : Hp) : Prop :=
  (∃ kvs k, H a = some (.dK kvs) ∧ y = kV k ∧ kvs.length < sizeLine ∧ H' = upd H a (.dK (putK kvs k v))) ∨
  ∃ kvs k b, H a = some (.dT kvs) ∧ y = .ref b ∧ H b = some (.tup (k.map kV)) ∧ kvs.length < sizeLine ∧ H' = upd H a (.dT (putK kvs k v))
theorem DPut.k {H : Hp} {a : Addr} {kvs : List (Key × V)} {k : Key} {v : V} (e : H a = some (.dK kvs)) (hl : kvs.length < sizeLine) : DPut H a (kV k) v (upd H a (.dK (putK kvs k v))) := .inl ⟨kvs, k, e, rfl, hl, rfl⟩
section
variable {X : Cx} {pins : List (Addr × Obj)} {σ : St} {H : Hp} {s : Shared} {a : Addr} {y v : V} {u r : Value} {o : Option V} {A : Around} {E : Value → Shared → Prop}
theorem Inv.big (I : Inv X pins σ H s) : sysModules < s.heap.objs.size := by
  have h : mainGlobals < s.heap.objs.size := (I.mod.glob.keeps I.bk).lt
  exact Nat.lt_trans (by decide) h
theorem d_getItem {Q : Value → Shared → Prop} (hu : A.units + 1 < cLine) (I : Inv X pins σ H s) (g : DGet H a y (some v)) (ry : RelV y u) (h : ∀ w' s', Inv X pins σ H s' → RelV v w' → Q w' s') :
    wpAny (model X.prog X.w) A (getItem (.ref a) u) Q E s := by
  rcases g with ⟨kvs, k, e, ey, l⟩ | ⟨kvs, k, b, e, ey, eb, l⟩
  · subst ey
    obtain ⟨z, hd, vs, rel, dd⟩ := dk_rd I.hok e
    obtain ⟨w', hw, rw'⟩ := RelO.some_of (v := v) (o := valueAt vs k) (by rw [l]; exact rel.val k)
    exact wpAny_getItem_of (kV_is ry) dd.mapOf hw (h w' _ (I.tok _) rw')
  · subst ey
    cases (show u = Value.ref b from ry)
    obtain ⟨z, hd, xs, rel, dd⟩ := dt_rd I.hok e
    obtain ⟨w', hw, rw'⟩ := RelO.some_of (v := v) (o := (atKey xs k).map (·.2)) (by rw [l]; exact rel.val k)
    obtain ⟨p, hp, hp2⟩ := Option.map_eq_some_iff.mp hw
    refine wpAny_getItem_heap (tupleKind_room_in1 hu) (key_of I.hok eb) dd hp ?_
    rw [hp2]
    exact h w' _ (I.tok _) rw'
theorem d_in {Q : Value → Shared → Prop} (hu : A.units + 1 < cLine) (I : Inv X pins σ H s) (g : DGet H a y o) (ry : RelV y u) (h : ∀ s', Inv X pins σ H s' → Q (.bool o.isSome) s') :
    wpAny (model X.prog X.w) A (compareOp .In u (.ref a)) Q E s := by
  rcases g with ⟨kvs, k, e, ey, l⟩ | ⟨kvs, k, b, e, ey, eb, l⟩
  · subst ey
    obtain ⟨z, hd, vs, rel, dd⟩ := dk_rd I.hok e
    refine wpAny_in_of (kV_is ry) hd dd.mapOf ?_
    rw [← (rel.val k).isSome_eq, ← l]
    exact h _ (I.tok _)
  · subst ey
    cases (show u = Value.ref b from ry)
    obtain ⟨z, hd, xs, rel, dd⟩ := dt_rd I.hok e
    refine wpAny_in_heap (tupleKind_room_in1 hu) (key_of I.hok eb) hd dd ?_
    have q := (rel.val k).isSome_eq
    rw [Option.isSome_map] at q
    rw [← q, ← l]
    exact h _ (I.tok _)
theorem d_write {h' : Heap} {t' : Nat} {ob : HO} (I : Inv X pins σ H s) (mu : Mut (H a)) (hs : Heap.SameBut a s.heap h') (he : ∃ q, h'.get? a = some q) (new : ObjOk X.prog X.w (upd H a ob) h' a ob) :
    Inv X pins σ (upd H a ob) { s with heap := h', toks := t' } :=
  I.write (x := a) (e := a) mu (.inl rfl) (fun b q hb z => (hs.2 b hb).trans z) he new
theorem dk_new {P : Program} {w : World} {H' : Hp} {h' : Heap} {kvs : List (Key × V)} {vs : List (Key × Value)} (z : kvs.length ≤ sizeLine) (hd : (a == sysModules) = false) (rel : KV kvs vs) (dd : h'.DictOf (mixKind P w) a vs) :
    ObjOk P w H' h' a (.dK kvs) := ⟨z, hd, vs, rel, dd⟩
theorem d_setItem {H' : Hp} {Q : Unit → Shared → Prop} (hu : A.units + 1 < cLine) (I : Inv X pins σ H s) (g : DPut H a y v H') (ry : RelV y u) (rv : RelV v r) (h : ∀ s', Inv X pins σ H' s' → Q () s') :
    wpAny (model X.prog X.w) A (setItem (.ref a) u r) Q E s := by
  rcases g with ⟨kvs, k, e, ey, l, eH⟩ | ⟨kvs, k, b, e, ey, eb, l, eH⟩
  · subst ey eH
    obtain ⟨z, hd, vs, rel, dd⟩ := dk_of I.hok e
    have hz : vs.length ≤ sizeLine := by rw [← rel.length]; exact z
    have hl : (putK kvs k v).length ≤ sizeLine := by have := length_putK kvs k v; omega
    refine wpAny_setItem_pairs (hsz := hz) (kV_is ry) dd fun h' dd' hs => h _ ?_
    have he : ∃ q, h'.get? a = some q := let ⟨q, _, _, hq, _⟩ := dd'; ⟨q, hq⟩
    exact d_write I (by rw [e]; exact True.intro) hs he (dk_new hl hd (rel.put k rv) dd')
  · subst ey eH
    cases (show u = Value.ref b from ry)
    obtain ⟨z, hd, xs, rel, dd⟩ := dt_of I.hok e
    have hz : xs.length ≤ sizeLine := by rw [← Paired.length rel]; exact z
    have hl : (putK kvs k v).length ≤ sizeLine := by have := length_putK kvs k v; omega
    refine wpAny_setItem_heap (hsz := hz) (tupleKind_room_in1 hu) (key_of I.hok eb) dd fun h' dd' hs => h _ ?_
    obtain ⟨q, es, ep, hq, h2, h3, h4, _, h5⟩ := dd'
    refine d_write I (by rw [e]; exact True.intro) hs ⟨q, hq⟩ ⟨hl, hd, _, (rel.put k eb rv).keeps fun c ys ec => ?_, q, es, ep, hq, h2, h3, h4, h5⟩
    rw [upd_ne (ne_of ec e (fun z => nomatch z))]
    exact ec
end
section
variable {X : Cx} {pins : List (Addr × Obj)} {σ : St} {H : Hp} {s : Shared} {a : Addr} {kvs : List (Key × V)} {k : Key} {u : Value} {A : Around} {E : Value → Shared → Prop}
end
def NoSl (i : Expr) : Prop := ∀ ov iv, subscripted i false ov iv = operate [ov, iv] (getItem ov iv)
theorem subD_of {prog : Program} {w : World} {A : Around} {E : Value → Shared → Prop} {s : Shared} {env : Env} {value slice : Expr} {pos : Pos} {T id : String} {Q : Value → Shared → Prop}
    (hl : typeLookup (.type T) "__getitem__" = pure (some (.builtin id))) (hs : NoSl slice)
    (h : wpAny (model prog w) A (eval value env) (fun o s₁ => wpAny (model prog w) A (eval slice env) (fun i s₂ => s₂.TypeIs o T ∧ wpAny (model prog w) A (getItem o i) Q E s₂) E s₁) E s) :
    wpAny (model prog w) A (eval (.Subscript value slice pos) env) Q E s := by
  refine Subscript_ (wpAny_mono h (fun o s₁ h₁ => wpAny_mono h₁ (fun i s₂ h₂ => ?_) fun _ _ x => x) fun _ _ x => x)
  obtain ⟨hT, h₂⟩ := h₂
  unfold subscriptTail
  refine wpAny_bind ?_
  rw [getitemInPython_of_ne hT.not_modules]
  refine wpAny_bind (wpAny_specialOf hT hl ?_)
  have fin : wpAny (model prog w) A (subscripted slice false o i) (fun r s₃ => wpAny (model prog w) A (letTemporaryGo value o r >>= fun _ => pure r) Q E s₃) E s₂ := by
    rw [hs o i]
    exact wpAny_operating (wpAny_mono h₂ (fun r s₃ h₃ => wpAny_bind (wpAny_letTemporaryGo (wpAny_pure h₃))) fun _ _ x => x)
  first
    | exact wpAny_pure (wpAny_bind fin)
    | exact wpAny_bind (wpAny_pure (wpAny_bind fin))
    | exact wpAny_bind fin
theorem dict_typeIs {X : Cx} {pins : List (Addr × Obj)} {σ : St} {H : Hp} {s : Shared} {a : Addr} {y : V} {o : Option V} (I : Inv X pins σ H s) (g : DGet H a y o) : s.TypeIs (.ref a) "dict" := by
  rcases g with ⟨kvs, k, e, _, _⟩ | ⟨kvs, k, b, e, _, _, _⟩
  · obtain ⟨_, _, vs, _, dd⟩ := dk_rd I.hok e
    exact dd.typeIs
  · obtain ⟨_, _, xs, _, dd⟩ := dt_rd I.hok e
    exact dd.typeIs
def tDGet (td ty : TE) : TE := fun σ H Q => td σ H fun x H1 => ty σ H1 fun y H2 => ∃ a v, x = .ref a ∧ DGet H2 a y (some v) ∧ Q v H2
def tDIn (ty td : TE) : TE := fun σ H Q => ty σ H fun y H1 => td σ H1 fun x H2 => ∃ a o, x = .ref a ∧ DGet H2 a y o ∧ Q (.bl o.isSome) H2
def tDNotIn (ty td : TE) : TE := fun σ H Q => ty σ H fun y H1 => td σ H1 fun x H2 => ∃ a o, x = .ref a ∧ DGet H2 a y o ∧ Q (.bl (!o.isSome)) H2
def sDPut (td ty tv : TE) : TS := fun D σ H => tv σ H fun v H1 => td σ H1 fun x H2 => ty σ H2 fun y H3 => ∃ a H4, x = .ref a ∧ DPut H3 a y v H4 ∧ D.nx σ H4
def sDAug (td ty tv : TE) (rd : V → V → Hp → VK → Prop) : TS := fun D σ H => td σ H fun x H1 => ty σ H1 fun y H2 => ∃ a v, x = .ref a ∧ DGet H2 a y (some v) ∧
  tv σ H2 fun y2 H3 => rd v y2 H3 fun z H4 => ∃ H5, DPut H4 a y z H5 ∧ D.nx σ H5
def sDDel (td ty : TE) : TS := fun D σ H => td σ H fun x H1 => ty σ H1 fun y H2 => ∃ a kvs k, x = .ref a ∧ H2 a = some (.dK kvs) ∧ y = kV k ∧ (valV kvs k).isSome = true ∧ D.nx σ (upd H2 a (.dK (dropK kvs k)))
section
variable {X : Cx} {o i e value : Expr} {pos pos' tpos : Pos} {td ty tv : TE}
theorem pe_dget (hu : X.A.units + 1 < cLine) (ho : PE X o td) (hi : PE X i ty) (hs : NoSl i) : PE X (.Subscript o i pos) (tDGet td ty) := by
  intro pins s σ H Q I h
  refine subD_of PySem.F.slot_dict_getitem.lookup hs (thn (ho pins s σ H _ I h) fun u s1 ⟨x, H1, I1, rx, q1⟩ => thn (hi pins s1 σ H1 _ I1 q1) fun iv s2 ⟨y, H2, I2, ry, a, v, ex, g, q2⟩ => ?_)
  subst ex
  obtain rfl : u = Value.ref a := rx
  exact ⟨dict_typeIs I2 g, d_getItem hu I2 g ry fun w' s3 I3 rw' => ⟨v, H2, I3, rw', q2⟩⟩
theorem ps_dput (hu : X.A.units + 1 < cLine) (ho : PE X o td) (hi : PE X i ty) (hv : PE X value tv) (hs : swapsWith value (some (.Subscript o i pos')) pos.line X.env = pure false) :
    PS X (.Assign [.Subscript o i pos'] value pos) (sDPut td ty tv) := by
  intro pins s σ H D I h
  refine wpAny_Assign_Subscript (thn (hv pins s σ H _ I h) fun r s1 ⟨v, H1, I1, rv, q1⟩ => thn (ho pins s1 σ H1 _ I1 q1) fun u s2 ⟨x, H2, I2, rx, q2⟩ => thn (hi pins s2 σ H2 _ I2 q2) fun iv s3 ⟨y, H3, I3, ry, a, H4, ex, g, q3⟩ => ?_) hs
  subst ex
  obtain rfl : u = Value.ref a := rx
  exact d_setItem hu I3 g ry rv fun s4 I4 => ⟨σ, H4, I4, q3⟩
end
theorem dk_empty {P : Program} {w : World} {H : Hp} (h : Heap) (hb : sysModules < h.objs.size) : ObjOk P w H (h.push { cls := .type "dict", data := .dict #[] }) h.objs.size (.dK []) :=
  ⟨Nat.zero_le _, beq_eq_false_iff_ne.mpr (Ne.symm (Nat.ne_of_lt hb)), [], .nil, Heap.DictOf.new h⟩
def tDNewK : TE := fun _ H Q => ∀ p, H p = none → Q (.ref p) (upd H p (.dK []))
def tDNewT : TE := fun _ H Q => ∀ p, H p = none → Q (.ref p) (upd H p (.dT []))
section
variable {X : Cx} {pos : Pos}
theorem pe_dnewK : PE X (.Dict [] [] pos) tDNewK := fun pins s σ H Q I h =>
  wpAny_Dict_empty ⟨.ref s.heap.objs.size, _, I.laid (a := s.heap.objs.size) (o := .dK []) (t' := s.toks) (fun _ _ q => Heap.get?_push_of_some _ q) (Nat.le_refl _) (dk_empty s.heap I.big), rfl, h _ (I.hok.fresh (Nat.le_refl _))⟩
end
def tPairs : List (TE × TE) → St → Hp → (List (V × V) → Hp → Prop) → Prop
  | [], _, H, Q => Q [] H
  | (tk, tv) :: r, σ, H, Q => tk σ H fun x H1 => tv σ H1 fun y H2 => tPairs r σ H2 fun ps H3 => Q ((x, y) :: ps) H3
abbrev VV : List (V × V) → List (Value × Value) → Prop := Paired fun p q => RelV p.1 q.1 ∧ RelV p.2 q.2
def PPs (X : Cx) (pos : Pos) (keys : List (Option Expr)) (values : List Expr) (trs : List (TE × TE)) : Prop :=
  ∀ (pins : List (Addr × Obj)) (s : Shared) (σ : St) (H : Hp) (Q : List (V × V) → Hp → Prop), Inv X pins σ H s → tPairs trs σ H Q →
    wpAny (model X.prog X.w) X.A (evalPairs (pairTrees keys values X.env pos)) (fun vs s' => ∃ ps H', Inv X pins σ H' s' ∧ VV ps vs ∧ Q ps H') X.xe s
theorem pps_nil {X : Cx} {pos : Pos} : PPs X pos [] [] [] := fun pins s σ H Q I h => pairTrees_nil_walk ⟨[], H, I, .nil, h⟩
theorem pps_cons {X : Cx} {pos : Pos} {k v : Expr} {ks : List (Option Expr)} {vs : List Expr} {tk tv : TE} {trs : List (TE × TE)} (hk : PE X k tk) (hv : PE X v tv) (hr : PPs X pos ks vs trs) :
    PPs X pos (some k :: ks) (v :: vs) ((tk, tv) :: trs) := fun pins s σ H Q I h =>
  pairTrees_cons_walk (thn (hk pins s σ H _ I h) fun u s1 ⟨x, H1, I1, rx, q1⟩ => thn (hv pins s1 σ H1 _ I1 q1) fun w2 s2 ⟨y, H2, I2, ry, q2⟩ =>
    thn (hr pins s2 σ H2 _ I2 q2) fun ws s3 ⟨ps, H3, I3, rel, q3⟩ => ⟨(x, y) :: ps, H3, I3, .cons ⟨rx, ry⟩ rel, q3⟩)
def mergeK (kvs more : List (Key × V)) : List (Key × V) := more.foldl (fun acc kv => putK acc kv.1 kv.2) kvs
theorem KV.merge : ∀ {more : List (Key × V)} {rs : List (Key × Value)} {kvs : List (Key × V)} {vs : List (Key × Value)}, KV more rs → KV kvs vs → KV (mergeK kvs more) (merged vs rs) := by
  intro more rs kvs vs r
  unfold KV at r
  induction r generalizing kvs vs with
  | nil => intro q; exact q
  | @cons p q ps qs h t ih =>
    intro r0
    have e : KV (putK kvs p.1 p.2) (stored vs q.1 q.2) := by
      have := r0.put p.1 h.2
      rw [← h.1]; exact this
    exact ih e
theorem length_mergeK : ∀ (more kvs : List (Key × V)), (mergeK kvs more).length ≤ kvs.length + more.length
  | [], kvs => by show kvs.length ≤ kvs.length + 0; omega
  | p :: r, kvs => by
    have h1 := length_mergeK r (putK kvs p.1 p.2)
    have h2 := length_putK kvs p.1 p.2
    show (mergeK (putK kvs p.1 p.2) r).length ≤ _
    rw [List.length_cons]; omega
theorem carries_of {P : Program} {w : World} : ∀ {kvs : List (Key × V)} {ws : List (Value × Value)}, VV (kvs.map fun kv => (kV kv.1, kv.2)) ws → ∃ rs, Carries (mixKind P w) ws rs ∧ KV kvs rs
  | [], _, r => by rw [List.map_nil] at r; cases r; exact ⟨[], True.intro, .nil⟩
  | p :: kvs, _, r => by
    rw [List.map_cons] at r
    cases r with
    | @cons a b as bs h t =>
      obtain ⟨rs, c, q⟩ := carries_of (P := P) (w := w) t
      obtain ⟨b1, b2⟩ := b
      exact ⟨(p.1, b2) :: rs, ⟨kV_is h.1, rfl, c⟩, .cons ⟨rfl, h.2⟩ q⟩
def tDisp (trs : List (TE × TE)) : TE := fun σ H Q => ∀ p, H p = none → tPairs trs σ (upd H p (.dK [])) fun ps H2 => H2 p = some (.dK []) ∧ ∃ kvs : List (Key × V), ps = kvs.map (fun kv => (kV kv.1, kv.2)) ∧ kvs.length ≤ 15 ∧ Q (.ref p) (upd H2 p (.dK (mergeK [] kvs)))
theorem pe_disp {X : Cx} {pos : Pos} {keys : List (Option Expr)} {values : List Expr} {trs : List (TE × TE)} (h : PPs X pos keys values trs) (hall : keys.all (·.isSome) = true) (hl : keys.length = values.length) (h0 : keys ≠ [])
    (h15 : keys.length ≤ 15) : PE X (.Dict keys values pos) (tDisp trs) := by
  intro pins s σ H Q I q
  have hn := I.hok.fresh (Nat.le_refl s.heap.objs.size)
  have I1 := I.laid (a := s.heap.objs.size) (o := .dK []) (h' := s.heap.push { cls := .type "dict", data := .dict #[] }) (t' := s.toks) (fun _ _ q => Heap.get?_push_of_some _ q) (Nat.le_refl _) (dk_empty s.heap I.big)
  refine wpAny_Dict_walk (knd := mixKind X.prog X.w) hall hl h0 h15 (thn (h pins _ σ _ _ I1 (q _ hn)) fun ws s2 ⟨ps, H2, I2, rel, e, kvs, ep, lk, q2⟩ => ?_)
  subst ep
  obtain ⟨rs, c, rk⟩ := carries_of (P := X.prog) (w := X.w) rel
  obtain ⟨z, hd, vs0, r0, dd⟩ := dk_of I2.hok e
  cases r0
  refine ⟨rs, c, dd, fun h' dd' hs => ⟨.ref s.heap.objs.size, _, ?_, rfl, q2⟩⟩
  have hz : (mergeK [] kvs).length ≤ sizeLine := by
    have h1 := length_mergeK kvs []
    rw [List.length_nil] at h1
    rw [sizeLine_eq]; omega
  have he : ∃ q, h'.get? s.heap.objs.size = some q := let ⟨q, _, _, hq, _⟩ := dd'; ⟨q, hq⟩
  exact d_write I2 (by rw [e]; exact True.intro) hs he (dk_new hz hd (rk.merge .nil) dd')
structure M1 (X : Cx) (o : Expr) (m : Str) (apos : Pos) (e : Expr) (cpos : Pos) : Prop where
  base : attributeBase o m X.env (eval o X.env) = eval o X.env
  few : ((backTo cpos (starEach [e] X.env)).all (fun x => !x.1) && (backToKw cpos (keywordEach [] X.env)).all (fun x => x.1.isSome)
    && decide (([e] : List Expr).length + ([] : List Keyword).length + (if ([] : List Keyword).isEmpty then 0 else 1) < 30)) = true
  line : (apos.endLine == cpos.line) = true
  trees : backTo cpos (starEach [e] X.env) = [(false, eval e X.env)]
structure M2 (X : Cx) (o : Expr) (m : Str) (apos : Pos) (e f : Expr) (cpos : Pos) : Prop where
  base : attributeBase o m X.env (eval o X.env) = eval o X.env
  few : ((backTo cpos (starEach [e, f] X.env)).all (fun x => !x.1) && (backToKw cpos (keywordEach [] X.env)).all (fun x => x.1.isSome)
    && decide (([e, f] : List Expr).length + ([] : List Keyword).length + (if ([] : List Keyword).isEmpty then 0 else 1) < 30)) = true
  line : (apos.endLine == cpos.line) = true
  trees : backTo cpos (starEach [e, f] X.env) = [(false, eval e X.env), (false, eval f X.env)]
def IsD (H : Hp) (a : Addr) : Prop := (∃ kvs, Rd H a (.dK kvs)) ∨ ∃ kvs, Rd H a (.dT kvs)
theorem isD_at {X : Cx} {pins : List (Addr × Obj)} {σ : St} {H : Hp} {s : Shared} {a : Addr} (I : Inv X pins σ H s) (d : IsD H a) :
    s.TypeIs (.ref a) "dict" ∧ (∀ b, Value.ref a = .ref b → ∃ ob, s.heap.get? b = some ob ∧ ob.dict = none) ∧ (a == sysModules) = false := by
  rcases d with ⟨kvs, e⟩ | ⟨kvs, e⟩
  · obtain ⟨_, hd, vs, _, dd⟩ := dk_rd I.hok e
    refine ⟨dd.typeIs, fun b q => ?_, hd⟩
    cases q
    obtain ⟨ob, _, _, h1, h2, _⟩ := dd
    exact ⟨ob, h1, h2.2.1⟩
  · obtain ⟨_, hd, xs, _, dd⟩ := dt_rd I.hok e
    refine ⟨dd.typeIs, fun b q => ?_, hd⟩
    cases q
    obtain ⟨ob, _, _, h1, h2, _⟩ := dd
    exact ⟨ob, h1, h2.2.1⟩
section
variable {X : Cx} {pins : List (Addr × Obj)} {σ : St} {H : Hp} {s : Shared} {a : Addr} {y d : V} {u r : Value} {o : Option V} {A : Around} {E : Value → Shared → Prop}
theorem d_get1 {Q : Value → Shared → Prop} (hu : A.units + 1 < cLine) (I : Inv X pins σ H s) (g : DGet H a y o) (ry : RelV y u) (h : ∀ w' s', Inv X pins σ H s' → RelV (o.getD .non) w' → Q w' s') :
    wpAny (model X.prog X.w) A (call (.builtin "dict.get") [.ref a, u]) Q E s := by
  rcases g with ⟨kvs, k, e, ey, l⟩ | ⟨kvs, k, b, e, ey, eb, l⟩
  · subst ey
    obtain ⟨z, hd, vs, rel, dd⟩ := dk_rd I.hok e
    refine call_meetsIn PySem.F.slot_dict_get dd.typeIs PySem.F.entry_dict_get (PySem.F.args_dict_get_2 _ _) (meets_dict_get (mixKind X.prog X.w) a (kV_is ry) hd) ⟨_, dd.mapOf, h _ _ (I.tok _) ?_⟩
    rw [l]
    exact (rel.val k).getD rfl
  · subst ey
    cases (show u = Value.ref b from ry)
    obtain ⟨z, hd, xs, rel, dd⟩ := dt_rd I.hok e
    refine call_meetsIn PySem.F.slot_dict_get dd.typeIs PySem.F.entry_dict_get (PySem.F.args_dict_get_2 _ _) (meetsH_dict_get (tupleKind (mixKind X.prog X.w)) a b hd) ⟨tupleKind_room_in1 hu, k, xs, key_of I.hok eb, dd, h _ _ (I.tok _) ?_⟩
    rw [l]
    exact (rel.val k).getD rfl
theorem d_get2 {Q : Value → Shared → Prop} (hu : A.units + 1 < cLine) (I : Inv X pins σ H s) (g : DGet H a y o) (ry : RelV y u) (rd : RelV d r) (h : ∀ w' s', Inv X pins σ H s' → RelV (o.getD d) w' → Q w' s') :
    wpAny (model X.prog X.w) A (call (.builtin "dict.get") [.ref a, u, r]) Q E s := by
  rcases g with ⟨kvs, k, e, ey, l⟩ | ⟨kvs, k, b, e, ey, eb, l⟩
  · subst ey
    obtain ⟨z, hd, vs, rel, dd⟩ := dk_rd I.hok e
    refine call_meetsIn PySem.F.slot_dict_get dd.typeIs PySem.F.entry_dict_get (PySem.F.args_dict_get_3 _ _ _) (meets_dict_get_default (mixKind X.prog X.w) a (kV_is ry) hd r) ⟨_, dd.mapOf, h _ _ (I.tok _) ?_⟩
    rw [l]
    exact (rel.val k).getD rd
  · subst ey
    cases (show u = Value.ref b from ry)
    obtain ⟨z, hd, xs, rel, dd⟩ := dt_rd I.hok e
    refine call_meetsIn PySem.F.slot_dict_get dd.typeIs PySem.F.entry_dict_get (PySem.F.args_dict_get_3 _ _ _) (meetsH_dict_get_default (tupleKind (mixKind X.prog X.w)) a b hd r) ⟨tupleKind_room_in1 hu, k, xs, key_of I.hok eb, dd, h _ _ (I.tok _) ?_⟩
    rw [l]
    exact (rel.val k).getD rd
end
def tDGet1 (td ty : TE) : TE := fun σ H Q => td σ H fun x H1 => ∃ a, x = .ref a ∧ IsD H1 a ∧ ty σ H1 fun y H2 => ∃ o, DGet H2 a y o ∧ Q (o.getD .non) H2
def tDGet2 (td ty tx : TE) : TE := fun σ H Q => td σ H fun x H1 => ∃ a, x = .ref a ∧ IsD H1 a ∧ ty σ H1 fun y H2 => tx σ H2 fun z H3 => ∃ o, DGet H3 a y o ∧ Q (o.getD z) H3
def tDPop1 (td ty : TE) : TE := fun σ H Q => td σ H fun x H1 => ∃ a, x = .ref a ∧ IsD H1 a ∧ ty σ H1 fun y H2 => ∃ kvs k v, H2 a = some (.dK kvs) ∧ y = kV k ∧ valV kvs k = some v ∧ Q v (upd H2 a (.dK (dropK kvs k)))
def tDPop2 (td ty tx : TE) : TE := fun σ H Q => td σ H fun x H1 => ∃ a, x = .ref a ∧ IsD H1 a ∧ ty σ H1 fun y H2 => tx σ H2 fun z H3 => ∃ kvs k, H3 a = some (.dK kvs) ∧ y = kV k ∧
  (∀ v, valV kvs k = some v → Q v (upd H3 a (.dK (dropK kvs k)))) ∧ (valV kvs k = none → Q z H3)
section
variable {X : Cx} {o e f : Expr} {apos cpos : Pos} {td ty tx : TE}
theorem pe_dget1 (hu : X.A.units + 1 < cLine) (ho : PE X o td) (he : PE X e ty) (m : M1 X o "get" apos e cpos) : PE X (.Call (.Attribute o "get" apos) [e] [] cpos) (tDGet1 td ty) := by
  intro pins s σ H Q I h
  refine wpAny_Call_method m.base m.few m.line PySem.F.plainAttrs_dict PySem.F.slot_dict_get PySem.F.type_dict_get (thn (ho pins s σ H _ I h) fun u s1 ⟨x, H1, I1, rx, a, ex, d, q1⟩ => ?_)
  subst ex
  obtain rfl : u = Value.ref a := rx
  obtain ⟨t1, t2, _⟩ := isD_at I1 d
  refine ⟨t1, t2, ?_⟩
  rw [m.trees]
  refine Calls.callWith_builtin rfl (Calls.evalArgs_plain (Calls.spliced_cons (thn (he pins s1 σ H1 _ I1 q1) fun iv s2 ⟨y, H2, I2, ry, ov, g, q2⟩ => Calls.spliced_nil ?_)))
  exact d_get1 hu I2 g ry fun w' s3 I3 rw' => ⟨_, H2, I3, rw', q2⟩
theorem pe_dget2 (hu : X.A.units + 1 < cLine) (ho : PE X o td) (he : PE X e ty) (hf : PE X f tx) (m : M2 X o "get" apos e f cpos) : PE X (.Call (.Attribute o "get" apos) [e, f] [] cpos) (tDGet2 td ty tx) := by
  intro pins s σ H Q I h
  refine wpAny_Call_method m.base m.few m.line PySem.F.plainAttrs_dict PySem.F.slot_dict_get PySem.F.type_dict_get (thn (ho pins s σ H _ I h) fun u s1 ⟨x, H1, I1, rx, a, ex, d, q1⟩ => ?_)
  subst ex
  obtain rfl : u = Value.ref a := rx
  obtain ⟨t1, t2, _⟩ := isD_at I1 d
  refine ⟨t1, t2, ?_⟩
  rw [m.trees]
  refine Calls.callWith_builtin rfl (Calls.evalArgs_plain (Calls.spliced_cons (thn (he pins s1 σ H1 _ I1 q1) fun iv s2 ⟨y, H2, I2, ry, q2⟩ =>
    Calls.spliced_cons (thn (hf pins s2 σ H2 _ I2 q2) fun fv s3 ⟨z, H3, I3, rz, ov, g, q3⟩ => Calls.spliced_nil ?_))))
  exact d_get2 hu I3 g ry rz fun w' s4 I4 rw' => ⟨_, H3, I4, rw', q3⟩
end
section
variable {X : Cx} {pins : List (Addr × Obj)} {σ : St} {H : Hp} {s : Shared} {a : Addr} {kvs : List (Key × V)} {A : Around} {E : Value → Shared → Prop}
theorem d_copyOf {Q : Value → Shared → Prop} (I : Inv X pins σ H s) (e : Rd H a (.dK kvs)) (h : ∀ p s', H p = none → Inv X pins σ (upd H p (.dK kvs)) s' → Q (.ref p) s') : wpAny (model X.prog X.w) A (call (.type "dict") [.ref a]) Q E s := by
  obtain ⟨z, hd, vs, rel, dd⟩ := dk_rd I.hok e
  refine kt_call_dict hd dd (by rw [← rel.length]; exact z) fun h' dd' hs => ?_
  refine h _ _ (I.hok.fresh (Nat.le_refl _)) (I.laid (a := s.heap.objs.size) (o := .dK kvs) (t' := s.toks) (fun b q hq => ?_) (Nat.le_refl _) (dk_new z (beq_eq_false_iff_ne.mpr (Ne.symm (Nat.ne_of_lt I.big))) rel dd'))
  exact (hs.2 b (Nat.ne_of_lt (Heap.lt_size hq))).trans (Heap.get?_push_of_some _ hq)
end
section
variable {X : Cx} {pins : List (Addr × Obj)} {σ : St} {H : Hp} {s : Shared} {a : Addr} {y : V} {u : Value} {A : Around} {E : Value → Shared → Prop}
end
end L2
namespace Att
open PySem PySem.W PySem.Calls PyProof.Rows
theorem ints_of_wellAll {P : Params} {h : Heap} : ∀ (ns : List Int) (vs : List Value), WellAll P h vs (ns.map WData.int) → IntsAre vs ns := by
  intro ns
  induction ns with
  | nil =>
    intro vs w
    rw [List.map_nil] at w
    cases w
    exact .nil
  | cons n ns ih =>
    intro vs w
    rw [List.map_cons] at w
    cases w with
    | cons a b =>
      cases a
      exact .cons _ _ (ih _ b)
theorem script_of {l : OpenLaw} {n : Nat} (hn : l.most = some n) {P : Params} {h : Heap} {args : List WData} {vals : List Value}
    (hpre : l.row.toRowW.claim.pre args = true) (hwl : WellAll P h vals args) :
    ∃ a vs ns, vals = [Value.ref a] ∧ args = [WData.list (ns.map WData.int)] ∧ h.get? a = some { cls := .type "list", data := .seq vs.toArray } ∧ IntsAre vs ns ∧ ns.length ≤ n := by
  have hsh : WShape.hasAll [] args [.list .int] = true := (pre_splitW hpre).1
  have hc : l.pre.holds [] { args := args } = true := (pre_splitW hpre).2
  obtain ⟨d, r, rfl, h1, h2⟩ := hasAllW_cons hsh
  obtain rfl := hasAllW_nil h2
  obtain ⟨xs, rfl, h3⟩ := hasW_list h1
  obtain ⟨ns, rfl⟩ := items_int h3
  have hlen : ns.length ≤ n := by
    unfold OpenLaw.pre at hc
    have h4 : (WTm.not (.lt (.lit (.int (n : Int))) (.len (.arg 0)))).holds [] { args := [.list (ns.map .int)] } = true := by
      have h4 := (holds_andW hc).1
      rw [hn] at h4
      exact h4
    have h5 := condW_of h4 (w_not (w_lt w_lit (w_len_list (w_arg rfl))))
    rw [List.length_map] at h5
    refine Nat.le_of_not_lt fun q => ?_
    have q' : (n : Int) < ((ns.length : Nat) : Int) := by omega
    first
      | (rw [decide_eq_true q'] at h5; exact absurd h5 (by decide))
      | (simp at h5; omega)
  cases hwl with
  | cons w1 w2 =>
    cases w2
    cases w1 with
    | list ho hall => exact ⟨_, _, ns, rfl, rfl, ho, ints_of_wellAll ns _ hall, hlen⟩
theorem post_true (l : OpenLaw) (args : List WData) : l.row.toRowW.claim.post args (.bool true) args = true :=
  postW_of (r := l.row.toRowW) (X := (true == true))
    (show WShape.has [] (.bool true) .bool = true by first | rfl | decide | simp [WShape.has, WShape.arms, WShape.armsAll])
    (show (WTm.eq .res (.lit (.bool true))).value [] { args := args, res := some (.bool true), after := args } = some (.bool (true == true)) from w_eq_bool (w_res rfl) w_lit) rfl
theorem attach_call {l : OpenLaw} {n : Nat} {q : Program} {loose : List Str} {XP : (Str → Option Value) → Heap → Prop} {YP : World → Heap → Prop} {d : DefRec}
    (hn : l.most = some n) (hdf : d.params.defaults = [])
    (call : ∀ (w : World) (s₀ s₁ : Shared) (mg mb : Str → Option Value) (fa : Addr) (o : Obj) (pm cd doc : Value) (a : Addr) (vs : List Value) (ns : List Int),
      Ground q loose [] XP w s₀ mg mb s₁.heap → YP w s₁.heap →
      s₁.heap.get? fa = some o → o.data = .func (docDef d.name d.params d.body d.scope pm cd doc) → s₁.heap.CodeRec cd d.name → mg d.name = some (.ref fa) →
      s₁.heap.get? a = some { cls := .type "list", data := .seq vs.toArray } → IntsAre vs ns → ns.length ≤ n → s₁.gens = #[] →
      codeAny (model l.prog w) callerA (.call (.ref fa) ⟨[.ref a], []⟩) (fun r s' => r = .ok (.ret (.bool true)) ∧ OldK s₁.heap s'.heap ∧ s'.os = s₁.os ∧ AllBare s'.gens) s₁) :
    WalkO q loose XP YP l.row.toRowW d [] (fun f vs => PySem.call f vs) := by
  intro w s₀ s₁ mg mb G Y fa o pm cd doc dV kV ho hd hcd hD hmg hg args vals as hpre hlay hrd hwl hlo
  obtain rfl : dV = .none := Dflts.none hD hdf
  obtain rfl : kV = .none := Dflts.noKw hD
  obtain ⟨a, vs, ns, rfl, rfl, hobj, hints, hlen⟩ := script_of hn hpre hwl
  refine enter_call (codeAny_mono (call w s₀ s₁ mg mb fa o pm cd doc a vs ns G Y ho (fd_plain hd) hcd hmg hobj hints hlen hg) fun r s' hq => ?_)
  obtain ⟨rfl, h2, h3, h4⟩ := hq
  exact ⟨.inl ⟨.bool true, .bool true, [], rfl, fun _ => rfl, .bool true, post_true l _, fun _ => ⟨List.Pairwise.nil, fun _ hm => (nomatch hm)⟩⟩, h2, h3, h4⟩
section
variable {prog : Program} {w : World} {A : Around} {E : Value → Shared → Prop} {s : Shared} {K : Frag}
def noObjs (h : Heap) : Heap := { h with objs := #[] }
def ledger (h : Heap) (L d : Addr) : List (Addr × Obj) := (List.range h.objs.size).filterMap fun a => if a = L ∨ a = d then none else (h.get? a).map fun o => (a, o)
end
end Att
namespace L2
open PySem PySem.Spec PyProof.Rows
theorem vals_ints : ∀ {vs : List Value} {ns : List Int}, IntsAre vs ns → Vals (ns.map V.int) vs
  | _, _, .nil => .nil
  | _, _, .cons n t h => .cons ⟨t, rfl⟩ (vals_ints h)
def Only (H : Hp) : Prop := ∀ b, H b = none ∨ ∃ o xs, H b = some (.frz o (.lst xs))
theorem law_call {P : Program} {w : World} {K : PySem.W.Frag} {mg mb : Str → Option Value} {CX : CXT} {k : Nat} {fa a : Addr} {fd : FuncData} {x : Str} {sp : Sp} {s₁ : Shared} {vs : List Value} {ns : List Int}
    (KX : K.In s₁.heap) (hns : s₁.heap.Ns mainGlobals mg) (hb : s₁.heap.Ns builtinsNs mb) (hbb : ∀ x : Str, x ≠ "__name__" → mb x = bootBuiltins x) (hlim : s₁.heap.NoLimit) (hg : s₁.gens = #[])
    (ha : s₁.heap.get? a = some { cls := .type "list", data := .seq vs.toArray }) (hi : IntsAre vs ns) (hl : ns.length ≤ sizeLine) (hr : Room k callerA)
    (F : ∀ base : Heap, K.In base → base.Ns mainGlobals mg → FnOk P w K mg base CX k fa fd [x] sp) (hbind : ∀ (s : Shared) (u : Value), BindsTo s fd ⟨[u], []⟩ [(x, u)])
    (hsp : ∀ H : Hp, Only H → SqL K H a (ns.map V.int) → sp [.ref a] H (fun v _ => v = .bl true) fun _ _ _ => False)
    (hCX : ∀ H e s', CX [] H s₁ (fun _ _ _ => False) e s' → False) :
    codeAny (model P w) callerA (.call (.ref fa) ⟨[.ref a], []⟩) (fun r s' => r = .ok (.ret (.bool true)) ∧ OldK s₁.heap s'.heap ∧ s'.os = s₁.os ∧ AllBare s'.gens) s₁ := by
  have rv := vals_ints hi
  have lenV := hi.length
  have core : ∀ H : Hp, Only H → SqL K H a (ns.map V.int) → HOk P w H s₁.heap → (∀ b, H b ≠ none → b = a) → (H a ≠ none → K.lookup a = none) →
      codeAny (model P w) callerA (.call (.ref fa) ⟨[.ref a], []⟩) (fun r s' => r = .ok (.ret (.bool true)) ∧ OldK s₁.heap s'.heap ∧ s'.os = s₁.os ∧ AllBare s'.gens) s₁ := by
    intro H hO hS hok hA hK
    have base_of : ∀ {b : Addr} {o : Obj}, s₁.heap.get? b = some o → H b = none → (hidT s₁.heap H).get? b = some o := fun e n => hidT_get e n
    have noA : ∀ {b : Addr} {o : Obj} {es : Array DictEntry} {ep : Nat}, s₁.heap.get? b = some o → o.data = .dict es ep → H b = none := fun {b o es ep} e d => by
      cases q : H b with
      | none => rfl
      | some u =>
        have e' : b = a := hA b (by rw [q]; simp)
        subst e'
        rw [ha] at e; cases e
        have d' : Data.seq vs.toArray _ = Data.dict es ep := d
        cases d'
    have nsK : ∀ {b : Addr} {m : Str → Option Value}, s₁.heap.Ns b m → (hidT s₁.heap H).Ns b m := fun {b m} ⟨o, es, ep, e, d, r⟩ => ⟨o, es, ep, base_of e (noA e d), d, r⟩
    have hKb : K.In (hidT s₁.heap H) := fun b o e => base_of (KX b o e) (by
      cases q : H b with
      | none => rfl
      | some u =>
        have e' : b = a := hA b (by rw [q]; simp)
        subst e'
        rw [hK (by rw [q]; simp)] at e; cases e)
    have hM : Mod K mg (hidT s₁.heap H) := ⟨hKb, nsK hns, ⟨mb, nsK hb, hbb⟩, let ⟨mc, h1, h2⟩ := hlim; ⟨mc, nsK h1, h2⟩⟩
    have e0 : Env0 P w K mg (hidT s₁.heap H) callerA [] s₁ H := ⟨rfl, hM, fun b o e => of_hidT e, Nat.le_of_eq (hidT_size _ _), trivial, fun b hb => absurd (show b ∈ ([] : List Addr) from hb) (by simp), hok, .of_eq hg⟩
    refine codeAny_mono ((F _ hKb (nsK hns)).run callerA [] s₁ H ⟨[.ref a], []⟩ [.ref a] [.ref a] _ _ hr e0 (hbind s₁ (.ref a)) (.cons rfl .nil) (hsp H hO hS)) fun r s' h => ?_
    cases r with
    | error e => exact (hCX H e s' h).elim
    | ok fl =>
      cases fl with
      | next => exact False.elim h
      | brk => exact False.elim h
      | cont => exact False.elim h
      | ret u =>
        obtain ⟨v, H', os, bare, un, hok', r', q⟩ := h
        have q' : v = .bl true := q
        subst q'
        obtain rfl : u = Value.bool true := r'
        refine ⟨rfl, OldK.of_keep fun b o e => ?_, os, bare⟩
        cases q : H b with
        | none => exact un.keep b o e q (by intro z; exact absurd (show b ∈ ([] : List Addr) from z) (by simp)) (by simp)
        | some u =>
          rcases hO b with z | ⟨ob, xs, z⟩
          · rw [q] at z; cases z
          · have z2 := un.frzs b ob _ z
            obtain ⟨e1, _⟩ := hok b _ z
            obtain ⟨e2, _⟩ := hok' b _ z2
            rw [e] at e1; cases e1
            exact e2
  cases hk : K.lookup a with
  | some o =>
    have e := KX a o hk
    rw [ha] at e
    cases e
    refine core (fun _ => none) (fun _ => .inl rfl) (.inr ⟨_, vs.toArray, _, hk, rfl, rfl, rfl, by rw [List.size_toArray, lenV]; exact hl, by simpa using rv⟩) (fun b u z => by have z' : (none : Option HO) = some u := z; cases z') (fun b z => absurd rfl z) fun z => absurd rfl z
  | none =>
    refine core (fun b => if b = a then some (.frz { cls := .type "list", data := .seq vs.toArray } (.lst (ns.map V.int))) else none) (fun b => ?_) (.inl (.inr ⟨{ cls := .type "list", data := .seq vs.toArray }, if_pos rfl⟩)) (fun b u z => ?_) (fun b z => ?_) fun _ => hk
    · by_cases hb : b = a
      · exact .inr ⟨_, _, if_pos hb⟩
      · exact .inl (if_neg hb)
    · by_cases hb : b = a
      · have z' := (if_pos hb).symm.trans z
        cases z'
        subst hb
        exact ⟨ha, by rw [List.length_map]; exact hl, vs, _, rv, ha⟩
      · have z' := (if_neg hb).symm.trans z
        cases z'
    · by_cases hb : b = a
      · exact hb
      · exact absurd (if_neg hb) z
end L2
namespace L2
open PySem PySem.Spec PyProof.Rows
abbrev KOf {K : PySem.W.Frag} {h : Heap} (_ : K.In h) : PySem.W.Frag := K
theorem walk_of {l : PySem.W.OpenLaw} {n k : Nat} {q : Program} {loose : List Str} {XP : (Str → Option Value) → Heap → Prop} {YP : World → Heap → Prop} {d : DefRec} {K : Params → PySem.W.Frag} {CX : World → CXT} {sp : World → Sp} {x : Str}
    (hn : l.most = some n) (hn2 : n ≤ sizeLine) (hdf : d.params.defaults = []) (hr : Room k callerA)
    (hY : ∀ (w : World) (h : Heap), YP w h → (K w.params).In h)
    (F : ∀ (w : World) (mg : Str → Option Value) (fa : Addr) (h : Heap), (K w.params).In h → h.Ns mainGlobals mg → mg d.name = some (.ref fa) →
      ∃ fd : FuncData, (∀ (s : Shared) (u : Value), BindsTo s fd ⟨[u], []⟩ [(x, u)]) ∧
        ∀ base : Heap, (K w.params).In base → base.Ns mainGlobals mg → FnOk l.prog w (K w.params) mg base (CX w) k fa fd [x] (sp w))
    (hsp : ∀ (w : World) (H : Hp) (a : Addr) (ns : List Int), ns.length ≤ n → Only H → SqL (K w.params) H a (ns.map V.int) → sp w [.ref a] H (fun v _ => v = .bl true) fun _ _ _ => False)
    (hCX : ∀ (w : World) (H : Hp) (s : Shared) (e : Value) (s' : Shared), CX w [] H s (fun _ _ _ => False) e s' → False) :
    PySem.W.WalkO q loose XP YP l.row.toRowW d [] (fun f vs => PySem.call f vs) := by
  refine Att.attach_call hn hdf fun w s₀ s₁ mg mb fa o pm cd doc a vs ns G Y ho hd hcd hmg hobj hints hlen hg => ?_
  have KX := hY w _ Y
  obtain ⟨fd, hb, hF⟩ := F w mg fa _ KX G.T.g hmg
  exact law_call KX G.T.g G.T.b G.T.builtins G.T.nolimit hg hobj hints (Nat.le_trans hlen hn2) hr hF hb (fun H hO hS => hsp w H a ns hlen hO hS) fun H e s' => hCX w H s₁ e s'
end L2
namespace L2
open PySem PySem.Spec PyProof.Rows
def inClass (s : Stmt) (j : Nat) : Stmt := match s with
  | .ClassDef _ _ _ body _ _ _ _ _ _ _ => body.getD j (.Pass ⟨0, 0, 0, 0⟩)
  | _ => .Pass ⟨0, 0, 0, 0⟩
def defArgs (s : Stmt) : Arguments := match s with
  | .FunctionDef _ a _ _ _ _ _ _ _ _ => a
  | _ => { posonlyargs := [], args := [], vararg := none, kwonlyargs := [], kw_defaults := [], kwarg := none, defaults := [] }
def defBody (s : Stmt) : List Stmt := match s with
  | .FunctionDef _ _ b _ _ _ _ _ _ _ => b
  | _ => []
def defScope (s : Stmt) : Scope := match s with
  | .FunctionDef _ _ _ _ _ _ sc _ _ _ => sc
  | _ => { kind := .function, names := [], isGenerator := false, isCoroutine := false }
abbrev CX0 : CXT := fun _ _ _ _ _ _ => False
abbrev E0 : XK := fun _ _ _ => False
theorem pass0 {X : Cx} : Passes CX0 X E0 := fun _ _ _ _ _ _ _ h => h.elim
structure Fun (K : PySem.W.Frag) (x qual : Str) (st : Stmt) (f : Addr) (fd : FuncData) : Prop where
  ex : ∃ (oc : Value) (od : Option Addr) (kV doc pm : Value) (an : Option Addr) (cdv ct : Value) (osl : Array (Option Value)),
    fd = PySem.W.fnOf x qual (defArgs st) (defBody st) (defScope st) .none kV doc pm an cdv ct ∧ K.lookup f = some ⟨oc, od, .func fd, osl⟩ ∧ PySem.W.codeIn K cdv qual = true
  kp : PySem.W.keepIn K (.ref f) = true
section
variable {P : Program} {w : World} {K : PySem.W.Frag} {mg : Str → Option Value} {base : Heap}
theorem Fun.ok {x qual : Str} {st : Stmt} {f : Addr} {fd : FuncData} {N ps : List Str} {k : Nat} {sp : Sp} (F : Fun K x qual st f fd) (S : FnScope N ps (defScope st)) (len : ∀ vs H Q E, sp vs H Q E → vs.length = ps.length)
    (hbody : ∀ (cdv : Value) (A : Around) (outer : List Env) (s : Shared) (H : Hp) (vs : List V) (Q : VK) (E : XK), Room k (A.deeper (envOfC qual (defScope st) s.heap.objs.size f cdv)) → sp vs H Q E →
      ∃ t, PSs (cxOf CX0 P w K mg base N qual (defScope st) f cdv A outer s H E).nox (defBody st) t ∧ t { nx := fun _ H' => Q .non H', rt := Q } (start N vs) H) : FnOk P w K mg base CX0 (k + 1) f fd ps sp := by
  obtain ⟨oc, od, kV, doc, pm, an, cdv, ct, osl, rfl, lk, hcd⟩ := F.ex
  refine fn_of lk hcd S len fun A outer s H vs Q E hr hsp => ?_
  obtain ⟨t, h, q⟩ := hbody cdv A outer s H vs Q E hr hsp
  exact ⟨t, h.nox, q⟩
theorem Fun.binds {x qual : Str} {st : Stmt} {f : Addr} {fd : FuncData} {ps : List Str} (F : Fun K x qual st f fd)
    (h : ∀ (kV doc pm : Value) (an : Option Addr) (cdv ct : Value) (us : List Value), us.length = ps.length → bindArgs (PySem.W.fnOf x qual (defArgs st) (defBody st) (defScope st) .none kV doc pm an cdv ct) ⟨us, []⟩ = pure (ps.zip us)) : Binds K fd ps [] := by
  obtain ⟨oc, od, kV, doc, pm, an, cdv, ct, osl, rfl, lk, hcd⟩ := F.ex
  exact .all (h kV doc pm an cdv ct)
theorem fun_mk {x qual : Str} {st : Stmt} {f : Addr} {oc : Value} {od an : Option Addr} {osl : Array (Option Value)} {kV doc pm cdv ct : Value} (l : K.lookup f = some ⟨oc, od, .func (PySem.W.fnOf x qual (defArgs st) (defBody st) (defScope st) .none kV doc pm an cdv ct), osl⟩)
    (c : PySem.W.codeIn K cdv qual = true) (k : PySem.W.keepIn K (.ref f) = true) : Fun K x qual st f (PySem.W.fnOf x qual (defArgs st) (defBody st) (defScope st) .none kV doc pm an cdv ct) := ⟨⟨oc, od, kV, doc, pm, an, cdv, ct, osl, rfl, l, c⟩, k⟩
end
theorem hu_of {A : Around} {k : Nat} (hr : Room k A) : A.units + 1 < cLine := Nat.lt_of_le_of_lt (Nat.add_le_add_left (by decide : 1 ≤ 64) _) hr.units
theorem small1000 {n : Nat} (h : n ≤ 1000) : n < sizeLine := Nat.lt_of_le_of_lt h (by decide)
section
variable {X : Cx}
theorem pv (i : Nat) {x : Str} {pos : Pos} (hN : X.N[i]? = some x := by rfl) (hv : Vis X.env.scope x := by first | exact Or.inl rfl | exact Or.inr (Or.inl rfl) | exact Or.inr (Or.inr rfl)) (hd : (x == ("__debug__" : Str)) = false := by decide)
    (hcd : (x == ("__classdict__" : Str)) = false := by decide) : PE X (.Name x pos) (tVar i) := pe_var hN hv hd hcd
end
theorem iteF {A B : Prop} (h : B) : if false = true then A else B := by
  rw [if_neg Bool.false_ne_true]
  exact h
theorem iteT {A B : Prop} (h : A) : if true = true then A else B := by
  rw [if_pos rfl]
  exact h
theorem ite2 {c A B : Prop} [Decidable c] (h1 : c → A) (h2 : ¬ c → B) : if c then A else B := by
  by_cases h : c
  · rw [if_pos h]
    exact h1 h
  · rw [if_neg h]
    exact h2 h
theorem iteNS {c A B : Prop} [Decidable c] (hc : c) (h : B) : if (!decide c) = true then A else B := by
  rw [decide_eq_true hc]
  exact iteF h
def Same (H H' : Hp) : Prop := ∀ b o, H b = some o → H' b = some o
theorem Same.refl (H : Hp) : Same H H := fun _ _ h => h
theorem Same.trans {H H1 H2 : Hp} (a : Same H H1) (b : Same H1 H2) : Same H H2 := fun c o h => b c o (a c o h)
theorem Same.free {H H' : Hp} (e : Same H H') {l : Addr} (h : H' l = Option.none) : H l = Option.none := by
  cases q : H l with
  | none => rfl
  | some o =>
    rw [e l o q] at h
    cases h
theorem Same.seq {K : PySem.W.Frag} {H H' : Hp} {a : Addr} {xs : List V} (e : Same H H') (h : SqL K H a xs) : SqL K H' a xs := by
  rcases h with (h | ⟨o, h⟩) | h
  · exact .inl (.inl (e _ _ h))
  · exact .inl (.inr ⟨o, e _ _ h⟩)
  · exact .inr h
section
variable {κ : Type} [DecidableEq κ]
theorem valV_not {kvs : List (κ × V)} {k : κ} (h : valV kvs k = none) : ¬ k ∈ kvs.map (·.1) := by
  intro m
  obtain ⟨p, hp, e⟩ := List.mem_map.mp m
  have q : (kvs.any fun kv => decide (kv.1 = k)) = true := List.any_eq_true.mpr ⟨p, hp, decide_eq_true e⟩
  rw [valV_any, h] at q
  exact absurd q (by simp)
theorem nd_snoc : ∀ {l : List κ} {k : κ}, l.Nodup → ¬ k ∈ l → (l ++ [k]).Nodup
  | [], k, _, _ => by simp
  | a :: r, k, h, hk => by
    obtain ⟨h1, h2⟩ := List.nodup_cons.mp h
    show (a :: (r ++ [k])).Nodup
    refine List.nodup_cons.mpr ⟨fun m => ?_, nd_snoc h2 fun m => hk (List.mem_cons.mpr (Or.inr m))⟩
    rcases List.mem_append.mp m with q | q
    · exact h1 q
    · exact hk (List.mem_cons.mpr (Or.inl (List.mem_singleton.mp q).symm))
theorem nd_putK {kvs : List (κ × V)} {k : κ} (v : V) (hn : (kvs.map (·.1)).Nodup) (h : valV kvs k = none) : ((putK kvs k v).map (·.1)).Nodup := by
  rw [putK_new v h, List.map_append]
  exact nd_snoc hn (valV_not h)
end
end L2
set_option Elab.async false
set_option linter.all false
set_option maxRecDepth 100000
set_option maxHeartbeats 4000000
namespace L2
open PySem PySem.Spec PyProof.Rows
abbrev NoX : Value → Shared → Prop := fun _ _ => False
theorem noX {al : Type} {t : Sem al} {Q : al → Shared → Prop} {M : Model} {A : Around} {E : Value → Shared → Prop} {s : Shared} (h : wpAny M A t Q NoX s) : wpAny M A t Q E s :=
  wpAny_mono h (fun _ _ q => q) fun _ _ z => z.elim
def capSt (cap : List (Option Nat)) (σ : St) : St := cap.map fun o => match o with
  | none => none
  | some j => (σ[j]?).join
inductive Ext : St → St → Prop
  | nil : Ext [] []
  | skip {a b : St} {x : Option V} : Ext a b → Ext (none :: a) (x :: b)
  | keep {a b : St} {x : Option V} : Ext a b → Ext (x :: a) (x :: b)
theorem Ext.len {a b : St} (h : Ext a b) : a.length = b.length := by
  induction h with
  | nil => rfl
  | skip _ ih => simp [ih]
  | keep _ ih => simp [ih]
theorem Ext.get {a b : St} (h : Ext a b) : ∀ (i : Nat) v, a[i]? = some (some v) → b[i]? = some (some v) := by
  induction h with
  | nil => intro i v e; simp at e
  | skip _ ih =>
    intro i v e
    cases i with
    | zero => simp at e
    | succ i => simpa using ih i v (by simpa using e)
  | keep _ ih =>
    intro i v e
    cases i with
    | zero => simpa using e
    | succ i => simpa using ih i v (by simpa using e)
def Cx.block (X : Cx) (sc : Scope) (cl : List (Str × Addr)) (N : List Str) (s : Shared) (H : Hp) (C : Addr) (ex : List Addr) : Cx where
  prog := X.prog
  w := X.w
  K := X.K
  mg := X.mg
  base := X.base
  A := X.A
  N := N
  s₀ := s
  H₀ := H
  env := compEnvC sc cl C X.env
  outer := X.stack
  stack := X.stack
  ex := ex
  fn := fun _ => false
  calm := X.calm
  pn := []
  xe := NoX
theorem closure_ok {env : Env} : ∀ (names : List (Str × NameKind)) (cs : List (Str × Addr)), (∀ n, (n, NameKind.free) ∈ names → ∃ c, env.cells.lookup n = some c) →
    (∀ x c, cs.lookup x = some c → env.cells.lookup x = some c) →
    ∃ cl : List (Str × Addr), (forIn names cs fun (x : Str × NameKind) (r : List (Str × Addr)) => (if (x.2 == NameKind.free) = true then do let c ← cellOf env x.1; pure (ForInStep.yield ((x.1, c) :: r)) else pure (ForInStep.yield r)) : Sem (List (Str × Addr))) = pure cl ∧
      (∀ x c, cl.lookup x = some c → env.cells.lookup x = some c) ∧ (∀ n, (n, NameKind.free) ∈ names → ∃ c, cl.lookup n = some c) ∧ (∀ n c, cs.lookup n = some c → ∃ c, cl.lookup n = some c)
  | [], cs, _, hc => ⟨cs, rfl, hc, fun _ h => (nomatch h), fun n c e => ⟨c, e⟩⟩
  | (n, k) :: r, cs, h, hc => by
    by_cases hk : k = .free
    · subst hk
      obtain ⟨c, ec⟩ := h n List.mem_cons_self
      have hc' : ∀ x c', ((n, c) :: cs).lookup x = some c' → env.cells.lookup x = some c' := fun x c' e => by
        rw [List.lookup_cons] at e
        cases hx : x == n with
        | true => rw [hx] at e; cases e; rw [eq_of_beq hx]; exact ec
        | false => rw [hx] at e; exact hc x c' e
      obtain ⟨cl, e1, e2, e3, e4⟩ := closure_ok r ((n, c) :: cs) (fun m hm => h m (List.mem_cons_of_mem _ hm)) hc'
      refine ⟨cl, ?_, e2, fun m hm => ?_, fun m c' e => ?_⟩
      · rw [List.forIn_cons, ← e1]
        simp only [beq_self_eq_true, if_true, cellOf, ec]
        rfl
      · rcases List.mem_cons.mp hm with z | z
        · cases z
          exact e4 n c (by simp)
        · exact e3 m z
      · by_cases hm : m = n
        · subst hm; exact e4 m c (by simp)
        · exact e4 m c' (by rw [List.lookup_cons, beq_eq_false_iff_ne.mpr hm]; exact e)
    · have hb : (k == NameKind.free) = false := by simpa using hk
      obtain ⟨cl, e1, e2, e3, e4⟩ := closure_ok r cs (fun m hm => h m (List.mem_cons_of_mem _ hm)) hc
      refine ⟨cl, ?_, e2, fun m hm => ?_, e4⟩
      · rw [List.forIn_cons, ← e1]
        simp only [hb, Bool.false_eq_true, if_false]
        rfl
      · rcases List.mem_cons.mp hm with z | z
        · cases z; exact absurd rfl hk
        · exact e3 m z
theorem closure_of {sc : Scope} {env : Env} (h : ∀ n, (n, NameKind.free) ∈ sc.names → ∃ c, env.cells.lookup n = some c) :
    ∃ cl : List (Str × Addr), closureFor sc env = pure cl ∧ (∀ x c, cl.lookup x = some c → env.cells.lookup x = some c) ∧ (∀ n, (n, NameKind.free) ∈ sc.names → ∃ c, cl.lookup n = some c) := by
  obtain ⟨cl, e1, e2, e3, _⟩ := closure_ok (env := env) sc.names [] h (fun x c e => by simp at e)
  refine ⟨cl, ?_, e2, e3⟩
  unfold closureFor
  rw [← bind_pure (pure cl), ← e1]
theorem lookup_mem {names : List (Str × NameKind)} {x : Str} {k : NameKind} (h : names.lookup x = some k) : (x, k) ∈ names := by
  induction names with
  | nil => simp at h
  | cons p r ih =>
    obtain ⟨n, j⟩ := p
    rw [List.lookup_cons] at h
    cases hx : x == n with
    | true => rw [hx] at h; cases h; rw [eq_of_beq hx]; exact List.mem_cons_self
    | false => rw [hx] at h; exact List.mem_cons_of_mem _ (ih h)
theorem relabel_free {sc : Scope} {env : Env} {x : Str} {k : NameKind} (hk : k = .cell ∨ k = .free) (nc : ∀ y ∈ sc.names, y.2 ≠ .cell) (h : (relabel sc env).names.lookup x = some k) : (x, NameKind.free) ∈ sc.names := by
  have m := lookup_mem h
  obtain ⟨⟨n, j⟩, hm, e⟩ := List.mem_map.mp m
  have q : (if (j == NameKind.free && env.scope.kind == .function && env.kindOf n == some .cell) = true then (n, NameKind.cell) else (n, j)) = (x, k) := e
  split at q
  · rename_i c
    rw [Bool.and_eq_true, Bool.and_eq_true] at c
    have j' : j = .free := by simpa using c.1.1
    cases q
    rw [j'] at hm
    exact hm
  · cases q
    rcases hk with z | z
    · exact absurd z (nc _ hm)
    · rw [z] at hm; exact hm
theorem lookup_relabel_free {sc : Scope} {env : Env} {x : Str} : ∀ {names : List (Str × NameKind)}, names.lookup x = some .free →
    (names.map fun (n, k) => if (k == NameKind.free && env.scope.kind == .function && env.kindOf n == some .cell) then (n, NameKind.cell) else (n, k)).lookup x = some .cell ∨
    (names.map fun (n, k) => if (k == NameKind.free && env.scope.kind == .function && env.kindOf n == some .cell) then (n, NameKind.cell) else (n, k)).lookup x = some .free
  | [], h => by simp at h
  | (n, k) :: r, h => by
    have ih := @lookup_relabel_free sc env x r
    rw [List.lookup_cons] at h
    by_cases c : (k == NameKind.free && env.scope.kind == .function && env.kindOf n == some .cell) = true
    · rw [List.map_cons]
      simp only [c, if_true, List.lookup_cons]
      cases hx : x == n with
      | true => exact .inl rfl
      | false => rw [hx] at h; exact ih h
    · rw [List.map_cons]
      have c' := Bool.eq_false_iff.mpr c
      simp only [c', Bool.false_eq_true, if_false, List.lookup_cons]
      cases hx : x == n with
      | true => rw [hx] at h; cases h; exact .inr rfl
      | false => rw [hx] at h; exact ih h
theorem comp_loop {P : Program} {w : World} {A : Around} {R : Result → Shared → Prop} {s : Shared} {elt tg iter : Expr} {ifs : List Expr} {sc : Scope} {pos : Pos} {it acc : Value} {env : Env} (J : Nat → Shared → Prop)
    (turn : ∀ n s, J n s → wpAny (model P w) A (pyNext it) (fun r s1 => match r with
      | none => R (.ok .next) s1
      | some v => wpAny (model P w) A (letOwnedTupleGo tg it v) (fun _ s2 => wpAny (model P w) A (assign tg env v) (fun _ s3 =>
          wpAny (model P w) A (forIn ifs true fun c r => if r = true then do let ok ← isTrue c env (eval c env); pure (ForInStep.yield ok) else pure (ForInStep.yield r)) (fun ok s4 =>
            if ok = true then wpAny (model P w) A (eval elt env) (fun x s5 => wpAny (model P w) A (call (.builtin "list.append") [acc, x]) (fun _ s6 => ∃ m, m < n ∧ J m s6) NoX s5) NoX s4
            else ∃ m, m < n ∧ J m s4) NoX s3) NoX s2) NoX s1) NoX s) (n : Nat) (h : J n s) :
    codeAny (model P w) A (.compLoop (.ListComp elt [⟨tg, iter, ifs, 0⟩] sc pos) 0 it acc env) R s := by
  refine codeAny_loop rfl J (fun n s hJ => ?_) n h
  refine wpAny_noted ?_
  rw [compTurn_list]
  refine wpAny_bind (wpAny_standAt (wpAny_bind (noX (thn (turn n s hJ) fun r s1 h1 => ?_))))
  cases r with
  | none => exact wpAny_pure h1
  | some v =>
    refine wpAny_bind (noX (thn h1 fun _ s2 h2 => ?_))
    refine wpAny_bind (noX (thn h2 fun _ s3 h3 => ?_))
    refine wpAny_bind (noX (thn h3 fun ok s4 h4 => ?_))
    cases ok with
    | false => exact wpAny_pure ⟨rfl, h4⟩
    | true => exact wpAny_bind (wpAny_bind (noX (thn h4 fun x s5 h5 => wpAny_bind (noX (thn h5 fun _ s6 h6 => wpAny_pure (wpAny_pure ⟨rfl, h6⟩))))))
def PTs (X : Cx) (ifs : List Expr) (t : TT) : Prop :=
  ∀ (pins : List (Addr × Obj)) (s : Shared) (σ : St) (H : Hp) (Q : Bool → Hp → Prop), Inv X pins σ H s → t σ H Q →
    wpAny (model X.prog X.w) X.A (forIn ifs true fun c r => if r = true then do let ok ← isTrue c X.env (eval c X.env); pure (ForInStep.yield ok) else pure (ForInStep.yield r)) (TP X pins σ Q) X.xe s
def tYes : TT := fun _ H Q => Q true H
theorem pts_nil {X : Cx} : PTs X [] tYes := fun _ _ _ H _ I h => wpAny_tests_nil ⟨H, I, h⟩
theorem pts_one {X : Cx} {c : Expr} {t : TT} (h : PT X c t) : PTs X [c] t := fun pins s σ H Q I hq => wpAny_tests_one (h pins s σ H Q I hq)
def tComp (cap : List (Option Nat)) (wi : TI) (g : TG) (tt : TT) (te : TE) : TE := fun σ H Q => wi σ H fun J H1 => ∀ acc, H1 acc = none →
  ∃ W : Nat → Nat → Hp → Prop, (∃ m, W 0 m (upd H1 acc (.lst []))) ∧ ∀ i m H2, W i m H2 →
    (J.stop i H2 ∧ Q (.ref acc) H2) ∨ (J.go i H2 ∧ ∃ N : Hp → Prop, (∀ H', N H' → ∃ m', m' < m ∧ W (i + 1) m' H') ∧ ∀ x H3, J.yld i H2 x H3 → g x (capSt cap σ) H3 fun σ2 H4 => Ext (capSt cap σ) σ2 ∧ tt σ2 H4 fun b H5 =>
      if b = true then te σ2 H5 fun y H6 => ∃ zs, H6 acc = some (.lst zs) ∧ zs.length < sizeLine ∧ N (upd H6 acc (.lst (zs ++ [y])))
      else N H5)
theorem HOk.but {P : Program} {w : World} {H : Hp} {h h' : Heap} {C : Addr} (x : HOk P w H h) (n : H C = none) (sb : Heap.SameBut C h h') : HOk P w H h' := fun a o e =>
  (x a o e).stay (fun b u hb q => (sb.2 b (fun z => by
    subst z
    rcases hb with z | z
    · subst z; rw [n] at e; cases e
    · rw [n] at z; cases z)).trans q) (fun _ q => q) fun _ _ q => q
theorem Un.but {fs ex : List Addr} {H H' : Hp} {h h1 h2 : Heap} {C : Addr} (u : Un fs ex H H' h h1) (lt : h.objs.size ≤ C) (sb : Heap.SameBut C h1 h2) : Un fs ex H H' h h2 := by
  have ne : ∀ b o, h.get? b = some o → b ≠ C := fun b o e => Nat.ne_of_lt (Nat.lt_of_lt_of_le (Heap.lt_size e) lt)
  refine ⟨fun b o e n hb hx => (sb.2 b (ne b o e)).trans (u.keep b o e n hb hx), fun b o e n hb hx => ?_, u.free, fun b o e hx => ?_, u.tups, u.frzs, u.tbls⟩
  · obtain ⟨sl, q⟩ := u.slot b o e n hb hx
    exact ⟨sl, (sb.2 b (ne b o e)).trans q⟩
  · obtain ⟨o', q⟩ := u.there b o e hx
    exact ⟨o', (sb.2 b (ne b o e)).trans q⟩
section
variable {X : Cx}
theorem block_ok {pins : List (Addr × Obj)} {σ : St} {H : Hp} {s : Shared} {sc : Scope} {cl : List (Str × Addr)} {N : List Str} {C : Addr} {fp : List Addr} (I : Inv X pins σ H s) (hk : sc.kind = .function) (nc : ∀ y ∈ sc.names, y.2 ≠ .cell)
    (hC : s.heap.objs.size ≤ C) (hf : ∀ b ∈ fp, FpOk X pins H b) (hfo : ∀ b ∈ fp, ∃ o, s.heap.get? b = some o) (c1 : ∀ x c, cl.lookup x = some c → X.env.cells.lookup x = some c) (c2 : ∀ n, (n, NameKind.free) ∈ sc.names → ∃ c, cl.lookup n = some c) :
    (X.block sc cl N s H C fp).Ok where
  mod := I.ok.mod
  kind := hk
  glob := I.ok.glob
  blt := I.ok.blt
  above := hC
  inj := fun x y c e e' => I.ok.inj x y c (c1 x c e) (c1 y c e')
  has := fun x h => c2 x (h.elim (relabel_free (.inl rfl) nc) (relabel_free (.inr rfl) nc))
  cab := fun x c e => (nomatch e)
  hd := I.ok.hd
  frames := I.ok.frames
  stk := .inl rfl
  exf := fun b hb => ⟨fun z => by
    obtain ⟨o, e⟩ := hfo b hb
    have lt := Heap.lt_size e
    rw [z] at lt
    exact absurd (Nat.lt_of_lt_of_le lt hC) (Nat.lt_irrefl _), fun x c e => (hf b hb).2.2.2.2.1 x c (c1 x c e)⟩
  bs := I.bs
  bsz := Nat.le_trans I.ok.bsz I.sz
  noex := fun b o e hb => by
    rcases (hf b hb).2.2.2.1 with z | z
    · exact I.ok.noex b o e z
    · exact absurd (Nat.lt_of_lt_of_le (Heap.lt_size (I.ok.bs b o e).1) z) (Nat.lt_irrefl _)
  exfs := fun b hb hs => by
    rcases List.mem_cons.mp (I.stkSub b hs) with z | z
    · exact (hf b hb).2.1 z
    · exact (hf b hb).2.2.1 z
  funs := I.stack
  frf := I.stkFree
theorem pe_comp {elt tg iter : Expr} {ifs : List Expr} {sc : Scope} {pos : Pos} {wi : TI} {g : TG} {tt : TT} {te : TE} (N : List Str) (cap : List (Option Nat)) (hc : X.calm = true) (hi : PI X tg iter wi)
    (hg : ∀ cl s H C ex, PG (X.block sc cl N s H C ex) tg g) (ht : ∀ cl s H C ex, PTs (X.block sc cl N s H C ex) ifs tt) (he : ∀ cl s H C ex, PE (X.block sc cl N s H C ex) elt te)
    (hk : sc.kind = .function) (nc : ∀ y ∈ sc.names, y.2 ≠ .cell) (hnames : ∀ y ∈ sc.names, y.2 = .local → sc.names.lookup y.1 = some .local)
    (hfree : ∀ n, (n, NameKind.free) ∈ sc.names → X.env.kindOf n = some .cell)
    (hcap : ∀ (i j : Nat), cap[i]? = some (some j) → ∃ x, N[i]? = some x ∧ X.N[j]? = some x ∧ sc.names.lookup x = some .free) (hlen : cap.length = N.length)
    (hs : ∀ x, foldedSetIterable iter X.env x = pure x := by intro _; rfl) : PE X (.ListComp elt [⟨tg, iter, ifs, 0⟩] sc pos) (tComp cap wi g tt te) := by
  intro pins s σ H Q I h
  obtain ⟨cl, hclos, c1, c2⟩ := closure_of (sc := sc) (env := X.env) fun n hn => I.ok.has n (.inl (hfree n hn))
  rw [eval_ListComp]
  refine wpAny_comprehension_free (use := none) rfl hs hclos hk hnames ?_
  refine thn (hi pins s σ H _ I h) fun v s1 h1 => thn h1 fun itv s2 h2 => ?_
  obtain ⟨it, fp, tn, J, H2, e, I2, T, st2, f2, q2⟩ := h2
  subst e
  have hfr : H2 s2.heap.objs.size = none := I2.fresh
  obtain ⟨W, ⟨m0, w0⟩, turn⟩ := q2 s2.heap.objs.size hfr
  have I3 := I2.lnew (ys := []) (its := []) (t' := s2.toks) .nil (Nat.zero_le _)
  have hacc : H2 s2.heap.objs.size = none := hfr
  refine wpAny_newObj_type (wpAny_newFunctionEnv nc (by intro y hy; simp at hy) (fun h4 hns hsb => ?_) hk)
  generalize hs3 : ({ s2 with heap := s2.heap.push { cls := .type "list", data := .seq ([] : List Value).toArray } } : Shared) = s3 at hns hsb I3 ⊢
  have hheap : s3.heap = s2.heap.push { cls := .type "list", data := .seq ([] : List Value).toArray } := by rw [← hs3]
  generalize hH3 : upd H2 s2.heap.objs.size (.lst []) = H3 at I3 w0
  have up2 : ∀ b o, s2.heap.get? b = some o → s3.heap.get? b = some o := fun b o q => by rw [hheap]; exact Heap.get?_push_of_some _ q
  have neA : ∀ b ∈ fp, b ≠ s2.heap.objs.size := fun b hb => by
    obtain ⟨o, q, _⟩ := T.obj _ _ st2 b hb
    exact Nat.ne_of_lt (Heap.lt_size q)
  have f3 : ∀ b ∈ fp, FpOk X pins H3 b := fun b hb => ⟨by rw [← hH3, upd_ne (neA b hb)]; exact (f2 b hb).1, (f2 b hb).2⟩
  have o3 : ∀ b ∈ fp, ∃ o, s3.heap.get? b = some o := fun b hb => by
    obtain ⟨o, q, _⟩ := T.obj _ _ st2 b hb
    exact ⟨o, up2 b o q⟩
  have ok' := block_ok (N := N) (C := s3.heap.objs.size) I3 hk nc (Nat.le_refl _) f3 o3 c1 c2
  generalize hC : s3.heap.objs.size = C at hns hsb ok' ⊢
  have ltC : ∀ b o, s3.heap.get? b = some o → b ≠ C := fun b o q => by rw [← hC]; exact Nat.ne_of_lt (Heap.lt_size q)
  have up4 : ∀ b o, s3.heap.get? b = some o → h4.get? b = some o := fun b o q => hsb.extBut b o (ltC b o q) (Heap.get?_push_of_some _ q)
  have st4 : tn 0 h4 := T.keep _ _ _ st2 fun b hb o q => up4 b o (up2 b o q)
  have I4 : Inv (X.block sc cl N s3 H3 C fp) [] (capSt cap σ) H3 { s3 with heap := h4, toks := s3.toks + ([] : List (Str × Value)).length } := by
    refine ⟨ok', rfl, I3.bare, Un.kept up4, ⟨_, hns, fun i x v e1 e2 e3 => ?_⟩, fun x c q => ?_, ?_, fun x c q => I3.freeC x c (c1 x c q), fun p hp => (nomatch hp), I3.hok.kept up4, ?_⟩
    · have ee : ∃ j, cap[i]? = some (some j) ∧ σ[j]? = some (some v) := by
        unfold capSt at e2
        rw [List.getElem?_map] at e2
        cases q : cap[i]? with
        | none => rw [q] at e2; cases e2
        | some o =>
          rw [q] at e2
          cases o with
          | none => cases e2
          | some j =>
            refine ⟨j, rfl, ?_⟩
            have e2' : some ((σ[j]?).join) = some (some v) := e2
            cases z : σ[j]? with
            | none => rw [z] at e2'; cases e2'
            | some o' =>
              rw [z] at e2'
              have e2'' : o' = some v := Option.some.inj e2'
              rw [e2'']
      obtain ⟨j, ej, es⟩ := ee
      obtain ⟨x', n1, n2, n3⟩ := hcap i j ej
      have e1' : N[i]? = some x := e1
      rw [n1] at e1'
      cases e1'
      have hfr' : (x, NameKind.free) ∈ sc.names := lookup_mem n3
      have kc := hfree x hfr'
      obtain ⟨m, _, hl⟩ := I3.loc
      obtain ⟨u, r, l⟩ := hl j x v n2 es (.inr (.inl kc))
      refine ⟨u, r, ?_⟩
      rcases l with ⟨l, _⟩ | ⟨_, c, ec, z⟩
      · rw [kc] at l; cases l
      · obtain ⟨c', ec'⟩ := c2 x hfr'
        have := c1 x c' ec'
        rw [ec] at this
        cases this
        obtain ⟨oc, q1, q2⟩ := z
        exact .inr ⟨lookup_relabel_free (sc := sc) n3, c, ec', oc, up4 _ _ q1, q2⟩
    · obtain ⟨v, oc, q1, q2⟩ := I3.cell x c (c1 x c q)
      exact ⟨v, oc, up4 _ _ q1, q2⟩
    · exact I3.hok.fresh (by rw [hC]; exact Nat.le_refl _)
    · show (capSt cap σ).length = N.length
      unfold capSt
      rw [List.length_map, hlen]
  have loop : codeAny (model X.prog X.w) X.A (.compLoop (.ListComp elt [⟨tg, iter, ifs, 0⟩] sc pos) 0 (.ref it) (.ref s2.heap.objs.size) (compEnvC sc cl C X.env)) (compPost (model X.prog X.w) X.A X.xe none (EP X pins σ Q) (.ref s2.heap.objs.size) C)
      { s3 with heap := h4, toks := s3.toks + ([] : List (Str × Value)).length } := by
    have stat : ∀ {H' : Hp}, (∀ b ∈ fp, H' b = none) → ∀ b ∈ fp, FpOk (X.block sc cl N s3 H3 C fp) [] H' b := fun hn b hb =>
      ⟨hn b hb, (ok'.exf b hb).1, ok'.exfs b hb, .inl hb, (ok'.exf b hb).2, fun p hp => (nomatch hp)⟩
    refine comp_loop (fun n s' => ∃ i H', Inv (X.block sc cl N s3 H3 C fp) [] (capSt cap σ) H' s' ∧ tn i s'.heap ∧ (∀ b ∈ fp, H' b = none) ∧ W i n H') ?_ m0 ⟨0, H3, I4, st4, fun b hb => (f3 b hb).1, w0⟩
    rintro n s5 ⟨i, H5, I5, st5, fr5, w5⟩
    rcases turn i n H5 w5 with ⟨stop, qn⟩ | ⟨go, N', hN', step⟩
    · refine thn (T.done (X.block sc cl N s3 H3 C fp) rfl rfl rfl hc i [] s5 _ H5 NoX I5 (stat fr5) st5 stop) fun r s6 ⟨hr, I6⟩ => ?_
      subst hr
      obtain ⟨m, hm, _⟩ := I6.loc
      refine ⟨m, hm, fun h' sb => ⟨.ref s2.heap.objs.size, H5, ?_, rfl, qn⟩⟩
      refine I3.call' (s' := { s6 with heap := h' }) (ch := fp) I6.os (I6.base.but (by rw [← hC]; exact Nat.le_refl _) sb) (I6.hok.but I6.free sb) I6.bare fun b hb => ?_
      obtain ⟨g0, g1, g2, g3, g4, g5⟩ := f3 b hb
      exact ⟨g3, g1, g4, g5⟩
    · refine thn (T.item (X.block sc cl N s3 H3 C fp) rfl rfl rfl hc i [] s5 _ H5 NoX I5 (stat fr5) st5 go) fun r s6 ⟨u, hr, h6⟩ => ?_
      subst hr
      refine thn h6 fun _ s7 ⟨x, H7, I7, r7, y7, st7, fr7⟩ => ?_
      have I7' := I7.pinned (stat fr7) (T.obj _ _ st7)
      have again : ∀ {σ8 : St} {H8 : Hp} {s8 : Shared}, Inv (X.block sc cl N s3 H3 C fp) ([] ++ pinsAt fp s7.heap) σ8 H8 s8 → Ext (capSt cap σ) σ8 → N' H8 →
          ∃ m, m < n ∧ ∃ i H', Inv (X.block sc cl N s3 H3 C fp) [] (capSt cap σ) H' s8 ∧ tn i s8.heap ∧ (∀ b ∈ fp, H' b = none) ∧ W i m H' := fun {σ8 H8 s8} I8 ex n8 => by
        obtain ⟨m', hm, w8⟩ := hN' H8 n8
        have I8' := I8.unpinned.weak ex.len ex.get
        refine ⟨m', hm, i + 1, H8, I8', T.keep _ _ _ st7 fun b hb o q => (I8.pin (b, o) (List.mem_append_right _ (List.mem_append_right _ (mem_pinsAt hb q)))).1, fun b hb => ?_, w8⟩
        obtain ⟨o, q, d⟩ := T.obj _ _ st7 b hb
        exact (I8.pin (b, o) (List.mem_append_right _ (List.mem_append_right _ (mem_pinsAt hb q)))).2.1
      refine thn (hg cl s3 H3 C fp _ s7 _ H7 x u _ I7' r7 (step x H7 y7)) fun _ s8 ⟨σ8, H8, I8, ex8, q8⟩ => ?_
      refine thn (ht cl s3 H3 C fp _ s8 σ8 H8 _ I8 q8) fun b s9 ⟨H9, I9, q9⟩ => ?_
      cases b with
      | false => exact again I9 ex8 q9
      | true =>
        rw [if_pos rfl] at q9 ⊢
        refine thn (he cl s3 H3 C fp _ s9 σ8 H9 _ I9 q9) fun yv s10 ⟨y, H10, I10, r10, zs, e10, l10, q10⟩ => ?_
        refine thn (mt_append (X := X.block sc cl N s3 H3 C fp) _ s10 σ8 H10 (.ref s2.heap.objs.size) [y] (.ref s2.heap.objs.size) [yv] (fun _ H' => N' H') I10 rfl (.cons r10 .nil) ⟨_, zs, y, rfl, rfl, e10, l10, q10⟩) fun _ s11 ⟨_, H11, I11, _, q11⟩ => ?_
        exact again I11 ex8 q11
  exact codeAny_compStart_list loop (T.self X.A 0 _ _ _ st4 loop)
end
theorem comp_range {lo : Int} {n : Nat} {acc : Addr} {g : TG} {tt : TT} {te : TE} {σ : St} {H : Hp} {Q : VK} (Pv : Nat → Hp → Prop) (h0 : Pv 0 (upd H acc (.lst [])))
    (hs : ∀ i H, i < n → Pv i H → g (.int (lo + i)) σ H fun σ2 H4 => Ext σ σ2 ∧ tt σ2 H4 fun b H5 =>
      if b = true then te σ2 H5 fun y H6 => ∃ zs, H6 acc = some (.lst zs) ∧ zs.length < sizeLine ∧ Pv (i + 1) (upd H6 acc (.lst (zs ++ [y]))) else Pv (i + 1) H5) (hd : ∀ H, Pv n H → Q (.ref acc) H) :
    ∃ W : Nat → Nat → Hp → Prop, (∃ m, W 0 m (upd H acc (.lst []))) ∧ ∀ i m H2, W i m H2 →
      ((Itr lo n).stop i H2 ∧ Q (.ref acc) H2) ∨ ((Itr lo n).go i H2 ∧ ∃ N : Hp → Prop, (∀ H', N H' → ∃ m', m' < m ∧ W (i + 1) m' H') ∧ ∀ x H3, (Itr lo n).yld i H2 x H3 → g x σ H3 fun σ2 H4 => Ext σ σ2 ∧ tt σ2 H4 fun b H5 =>
        if b = true then te σ2 H5 fun y H6 => ∃ zs, H6 acc = some (.lst zs) ∧ zs.length < sizeLine ∧ N (upd H6 acc (.lst (zs ++ [y])))
        else N H5) := by
  refine ⟨fun i m H => m = n - i ∧ i ≤ n ∧ Pv i H, ⟨n, by simp, Nat.zero_le _, h0⟩, ?_⟩
  rintro i m H2 ⟨rfl, hi, p⟩
  by_cases hlt : i < n
  · refine .inr ⟨hlt, Pv (i + 1), fun H' p' => ⟨n - (i + 1), by omega, rfl, hlt, p'⟩, fun x H' y => ?_⟩
    obtain ⟨e, y⟩ := y
    subst e y
    exact hs i _ hlt p
  · have e : i = n := by omega
    subst e
    exact .inl ⟨Nat.le_refl _, hd H2 p⟩
def compCk (sc : Scope) (env : Env) (XN N : List Str) (cap : List (Option Nat)) : Bool :=
  (sc.kind == .function) && (sc.names.all fun y => y.2 != .cell) && (sc.names.all fun y => y.2 != .local || sc.names.lookup y.1 == some .local) &&
  (sc.names.all fun y => y.2 != .free || env.kindOf y.1 == some .cell) &&
  ((List.range cap.length).all fun i => match cap[i]? with
    | some (some j) => (match N[i]? with | some x => XN[j]? == some x && sc.names.lookup x == some .free | none => false)
    | _ => true) && (cap.length == N.length)
theorem pe_compB {X : Cx} {elt tg iter : Expr} {ifs : List Expr} {sc : Scope} {pos : Pos} {wi : TI} {g : TG} {tt : TT} {te : TE} (N : List Str) (cap : List (Option Nat)) (hc : X.calm = true) (hi : PI X tg iter wi)
    (hg : ∀ cl s H C ex, PG (X.block sc cl N s H C ex) tg g) (ht : ∀ cl s H C ex, PTs (X.block sc cl N s H C ex) ifs tt) (he : ∀ cl s H C ex, PE (X.block sc cl N s H C ex) elt te)
    (ck : compCk sc X.env X.N N cap = true) (hs : ∀ x, foldedSetIterable iter X.env x = pure x := by intro _; rfl) : PE X (.ListComp elt [⟨tg, iter, ifs, 0⟩] sc pos) (tComp cap wi g tt te) := by
  unfold compCk at ck
  simp only [Bool.and_eq_true] at ck
  obtain ⟨⟨⟨⟨⟨k1, k2⟩, k3⟩, k4⟩, k5⟩, k6⟩ := ck
  refine pe_comp N cap hc hi hg ht he (by simpa using k1) (fun y hy => ?_) (fun y hy z => ?_) (fun n hn => ?_) (fun i j e => ?_) (by simpa using k6) hs
  · have := List.all_eq_true.mp k2 y hy
    simpa using this
  · have := List.all_eq_true.mp k3 y hy
    rw [z] at this
    simpa using this
  · have := List.all_eq_true.mp k4 _ hn
    simpa using this
  · have hi : i < cap.length := (List.getElem?_eq_some_iff.mp e).1
    have := List.all_eq_true.mp k5 i (List.mem_range.mpr hi)
    rw [e] at this
    dsimp only at this
    cases q : N[i]? with
    | none => rw [q] at this; cases this
    | some x =>
      rw [q] at this
      dsimp only at this
      rw [Bool.and_eq_true] at this
      exact ⟨x, rfl, by simpa using this.1, by simpa using this.2⟩
end L2
set_option Elab.async false
set_option linter.all false
set_option maxRecDepth 100000
set_option maxHeartbeats 4000000
namespace L2
open PySem PySem.Spec PyProof.Rows
section
variable {prog : Program} {w : World} {A : Around} {E : Value → Shared → Prop} {s : Shared}
theorem next_tup_item {it t : Addr} {i : Nat} {items : Array Value} {x : Value} {Q : Value → Shared → Prop} (hit : s.heap.IsTupleIter it t i) (ht : s.heap.IsTuple t items) (hx : items[i]? = some x)
    (hQ : ∀ h', h'.IsTupleIter it t (i + 1) → Heap.SameBut it s.heap h' → Q x { s with heap := h' }) : wpAny (model prog w) A (Builtin.SmallTypes.nextOf (.ref it)) Q E s := by
  obtain ⟨o, ho, hc, hd⟩ := id hit; obtain ⟨ol, hol, _, nl, hdl⟩ := ht; unfold Builtin.SmallTypes.nextOf
  refine wpAny_bind (wpAny_callSpecial?_slot (name := Str.ofString "__next__") hit.typeIs F.slot_tuple_iterator_next (wpAny_call_entry F.slot_tuple_iterator_next hit.typeIs F.entry_tuple_iterator_next ?_ (F.args_tuple_iterator_next_1 _)))
  show wpAny _ _ (field (.ref it) 0 >>= _) _ _ s; refine wpAny_bind (wpAny_field ho hd (x := .ref t) rfl ?_)
  show wpAny _ _ (if (Value.ref t == Value.none) = true then _ else _) _ _ s; rw [if_neg (show ¬ ((Value.ref t == Value.none) = true) from Bool.false_ne_true)]
  show wpAny _ _ (field (.ref it) 1 >>= _) _ _ s; refine wpAny_bind (wpAny_field ho hd (x := .int i 0) rfl ?_)
  show wpAny _ _ (seqItems? (.ref t) >>= _) _ _ s; refine wpAny_bind (wpAny_seqItems hol hdl ?_); simp only [Int.toNat_natCast, hx]
  refine wpAny_bind (wpAny_setField ho hd (by simp) (wpAny_pure ⟨x, rfl, wpAny_pure (hQ _ ?_ (Heap.SameBut.update ..))⟩))
  exact ⟨_, Heap.get?_update_self _ ho (Obj.isFreed_of_fields (Obj.data_mapFields hd _)), (Obj.cls_mapFields ..).trans hc, by rw [Obj.data_mapFields hd]; simp [rawInt]⟩
theorem next_tup_end {it t : Addr} {i : Nat} {items : Array Value} {Q : Value → Shared → Prop} (hh : A.handled = none) (hit : s.heap.IsTupleIter it t i) (ht : s.heap.IsTuple t items) (hx : items[i]? = none)
    (hE : ∀ h' e, Heap.ExtBut it s.heap h' → (∃ o, h'.get? e = some o ∧ o.cls = .type "StopIteration") → E (.ref e) { s with heap := h' }) : wpAny (model prog w) A (Builtin.SmallTypes.nextOf (.ref it)) Q E s := by
  obtain ⟨o, ho, hc, hd⟩ := id hit; obtain ⟨ol, hol, _, nl, hdl⟩ := ht; unfold Builtin.SmallTypes.nextOf
  refine wpAny_bind (wpAny_callSpecial?_slot (name := Str.ofString "__next__") hit.typeIs F.slot_tuple_iterator_next (wpAny_call_entry F.slot_tuple_iterator_next hit.typeIs F.entry_tuple_iterator_next ?_ (F.args_tuple_iterator_next_1 _)))
  show wpAny _ _ (field (.ref it) 0 >>= _) _ _ s; refine wpAny_bind (wpAny_field ho hd (x := .ref t) rfl ?_)
  show wpAny _ _ (if (Value.ref t == Value.none) = true then _ else _) _ _ s; rw [if_neg (show ¬ ((Value.ref t == Value.none) = true) from Bool.false_ne_true)]
  show wpAny _ _ (field (.ref it) 1 >>= _) _ _ s; refine wpAny_bind (wpAny_field ho hd (x := .int i 0) rfl ?_)
  show wpAny _ _ (seqItems? (.ref t) >>= _) _ _ s; refine wpAny_bind (wpAny_seqItems hol hdl ?_); simp only [Int.toNat_natCast, hx]
  refine wpAny_bind (wpAny_rule (wpAny_bind (wpAny_setField ho hd (by simp) ?_))); show wpAny _ _ (newExc (.type "StopIteration") [] >>= _) _ _ _
  refine wpAny_bind ?_; simp only [newExc, newTuple]; refine wpAny_bind (wpAny_newObj_type ?_ (by size_fits))
  refine wpAny_bind (m := firstArgMember _ _) (wpAny_of_eq (a := Value.none) (by first | rfl | (simp only [firstArgMember]; rfl)) ?_); refine wpAny_newObj_type ?_ (by size_fits)
  simp only [raiseNew]; refine wpAny_bind (wpAny_handled ?_); first | rw [show A.in1.handled = none from hh] | rw [hh]
  refine wpAny_bind (wpAny_pure (wpAny_throw ?_)); exact hE _ _ (((Heap.SameBut.update ..).extBut.push _).push _) ⟨_, Heap.get?_push_size _ rfl, rfl⟩
end
section
variable {X : Cx} {pins : List (Addr × Obj)} {σ : St} {H : Hp} {s : Shared} {h' : Heap}
theorem Inv.turnedN {t' : Nat} {ch : List Addr} (I : Inv X pins σ H s) (k : ∀ b o, b ∉ ch → s.heap.get? b = some o → h'.get? b = some o) (hf : ∀ b ∈ ch, FpOk X pins H b) : Inv X pins σ H { s with heap := h', toks := t' } := by
  refine I.step (g' := s.gens) (d' := s.drawn) (ch := ch) (fun b hb => ?_) (fun b o _ _ hc e _ => k b o hc e) (fun b o _ _ hc e _ => ⟨o.slots, k b o hc e⟩) (fun _ _ _ _ n => n)
    (fun b o hc e => ⟨o, k b o hc e⟩) (fun _ _ e => e) (fun _ _ _ e => e) (fun b ps e => ⟨#[], by rw [e]; simp⟩) (fun m hm => ?_) (fun b u e => ?_) I.bare
  · obtain ⟨f0, f1, f2, f3, f4, f5⟩ := hf b hb
    exact ⟨f3, f1, f4, f5⟩
  · obtain ⟨o, es, ep, ho, r⟩ := hm
    exact ⟨o, es, ep, k _ o (fun z => (hf _ z).2.1 rfl) ho, r⟩
  · refine (I.hok b u e).stay (fun c v hc q => k c v (fun z => ?_) q) (fun _ q => q) fun _ _ q => q
    have n := (hf c z).1
    rcases hc with y | y
    · rw [y, e] at n; cases n
    · rw [y] at n; cases n
theorem Inv.turnedL {t' : Nat} {ch : List Addr} {a : Addr} {o : HO} (I : Inv X pins σ H s) (k : ∀ b o, b ∉ ch → s.heap.get? b = some o → h'.get? b = some o) (hf : ∀ b ∈ ch, FpOk X pins H b) (hp : s.heap.objs.size ≤ a)
    (new : ObjOk X.prog X.w (upd H a o) h' a o) : Inv X pins σ (upd H a o) { s with heap := h', toks := t' } := by
  have hn : H a = none := I.hok.fresh hp
  have ne : ∀ b u, s.heap.get? b = some u → b ≠ a := fun b u e => Nat.ne_of_lt (Nat.lt_of_lt_of_le (Heap.lt_size e) hp)
  refine I.step (g' := s.gens) (d' := s.drawn) (ch := ch) (fun b hb => ?_) (fun b o _ _ hc e _ => k b o hc e) (fun b o _ _ hc e _ => ⟨o.slots, k b o hc e⟩) (fun b u _ e n => by rw [upd_ne (ne b u e)]; exact n)
    (fun b o hc e => ⟨o, k b o hc e⟩) (fun b xs q => by rw [upd_ne (ne_of_none q hn)]; exact q) (fun b u xs q => by rw [upd_ne (ne_of_none q hn)]; exact q) (fun b ps q => ⟨#[], by rw [upd_ne (ne_of_none q hn), q]; simp⟩) (fun m hm => ?_) (fun b u e => ?_) I.bare
  · obtain ⟨f0, f1, f2, f3, f4, f5⟩ := hf b hb
    exact ⟨f3, f1, f4, f5⟩
  · obtain ⟨o, es, ep, ho, r⟩ := hm
    exact ⟨o, es, ep, k _ o (fun z => (hf _ z).2.1 rfl) ho, r⟩
  · by_cases hb : b = a
    · subst hb
      rw [upd_same] at e
      cases e
      exact new
    · rw [upd_ne hb] at e
      refine (I.hok b u e).stay (fun c v hc q => k c v (fun z => ?_) q) (fun c q => by rw [upd_ne (ne_of_none q hn)]; exact q) fun c xs q => by rw [upd_ne (ne_of_none q hn)]; exact q
      have n := (hf c z).1
      rcases hc with y | y
      · rw [y, e] at n; cases n
      · rw [y] at n; cases n
end
def Ite (K : PySem.W.Frag) (a : Addr) : It :=
  ⟨fun i H => ∃ xs x, SqT K H a xs ∧ xs[i]? = some x, fun i H x H' => ∃ T y, H T = none ∧ x = .ref T ∧ H' = upd H T (.tup [.int i, y]) ∧ ∀ xs, SqT K H a xs → xs[i]? = some y, fun i H => ∃ xs, SqT K H a xs ∧ xs.length ≤ i⟩
def iEnum (K : PySem.W.Frag) (ta : TA) : TI := fun σ H R => ta σ H fun vs H1 => ∃ a, vs = [.ref a] ∧ (∃ xs, SqT K H1 a xs) ∧ R (Ite K a) H1
end L2
set_option Elab.async false
set_option linter.all false
set_option maxRecDepth 100000
set_option maxHeartbeats 4000000
namespace L2
open PySem PySem.Spec PyProof.Rows
section
variable {X : Cx}
def rCatU (K : PySem.W.Frag) : R2 := fun x y H Q => ∃ a b xs ys, x = .ref a ∧ y = .ref b ∧ SqT K H a xs ∧ SqT K H b ys ∧ xs.length + ys.length ≤ sizeLine ∧
  ∀ p H', Same H H' → SqT K H' p (xs ++ ys) → Q (.ref p) H'
theorem same_upd {H : Hp} {p : Addr} {o : HO} (h : H p = none) : Same H (upd H p o) := fun b u q => by rw [upd_ne (ne_of_none q h)]; exact q
def rIsi (K : PySem.W.Frag) : List V → Hp → VK → Prop := fun xs H Q => ∃ x T t b, xs = [x, .ty T] ∧ TyOf K H x t ∧ PySem.W.kitOne K t (.type T) = some b ∧ Q (.bl b) H
theorem call_isi : CallR X (.builtin "isinstance") (rIsi X.K) := by
  intro pins s σ H xs us Q I r h
  obtain ⟨x, T, t, b, rfl, ty, e, q⟩ := h
  obtain ⟨u, w', rfl, ru, rw'⟩ := vals2 r
  cases rw'
  exact isinst_ok I ru ty e fun tk => ⟨.bl b, H, I.tok tk, rfl, q⟩
def rSlS : V → Option Int → Option Int → Hp → VK → Prop := fun x lo hi H Q => ∃ z, x = .str z ∧ z.length ≤ sizeLine ∧ ((Txt.slice z lo hi).length ≤ z.length → Q (.str (Txt.slice z lo hi)) H)
def rEqS (neg : Bool) : R2 := fun x y H Q => ∃ (p r : Addr) (xs ys : List Str), x = .ref p ∧ y = .ref r ∧ H p = some (.lst (xs.map V.str)) ∧ H r = some (.lst (ys.map V.str)) ∧ Q (.bl (if neg then !decide (xs = ys) else decide (xs = ys))) H
def rSortD : List V → Hp → VK → Prop := fun xs H Q => ∃ (d : Addr) (kvs : List (Key × V)) (ks : List Str), xs = [.ref d] ∧ H d = some (.dK kvs) ∧ kvs.map (·.1) = ks.map Sum.inr ∧ ks.length < 64 ∧
  ∀ (l : Addr) (ss : List Str), H l = none → ss.Perm ks → ss.Pairwise (fun a b => ltCps b.cps.toList a.cps.toList = false) → Q (.ref l) (upd H l (.lst (ss.map V.str)))
theorem strs_of {P : Program} {w : World} : ∀ {vs : List (Key × Value)} {ks : List Str} {us : List Value}, vs.map (·.1) = ks.map Sum.inr → us.length = vs.length →
    (∀ (j : Nat) (v : Value), us[j]? = some v → ∃ k x, vs[j]? = some (k, x) ∧ (mixKind P w).is k v = true) → StrsAre us ks
  | [], [], [], _, _, _ => .nil
  | (k, x) :: vs, y :: ks, u :: us, e, hl, h => by
    have e1 : k = Sum.inr y := (List.cons.inj e).1
    have e2 : vs.map (·.1) = ks.map Sum.inr := (List.cons.inj e).2
    obtain ⟨k', x', q, m⟩ := h 0 u rfl
    have q' : (k, x) = (k', x') := Option.some.inj q
    cases q'
    subst e1
    rcases keyIs_shape (show keyIs (Sum.inr y) u = true from m) with ⟨i, t, z, _⟩ | ⟨z, t, z1, z2⟩
    · cases z
    · cases z1
      subst z2
      exact .cons _ t (strs_of e2 (by simpa using hl) fun j v hv => h (j + 1) v (by simpa using hv))
  | [], _ :: _, _, e, _, _ => nomatch e
  | _ :: _, [], _, e, _, _ => nomatch e
  | [], [], _ :: _, _, e, _ => nomatch e
  | _ :: _, _ :: _, [], _, e, _ => nomatch e
theorem vals_strs : ∀ {us : List Value} {ks : List Str}, StrsAre us ks → Vals (ks.map V.str) us
  | _, _, .nil => .nil
  | _, _, .cons y t r => .cons ⟨t, rfl⟩ (vals_strs r)
theorem cps_trans {a b c : Str} (h1 : ltCps b.cps.toList a.cps.toList = false) (h2 : ltCps c.cps.toList b.cps.toList = false) : ltCps c.cps.toList a.cps.toList = false := by
  rw [ltCps_eq, decide_eq_false_iff_not] at *
  exact List.le_trans (l₁ := a.cps.toList) (l₂ := b.cps.toList) (l₃ := c.cps.toList) h1 h2
theorem rising_all : ∀ (p : Str) (l : List Str), risingS p l = true → (p :: l).Pairwise (fun a b => ltCps b.cps.toList a.cps.toList = false)
  | p, [], _ => by simp
  | p, x :: r, h => by
    have h' : (!ltCps x.cps.toList p.cps.toList && risingS x r) = true := h
    rw [Bool.and_eq_true] at h'
    have h1 : ltCps x.cps.toList p.cps.toList = false := by simpa using h'.1
    have ih := rising_all x r h'.2
    refine List.pairwise_cons.mpr ⟨fun y hy => ?_, ih⟩
    rcases List.mem_cons.mp hy with z | z
    · subst z; exact h1
    · exact cps_trans h1 ((List.pairwise_cons.mp ih).1 y z)
theorem pairwise_sorted : ∀ {l : List Str}, sortedS l = true → l.Pairwise (fun a b => ltCps b.cps.toList a.cps.toList = false)
  | [], _ => .nil
  | x :: r, h => rising_all x r h
theorem kv_keys {kvs : List (Key × V)} {vs : List (Key × Value)} (h : KV kvs vs) : kvs.map (·.1) = vs.map (·.1) := by
  unfold KV at h
  induction h with
  | nil => rfl
  | cons r _ ih => simp [r.1, ih]
theorem call_sortedD (hc : X.calm = true) : CallR X (.builtin "sorted") rSortD := by
  intro pins s σ H xs us Q I r h
  obtain ⟨d, kvs, ks, rfl, hd, hk, h64, q⟩ := h
  obtain ⟨u, rfl, ru⟩ := vals1 r
  cases ru
  obtain ⟨hz, hsm, vs, kv, hdo⟩ := (show ObjOk X.prog X.w H s.heap d (.dK kvs) from I.hok d _ hd)
  obtain ⟨ep, hat⟩ := hdo.dictAt
  have hks : vs.map (·.1) = ks.map Sum.inr := by rw [← kv_keys kv]; exact hk
  have hn : vs.length = ks.length := by have := congrArg List.length hks; simpa using this
  have line : vs.length ≤ sizeLine := Nat.le_of_lt (small1000 (by omega))
  refine Calls.call_function_entry kind_sorted plain_sorted entry_sorted (args_sorted1 _) ?_
  unfold Builtin.«sorted»
  refine wpAny_bind (m := checkCount "sorted" 1 1 _) (wpAny_pure ?_)
  refine wpAny_bind (PySem.W.kdu_collect (A := X.A.in1) (PySem.W.kdl_dict (knd := mixKind X.prog X.w) (kvs := vs) (ep := ep) hsm) (I.ok.hd hc) hat line fun h1 tk acc hk1 hacc => ?_)
  have la : acc.toList.length = vs.length := by rw [Array.length_toList]; exact hacc.1
  have hS : StrsAre acc.toList ks := strs_of (P := X.prog) (w := X.w) hks la fun j v hv => hacc.2 j v (by rw [← Array.getElem?_toList]; exact hv)
  have I1 : Inv X pins σ H { s with heap := h1, toks := tk } := I.kept hk1
  refine wpAny_bind (wpAny_newList ?_ (by rw [la]; exact line))
  have hoL : (h1.push { cls := .type "list", data := .seq acc.toList.toArray }).get? h1.objs.size = some (seqObj "list" acc.toList.toArray 0) := Heap.get?_push_size _ rfl
  refine wpAny_bind (wpAny_holding (wpAny_call_entry slot_list_sort ⟨_, hoL, rfl⟩ entry_list_sort (list_sort_treeK strKind_oneLt hoL hS.keysOf (fun a b rest e => keyKind_strs (ss := ks) (by rw [← e]; exact hS)) (by rw [la, hn]; exact h64) fun st' a1 a2 => ⟨_, rfl, ?_⟩) (args_list_sort _)))
  obtain ⟨ss, b1, b2, b3⟩ := sorted_out_str hS a1 a2
  obtain ⟨e, he⟩ : ∃ e, (sortedHeap (h1.push { cls := .type "list", data := .seq acc.toList.toArray }) h1.objs.size acc.toList ((arrOf st').map (·.2))).get? h1.objs.size = some (seqObj "list" ((arrOf st').map (·.2)) e) := sortedHeap_at hoL
  refine wpAny_pure ⟨_, rfl, ⟨.ref h1.objs.size, upd H h1.objs.size (.lst (ss.map V.str)), I1.laid (t' := tk) (a := h1.objs.size) (o := .lst (ss.map V.str)) (fun b o hb => ?_) (Nat.le_refl _) ⟨?_, _, e, vals_strs b1, ?_⟩, rfl, q _ ss (I1.hok.fresh (Nat.le_refl _)) b2 (pairwise_sorted b3)⟩⟩
  · rw [sortedHeap_old (Nat.ne_of_lt (Heap.lt_size hb)) (by rw [Heap.size_push]; exact Nat.lt_succ_of_lt (Heap.lt_size hb))]
    exact Heap.get?_push_of_some _ hb
  · rw [List.length_map, b2.length_eq]
    exact Nat.le_of_lt (small1000 (by omega))
  · rw [he]
end
end L2
set_option Elab.async false
set_option linter.all false
set_option maxRecDepth 100000
set_option maxHeartbeats 4000000
namespace L2
open PySem PySem.Spec PyProof.Rows
structure FnB (P : Program) (w : World) (K : PySem.W.Frag) (mg : Str → Option Value) (base : Heap) (k : Nat) (x : Str) (f : Addr) (fd : FuncData) (ps : List Str) (sp : Sp) : Prop where
  ok : FnOk P w K mg base CX0 k f fd ps sp
  bd : Binds K fd ps []
  kp : PySem.W.keepIn K (.ref f) = true
  gl : mg x = some (.ref f)
theorem FnB.up {P : Program} {w : World} {K : PySem.W.Frag} {mg : Str → Option Value} {base : Heap} {j k : Nat} {x : Str} {f : Addr} {fd : FuncData} {ps : List Str} {sp : Sp} (F : FnB P w K mg base j x f fd ps sp) (h : j ≤ k) : FnB P w K mg base k x f fd ps sp :=
  ⟨F.ok.mono h, F.bd, F.kp, F.gl⟩
def Tk (H H' : Hp) : Prop := ∀ b xs, H b = some (.tup xs) → H' b = some (.tup xs)
theorem Tk.refl (H : Hp) : Tk H H := fun _ _ h => h
theorem Tk.trans {H H1 H2 : Hp} (a : Tk H H1) (b : Tk H1 H2) : Tk H H2 := fun c xs h => b c xs (a c xs h)
theorem Same.tk {H H' : Hp} (h : Same H H') : Tk H H' := fun b xs e => h b _ e
theorem Tk.lst {H : Hp} {p : Addr} {xs : List V} {o : HO} (h : H p = some (.lst xs)) : Tk H (upd H p o) := fun b ys e => by
  rw [upd_ne (fun z => by subst z; rw [h] at e; cases e)]; exact e
theorem Tk.dk {H : Hp} {p : Addr} {kvs : List (Key × V)} {o : HO} (h : H p = some (.dK kvs)) : Tk H (upd H p o) := fun b ys e => by
  rw [upd_ne (fun z => by subst z; rw [h] at e; cases e)]; exact e
section
variable {X : Cx}
def rCatV : R2 := fun x y H Q => ∃ a b xs ys, x = .ref a ∧ y = .ref b ∧ H a = some (.tup xs) ∧ H b = some (.tup ys) ∧ xs.length + ys.length ≤ sizeLine ∧
  ∀ p H', Same H H' → H' p = some (.tup (xs ++ ys)) → Q (.ref p) H'
theorem op_catV : OpR X (binaryOp .Add) rCatV := by
  intro pins s σ H x y v u Q I rx ry h
  obtain ⟨a, b, xs, ys, rfl, rfl, ha, hb, hz, q⟩ := h
  by_cases hx : xs = []
  · subst hx
    cases rx
    cases ry
    obtain ⟨its, r1, p1, _⟩ := I.tuple (SqT.of ha)
    obtain ⟨its2, r2, p2, _⟩ := I.tuple (SqT.of hb)
    have e0 : its = [] := r1.nil_iff.mpr rfl
    subst e0
    obtain ⟨⟨cls, dd, data, sl⟩, ho, hc, n, hd⟩ := id p1
    obtain ⟨⟨cls2, dd2, data2, sl2⟩, ho2, hc2, n2, hd2⟩ := id p2
    simp only at hc hd hc2 hd2
    subst hc hd hc2 hd2
    exact concat_meets ⟨_, ho, rfl⟩ ⟨_, ho2, rfl⟩ noFill_tuple_add seq_tuple_add PySem.F.slot_tuple_add PySem.F.entry_tuple_add (PySem.F.args_tuple_add_2 _ _) (tuple_addW0 a b _ _ n n2 dd dd2 sl sl2 rfl) ⟨ho, ho2, ⟨.ref b, H, I, rfl, q b H (.refl H) hb⟩⟩
  · refine op_catT pins s σ H (.ref a) (.ref b) v u Q I rx ry ⟨a, b, xs, ys, rfl, rfl, SqT.of ha, SqT.of hb, hx, hz, fun e => ?_, fun e p hp => ?_⟩
    · subst e
      exact q a H (.refl H) (by rw [List.append_nil]; exact ha)
    · exact q p _ (same_upd hp) upd_same
def rSlV : V → Option Int → Option Int → Hp → VK → Prop := fun x lo hi H Q => ∃ a xs, x = .ref a ∧ H a = some (.tup xs) ∧
  ¬ (HT.sIx xs.length 0 lo = 0 ∧ HT.sIx xs.length xs.length hi = xs.length) ∧ ∀ p H', Same H H' → H' p = some (.tup (cutV xs lo hi)) → Q (.ref p) H'
theorem sl_tupV : SlR X rSlV := by
  intro pins s σ H x v vl vu lo hi sl Q I rx hs pl pu h
  obtain ⟨a, xs, rfl, ha, hw, q⟩ := h
  exact sl_tup pins s σ H (.ref a) v vl vu lo hi sl Q I rx hs pl pu ⟨a, xs, rfl, SqT.of ha, hw, fun p hp => q p _ (same_upd hp) upd_same⟩
end
inductive Atom where
  | name (x : Str) | num (n : Int) | gap (g : Str)
inductive Bin where
  | add | sub | mul | thn
def Bin.s : Bin → Str
  | .add => "add" | .sub => "sub" | .mul => "mul" | .thn => "then"
inductive Tr where
  | num (n : Int) | name (x : Str) | ask (x : Str) | stop (x : Str) | gap (g : Str) (as : List Atom)
  | say (a : Tr) | bin (o : Bin) (a b : Tr) | ite (a b c : Tr) | lett (x : Str) (a b : Tr)
def AtRep (H : Hp) : Atom → V → Prop
  | .name x, v => ∃ a, v = .ref a ∧ H a = some (.tup [.str "name", .str x])
  | .num n, v => ∃ a, v = .ref a ∧ H a = some (.tup [.str "num", .int n])
  | .gap g, v => ∃ a b, v = .ref a ∧ H a = some (.tup [.str "gap", .str g, .ref b]) ∧ H b = some (.tup [])
def Rep (H : Hp) : Tr → V → Prop
  | .num n, v => ∃ a, v = .ref a ∧ H a = some (.tup [.str "num", .int n])
  | .name x, v => ∃ a, v = .ref a ∧ H a = some (.tup [.str "name", .str x])
  | .ask x, v => ∃ a, v = .ref a ∧ H a = some (.tup [.str "ask", .str x])
  | .stop x, v => ∃ a, v = .ref a ∧ H a = some (.tup [.str "stop", .str x])
  | .gap g as, v => ∃ a b us, v = .ref a ∧ H a = some (.tup [.str "gap", .str g, .ref b]) ∧ H b = some (.tup us) ∧ us.length ≤ 1000 ∧ Paired (AtRep H) as us
  | .say t, v => ∃ a u, v = .ref a ∧ H a = some (.tup [.str "say", u]) ∧ Rep H t u
  | .bin o s t, v => ∃ a u w, v = .ref a ∧ H a = some (.tup [.str o.s, u, w]) ∧ Rep H s u ∧ Rep H t w
  | .ite r s t, v => ∃ a u w z, v = .ref a ∧ H a = some (.tup [.str "if", u, w, z]) ∧ Rep H r u ∧ Rep H s w ∧ Rep H t z
  | .lett x s t, v => ∃ a u w, v = .ref a ∧ H a = some (.tup [.str "let", .str x, u, w]) ∧ Rep H s u ∧ Rep H t w
theorem AtRep.mono {H H' : Hp} (k : Tk H H') : ∀ {t : Atom} {v : V}, AtRep H t v → AtRep H' t v
  | .name _, _, ⟨a, e, h⟩ => ⟨a, e, k _ _ h⟩
  | .num _, _, ⟨a, e, h⟩ => ⟨a, e, k _ _ h⟩
  | .gap _, _, ⟨a, b, e, h, h'⟩ => ⟨a, b, e, k _ _ h, k _ _ h'⟩
theorem Rep.mono {H H' : Hp} (k : Tk H H') : ∀ {t : Tr} {v : V}, Rep H t v → Rep H' t v
  | .num _, _, ⟨a, e, h⟩ => ⟨a, e, k _ _ h⟩
  | .name _, _, ⟨a, e, h⟩ => ⟨a, e, k _ _ h⟩
  | .ask _, _, ⟨a, e, h⟩ => ⟨a, e, k _ _ h⟩
  | .stop _, _, ⟨a, e, h⟩ => ⟨a, e, k _ _ h⟩
  | .gap _ _, _, ⟨a, b, us, e, h, h', n, p⟩ => ⟨a, b, us, e, k _ _ h, k _ _ h', n, Paired.mapP p fun _ _ z => z.mono k⟩
  | .say _, _, ⟨a, u, e, h, r⟩ => ⟨a, u, e, k _ _ h, r.mono k⟩
  | .bin _ _ _, _, ⟨a, u, w, e, h, r, s⟩ => ⟨a, u, w, e, k _ _ h, r.mono k, s.mono k⟩
  | .ite _ _ _, _, ⟨a, u, w, z, e, h, r, s, t⟩ => ⟨a, u, w, z, e, k _ _ h, r.mono k, s.mono k, t.mono k⟩
  | .lett _ _ _, _, ⟨a, u, w, e, h, r, s⟩ => ⟨a, u, w, e, k _ _ h, r.mono k, s.mono k⟩
inductive Kd where
  | num | name | ask | stop | gap | say | add | sub | mul | thn | ite | lett
  deriving DecidableEq
def Kd.s : Kd → Str
  | .num => "num" | .name => "name" | .ask => "ask" | .stop => "stop" | .gap => "gap"
  | .say => "say" | .add => "add" | .sub => "sub" | .mul => "mul" | .thn => "then" | .ite => "if" | .lett => "let"
def Kd.leaf : Kd → Bool
  | .num => true | .name => true | .ask => true | .stop => true | .gap => true
  | _ => false
theorem Kd.inj {a b : Kd} (h : a.s = b.s) : a = b := by
  revert h
  cases a <;> cases b <;> first | (intro _; rfl) | (intro h; exact absurd h (by decide +kernel))
theorem Kd.eq_iff {a b : Kd} : (V.str a.s = V.str b.s) ↔ a = b := ⟨fun h => Kd.inj (V.str.inj h), fun h => by rw [h]⟩
def Bin.kd : Bin → Kd
  | .add => .add | .sub => .sub | .mul => .mul | .thn => .thn
def Tr.kd : Tr → Kd
  | .num _ => .num | .name _ => .name | .ask _ => .ask | .stop _ => .stop | .gap _ _ => .gap
  | .say _ => .say | .bin o _ _ => o.kd | .ite _ _ _ => .ite | .lett _ _ _ => .lett
def Tr.sign (t : Tr) : Str := t.kd.s
theorem Bin.kd_s (o : Bin) : o.kd.s = o.s := by cases o <;> rfl
def Tr.parts : Tr → List Tr
  | .say a => [a] | .bin _ a b => [a, b] | .ite a b c => [a, b, c] | .lett _ a b => [a, b]
  | _ => []
def Tr.head : Tr → Nat
  | .gap _ _ => 3 | .say _ => 1 | .bin _ _ _ => 1 | .ite _ _ _ => 1
  | _ => 2
theorem Rep.all {H : Hp} : ∀ {t : Tr} {v : V}, Rep H t v → ∃ a hs us, v = .ref a ∧ H a = some (.tup (.str t.sign :: hs ++ us)) ∧ hs.length + 1 = t.head ∧ Paired (Rep H) t.parts us
  | .num n, _, ⟨a, e, h⟩ => ⟨a, [.int n], [], e, h, rfl, .nil⟩
  | .name x, _, ⟨a, e, h⟩ => ⟨a, [.str x], [], e, h, rfl, .nil⟩
  | .ask x, _, ⟨a, e, h⟩ => ⟨a, [.str x], [], e, h, rfl, .nil⟩
  | .stop x, _, ⟨a, e, h⟩ => ⟨a, [.str x], [], e, h, rfl, .nil⟩
  | .gap g _, _, ⟨a, b, us, e, h, h', _, p⟩ => ⟨a, [.str g, .ref b], [], e, h, rfl, .nil⟩
  | .say _, _, ⟨a, u, e, h, r⟩ => ⟨a, [], [u], e, h, rfl, .cons r .nil⟩
  | .bin o _ _, _, ⟨a, u, w, e, h, r, s⟩ => ⟨a, [], [u, w], e, (by show _ = some (HO.tup [V.str o.kd.s, u, w]); rw [Bin.kd_s]; exact h), rfl, .cons r (.cons s .nil)⟩
  | .ite _ _ _, _, ⟨a, u, w, z, e, h, r, s, t⟩ => ⟨a, [], [u, w, z], e, h, rfl, .cons r (.cons s (.cons t .nil))⟩
  | .lett x _ _, _, ⟨a, u, w, e, h, r, s⟩ => ⟨a, [.str x], [u, w], e, h, rfl, .cons r (.cons s .nil)⟩
def Tr.size : Tr → Nat
  | .say a => a.size + 1 | .bin _ a b => a.size + b.size + 1 | .ite a b c => a.size + b.size + c.size + 1 | .lett _ a b => a.size + b.size + 1
  | _ => 1
theorem paired_get {α : Type} {F : α → V → Prop} : ∀ {as : List α} {us : List V} {i : Nat} {u : V}, Paired F as us → us[i]? = some u → ∃ a, as[i]? = some a ∧ F a u
  | _, _, _, _, .nil, e => by simp at e
  | _, _, 0, _, .cons r _, e => by simp at e; subst e; exact ⟨_, rfl, r⟩
  | _, _, i + 1, u, .cons _ t, e => by
    obtain ⟨a, h1, h2⟩ := paired_get (i := i) (u := u) t (by simpa using e)
    exact ⟨a, by simpa using h1, h2⟩
theorem same_set {H H' : Hp} {p : Addr} {o : HO} (g : Same H H') (h : H p = none) : Same H (upd H' p o) := fun b u q => by rw [upd_ne (ne_of_none q h)]; exact g b u q
theorem take_next {α : Type} {as : List α} {i : Nat} {a : α} (h : as[i]? = some a) : as.take (i + 1) = as.take i ++ [a] := by
  rw [List.take_add_one, h]; rfl
def Atom.names : Atom → List Str
  | .name x => [x]
  | _ => []
def Tr.names : Tr → List Str
  | .name x => [x]
  | .gap _ as => as.flatMap Atom.names
  | _ => []
theorem iteY {c : Prop} [Decidable c] {A B : Prop} (hc : c) (h : A) : if decide c = true then A else B := by rw [if_pos (decide_eq_true hc)]; exact h
theorem iteN {c : Prop} [Decidable c] {A B : Prop} (hc : ¬ c) (h : B) : if decide c = true then A else B := by rw [if_neg (by rw [decide_eq_false hc]; exact Bool.false_ne_true)]; exact h
theorem line1000 {n : Nat} (h : n ≤ 1000) : n ≤ sizeLine := Nat.le_of_lt (small1000 h)
def constVs : List Expr → Option (List V)
  | [] => some []
  | .Constant (.str x) _ _ :: r => (constVs r).map fun l => V.str x :: l
  | .Constant (.int i) _ _ :: r => (constVs r).map fun l => V.int i :: l
  | _ => none
def tRow (vs : List V) : TA := fun _ H Q => Q vs H
theorem pa_row {X : Cx} : ∀ {es : List Expr} (vs : List V), constVs es = some vs → PA X es (tRow vs)
  | [], vs, h => by cases h; exact pa_nil
  | .Constant (.str x) j p :: r, vs, h => by
    obtain ⟨l, hl, e⟩ := Option.map_eq_some_iff.mp (show (constVs r).map (fun l => V.str x :: l) = some vs from h)
    subst e
    exact pa_cons pe_str (pa_row l hl)
  | .Constant (.int x) j p :: r, vs, h => by
    obtain ⟨l, hl, e⟩ := Option.map_eq_some_iff.mp (show (constVs r).map (fun l => V.int x :: l) = some vs from h)
    subst e
    exact pa_cons pe_int (pa_row l hl)
def rowT : Expr → Option (List V)
  | .Tuple es _ _ => constVs es
  | _ => none
def rowL : Expr → Option (List V)
  | .List es _ => constVs es
  | _ => none
theorem pe_tupR {X : Cx} {e : Expr} (vs : List V) (h : rowT e = some vs) : PE X e (tTup (tRow vs)) := by
  unfold rowT at h
  split at h
  · exact pe_tup (pa_row vs h)
  · cases h
theorem pe_lstR {X : Cx} {e : Expr} (vs : List V) (h : rowL e = some vs) : PE X e (tLst (tRow vs)) := by
  unfold rowL at h
  split at h
  · exact pe_lst (pa_row vs h)
  · cases h
end L2
set_option Elab.async false
set_option linter.all false
set_option maxRecDepth 100000
set_option maxHeartbeats 4000000
namespace L2
open PySem
abbrev DRow := Str × (Str ⊕ Int)
abbrev En := Str → Int
abbrev Res := List DRow × (Int ⊕ Str)
def askR (x : Str) : DRow := ("ask", .inl x)
def sayR (n : Int) : DRow := ("say", .inr n)
def Bin.op : Bin → Int → Int → Int
  | .add, m, n => (m + n) % 10 ^ 30
  | .sub, m, n => (m - n) % 10 ^ 30
  | .mul, m, n => (m * n) % 10 ^ 30
  | .thn, _, n => n
def En.set (e : En) (x : Str) (n : Int) : En := fun y => if y = x then n else e y
def pre (D : List DRow) (o : Option Res) : Option Res := o.map fun q => (D ++ q.1, q.2)
def seqR (r : Option Res) (k : Int → Option Res) : Option Res := r.bind fun r => match r.2 with
  | .inr w => some (r.1, .inr w)
  | .inl n => pre r.1 (k n)
def ev (a : En) : Tr → En → Option Res
  | .num n, _ => some ([], .inl n)
  | .name x, e => some ([], .inl (e x))
  | .ask x, _ => some ([askR x], .inl (a x))
  | .stop x, _ => some ([], .inr x)
  | .gap _ _, _ => none
  | .say t, e => seqR (ev a t e) fun n => some ([sayR n], .inl n)
  | .bin o s t, e => seqR (ev a s e) fun m => seqR (ev a t e) fun n => some ([], .inl (o.op m n))
  | .ite c s t, e => seqR (ev a c e) fun n => if n = 0 then ev a t e else ev a s e
  | .lett x s t, e => seqR (ev a s e) fun n => ev a t (e.set x n)
def aft (a : En) (t : Tr) (e : En) (E : List Int) : Option (Option Res × List Int) :=
  match t with
  | .say _ => match E with
    | n :: E => some (some ([sayR n], .inl n), E)
    | _ => none
  | .bin .thn _ t => match E with
    | _ :: E => some (ev a t e, E)
    | _ => none
  | .bin o _ _ => match E with
    | n :: m :: E => some (some ([], .inl (o.op m n)), E)
    | _ => none
  | .ite _ s t => match E with
    | n :: E => some (if n = 0 then ev a t e else ev a s e, E)
    | _ => none
  | .lett x _ t => match E with
    | n :: E => some (ev a t (e.set x n), E)
    | _ => none
  | _ => none
abbrev Item := Tr × En × Bool
def cont (a : En) : List Item → List Int → Option Res
  | [], [] => none
  | [], n :: _ => some ([], .inl n)
  | (t, e, false) :: W, E => seqR (ev a t e) fun n => cont a W (n :: E)
  | (t, e, true) :: W, E => (aft a t e E).bind fun p => seqR p.1 fun n => cont a W (n :: p.2)
section
variable {a e : En} {W : List Item} {E : List Int}
end
def wtR : Tr → Nat
  | .bin .thn _ t => 2 * t.size + 1
  | .ite _ s t => 2 * s.size + 2 * t.size + 1
  | .lett _ _ t => 2 * t.size + 1
  | _ => 1
def wtI : Item → Nat
  | (t, _, false) => 2 * t.size
  | (t, _, true) => wtR t
def wt (W : List Item) : Nat := (W.map wtI).sum
end L2
set_option Elab.async false
set_option linter.all false
set_option maxRecDepth 100000
set_option maxHeartbeats 4000000
namespace L2
open PySem PySem.Spec PyProof.Rows
def tOrT (K : PySem.W.Frag) (ta tb : TE) : TE := fun σ H Q => ta σ H fun x H1 => ∃ k, TruV K x H1 k ∧ if k = true then Q x H1 else tb σ H1 Q
theorem call_dictD {X : Cx} : CallR X (.type "dict") (fun xs H Q => ∃ a kvs, xs = [V.ref a] ∧ H a = some (.dK kvs) ∧ ∀ p, H p = none → Q (.ref p) (upd H p (.dK kvs))) := by
  intro pins s σ H xs us Q I r h
  obtain ⟨a, kvs, rfl, ha, q⟩ := h
  obtain ⟨u, rfl, ru⟩ := vals1 r
  cases ru
  exact d_copyOf I (.inl ha) fun p s' hp I' => ⟨.ref p, _, I', rfl, q p hp⟩
def eqDk (ka kb : List (Key × V)) : Bool := ka.length == kb.length && ka.all fun p => match valV kb p.1 with
  | none => false
  | some y => eqV p.2 y
def rEqDk (neg : Bool) : R2 := fun x y H Q => ∃ (a b : Addr) (ka kb : List (Key × V)), x = .ref a ∧ y = .ref b ∧ H a = some (.dK ka) ∧ H b = some (.dK kb) ∧ (∀ p ∈ ka, flatV p.2 = true) ∧ (∀ p ∈ kb, flatV p.2 = true) ∧
  Q (.bl (if neg then !eqDk ka kb else eqDk ka kb)) H
def CMulB (i j : Int) : Prop := i.natAbs < 2 ^ 100 ∧ j.natAbs < 2 ^ 100
structure FunD (K : PySem.W.Frag) (x qual : Str) (st : Stmt) (f : Addr) (fd : FuncData) (dvs : List Value) : Prop where
  ex : ∃ (oc : Value) (od : Option Addr) (kV doc pm : Value) (an : Option Addr) (cdv ct : Value) (osl : Array (Option Value)) (dt : Addr) (o : Obj) (n : Nat),
    fd = PySem.W.fnOf x qual (defArgs st) (defBody st) (defScope st) (.ref dt) kV doc pm an cdv ct ∧ K.lookup f = some ⟨oc, od, .func fd, osl⟩ ∧ PySem.W.codeIn K cdv qual = true ∧ K.lookup dt = some o ∧ o.data = .seq dvs.toArray n
  kp : PySem.W.keepIn K (.ref f) = true
section
variable {P : Program} {w : World} {K : PySem.W.Frag} {mg : Str → Option Value} {base : Heap}
structure FnD (P : Program) (w : World) (K : PySem.W.Frag) (mg : Str → Option Value) (base : Heap) (k : Nat) (x : Str) (f : Addr) (fd : FuncData) (ps : List Str) (sp : Sp) : Prop where
  ok : FnOk P w K mg base CX0 k f fd ps sp
  bd0 : Binds K fd ps []
  bd1 : Binds K fd ps [.none]
  bd2 : Binds K fd ps [.none, .none]
  kp : PySem.W.keepIn K (.ref f) = true
  gl : mg x = some (.ref f)
structure FnM (P : Program) (w : World) (K : PySem.W.Frag) (mg : Str → Option Value) (base : Heap) (k : Nat) (C : Addr) (m : Str) (f : Addr) (fd : FuncData) (ps : List Str) (sp : Sp) : Prop where
  ok : FnOk P w K mg base CX0 k f fd ps sp
  bd : Binds K fd ps []
  mt : Meth K C m f
end
end L2
set_option Elab.async false
set_option linter.all false
set_option maxRecDepth 100000
set_option maxHeartbeats 4000000
namespace L2
open PySem PySem.Spec PyProof.Rows
def rvObj (l : Addr) (i : Int) : Obj := { cls := .type "reversed", data := .fields #[.ref l, rawInt i] }
section
variable {prog : Program} {w : World} {A : Around} {E : Value → Shared → Prop} {s : Shared}
end
def Itv (K : PySem.W.Frag) (a : Addr) (n : Nat) : It :=
  ⟨fun i H => i < n ∧ ∃ xs x, SqT K H a xs ∧ xs.length = n ∧ xs[n - 1 - i]? = some x, fun i H x H' => H' = H ∧ ∀ xs, SqT K H a xs → xs[n - 1 - i]? = some x, fun i _ => n ≤ i⟩
def iRev (K : PySem.W.Frag) (ta : TA) : TI := fun σ H R => ta σ H fun vs H1 => ∃ a, vs = [.ref a] ∧ ∃ xs, SqT K H1 a xs ∧ R (Itv K a xs.length) H1
end L2
set_option Elab.async false
set_option linter.all false
set_option maxRecDepth 100000
set_option maxHeartbeats 4000000
namespace L2
open PySem PySem.Spec PyProof.Rows
def sV : Str ⊕ Int → V
  | .inl x => .str x
  | .inr n => .int n
def RowRep (H : Hp) (r : DRow) (v : V) : Prop := ∃ a, v = .ref a ∧ H a = some (.tup [.str r.1, sV r.2])
def endR : Int ⊕ Str → DRow
  | .inl n => ("is", .inr n)
  | .inr w => ("stop", .inl w)
structure TD (H H' : Hp) : Prop where
  tk : Tk H H'
  dk : ∀ b kvs, H b = some (.dK kvs) → H' b = some (.dK kvs)
def EnvAt (H : Hp) (n : Nat) (e : En) (v : V) : Prop := ∃ d kvs, v = .ref d ∧ H d = some (.dK kvs) ∧ kvs.length ≤ n ∧ ∀ x : Str, (valV kvs (Sum.inr x : Key)).getD (.int 0) = .int (e x)
def InB (i : Int) : Prop := 0 ≤ i ∧ i < 10 ^ 30
def EnB (e : En) : Prop := ∀ x, InB (e x)
def TrB : Tr → Prop
  | .num n => InB n
  | .say a => TrB a | .bin _ a b => TrB a ∧ TrB b | .ite a b c => TrB a ∧ TrB b ∧ TrB c | .lett _ a b => TrB a ∧ TrB b
  | _ => True
def ItemRep (H : Hp) (i : Item) (v : V) : Prop := ∃ a u dv n, v = .ref a ∧ H a = some (.tup [u, dv, .bl i.2.2]) ∧ Rep H i.1 u ∧ EnvAt H n i.2.1 dv ∧ n + i.1.size ≤ 900 ∧ TrB i.1 ∧ EnB i.2.1
def cflds (aA dl el wl : Addr) : List (Str × V) := putF "waiting" (.ref wl) (putF "ends" (.ref el) (putF "deeds" (.ref dl) (putF "asked" (.ref aA) [])))
section
variable {aA dl el wl : Addr}
end
structure Co (C : Addr) (H : Hp) (p aA dl el wl : Addr) (ds es ws : List V) : Prop where
  ob : ∃ dx, H p = some (.ins C dx (cflds aA dl el wl))
  d : H dl = some (.lst ds)
  e : H el = some (.lst es)
  w : H wl = some (.lst ws)
  de : dl ≠ el
  dw : dl ≠ wl
  ew : el ≠ wl
def Kp (dl el wl : Addr) (H H' : Hp) : Prop := ∀ b o, H b = some o → b ≠ dl → b ≠ el → b ≠ wl → H' b = some o
section
variable {C : Addr} {H H' : Hp} {p aA dl el wl : Addr} {ds es ws : List V}
end
theorem paired_append {α : Type} {F : α → V → Prop} : ∀ {as bs : List α} {us vs : List V}, Paired F as us → Paired F bs vs → Paired F (as ++ bs) (us ++ vs)
  | _, _, _, _, .nil, h => h
  | _, _, _, _, .cons r t, h => .cons r (paired_append t h)
structure Cf (C : Addr) (H : Hp) (p aA dl el wl : Addr) (a : En) (W : List Item) (E : List Int) (D : List DRow) : Prop where
  co : ∃ ds ws, Co C H p aA dl el wl ds (E.reverse.map V.int) ws ∧ Paired (RowRep H) D ds ∧ Paired (ItemRep H) W.reverse ws
  en : EnvAt H 900 a (.ref aA)
  ab : EnB a
  eb : ∀ n ∈ E, InB n
section
variable {C : Addr} {H H' : Hp} {p aA dl el wl : Addr} {a : En} {W : List Item} {E : List Int} {D : List DRow}
end
theorem paired_len {α : Type} {F : α → V → Prop} {as : List α} {us : List V} (h : Paired F as us) : us.length = as.length := h.length.symm
def bgn (a : En) (t : Tr) (e : En) (W : List Item) (E : List Int) (D : List DRow) : Option (List Item × List Int × List DRow) :=
  match t with
  | .num n => some (W, n :: E, D)
  | .name x => some (W, e x :: E, D)
  | .ask x => some (W, a x :: E, D ++ [askR x])
  | .stop _ => none
  | .gap _ _ => none
  | .say s => some ((s, e, false) :: (t, e, true) :: W, E, D)
  | .bin .thn s _ => some ((s, e, false) :: (t, e, true) :: W, E, D)
  | .bin _ s u => some ((s, e, false) :: (u, e, false) :: (t, e, true) :: W, E, D)
  | .ite c _ _ => some ((c, e, false) :: (t, e, true) :: W, E, D)
  | .lett _ s _ => some ((s, e, false) :: (t, e, true) :: W, E, D)
def gon (t : Tr) (e : En) (W : List Item) (E : List Int) (D : List DRow) : Option (List Item × List Int × List DRow) :=
  match t, E with
  | .say _, n :: E => some (W, n :: E, D ++ [sayR n])
  | .bin .thn _ u, _ :: E => some ((u, e, false) :: W, E, D)
  | .bin o _ _, n :: m :: E => some (W, o.op m n :: E, D)
  | .ite _ s u, n :: E => some ((if n = 0 then u else s, e, false) :: W, E, D)
  | .lett x _ u, n :: E => some ((u, e.set x n, false) :: W, E, D)
  | _, _ => none
end L2
set_option Elab.async false
set_option linter.all false
set_option maxRecDepth 100000
set_option maxHeartbeats 4000000
namespace L2
open PySem PySem.Spec PyProof.Rows
def rJoin : V → List V → Hp → VK → Prop := fun x xs H Q => ∃ (z : Str) (l : Addr) (ys : List Str), x = .str z ∧ xs = [.ref l] ∧ H l = some (.lst (ys.map V.str)) ∧ z.length ≤ 16 ∧ (ys.map (·.length)).sum + ys.length ≤ 1048576 ∧ Q (.str (Txt.join z ys)) H
def Itw (K : PySem.W.Frag) (a : Addr) (n : Nat) : It :=
  ⟨fun i H => i < n ∧ ∃ xs x, SqL K H a xs ∧ xs.length = n ∧ xs[n - 1 - i]? = some x, fun i H x H' => H' = H ∧ ∀ xs, SqL K H a xs → xs[n - 1 - i]? = some x, fun i _ => i = n⟩
def iRevL (K : PySem.W.Frag) (ta : TA) : TI := fun σ H R => ta σ H fun vs H1 => ∃ a, vs = [.ref a] ∧ ∃ xs, SqL K H1 a xs ∧ R (Itw K a xs.length) H1
theorem comp_rangeR {lo : Int} {n : Nat} {acc : Addr} {g : TG} {tt : TT} {te : TE} {σ : L2.St} {H : Hp} {R : Hp → Prop} (Pv : Nat → Hp → Prop) (h0 : Pv 0 (upd H acc (.lst [])))
    (hs : ∀ i H, i < n → Pv i H → g (.int (lo + i)) σ H fun σ2 H4 => Ext σ σ2 ∧ tt σ2 H4 fun b H5 =>
      if b = true then te σ2 H5 fun y H6 => ∃ zs, H6 acc = some (.lst zs) ∧ zs.length < sizeLine ∧ Pv (i + 1) (upd H6 acc (.lst (zs ++ [y]))) else Pv (i + 1) H5) (hd : ∀ H, Pv n H → R H) :
    ∃ W : Nat → Nat → Hp → Prop, (∃ m, W 0 m (upd H acc (.lst []))) ∧ ∀ i m H2, W i m H2 →
      ((Itr lo n).stop i H2 ∧ R H2) ∨ ((Itr lo n).go i H2 ∧ ∃ N : Hp → Prop, (∀ H', N H' → ∃ m', m' < m ∧ W (i + 1) m' H') ∧ ∀ x H3, (Itr lo n).yld i H2 x H3 → g x σ H3 fun σ2 H4 => Ext σ σ2 ∧ tt σ2 H4 fun b H5 =>
        if b = true then te σ2 H5 fun y H6 => ∃ zs, H6 acc = some (.lst zs) ∧ zs.length < sizeLine ∧ N (upd H6 acc (.lst (zs ++ [y])))
        else N H5) := comp_range (Q := fun _ H => R H) Pv h0 hs hd
end L2
set_option Elab.async false
set_option linter.all false
set_option maxRecDepth 100000
set_option maxHeartbeats 4000000
namespace L2
open PySem PySem.Spec PyProof.Rows
def Itr2 (n : Nat) : It := ⟨fun i _ => i < n, fun i H x H' => H' = H ∧ x = .int ((i : Int) * 2), fun i _ => n ≤ i⟩
def iRng3 (ta : TA) : TI := fun σ H R => ta σ H fun vs H1 => ∃ j : Int, vs = [.int 0, .int j, .int 2] ∧ 0 ≤ j ∧ j < 1000 ∧ R (Itr2 ((j + 1) / 2).toNat) H1
theorem comp_listR {K : PySem.W.Frag} {a : Addr} {xs : List V} {acc : Addr} {g : TG} {tt : TT} {te : TE} {σ : L2.St} {H : Hp} {R : Hp → Prop} (Pv : Nat → Hp → Prop) (h0 : Pv 0 (upd H acc (.lst []))) (hl : ∀ i H, i ≤ xs.length → Pv i H → SqL K H a xs)
    (hs : ∀ i x H, xs[i]? = some x → Pv i H → g x σ H fun σ2 H4 => Ext σ σ2 ∧ tt σ2 H4 fun b H5 =>
      if b = true then te σ2 H5 fun y H6 => ∃ zs, H6 acc = some (.lst zs) ∧ zs.length < sizeLine ∧ Pv (i + 1) (upd H6 acc (.lst (zs ++ [y]))) else Pv (i + 1) H5) (hd : ∀ H, Pv xs.length H → R H) :
    ∃ W : Nat → Nat → Hp → Prop, (∃ m, W 0 m (upd H acc (.lst []))) ∧ ∀ i m H2, W i m H2 →
      ((Itl K a).stop i H2 ∧ R H2) ∨ ((Itl K a).go i H2 ∧ ∃ N : Hp → Prop, (∀ H', N H' → ∃ m', m' < m ∧ W (i + 1) m' H') ∧ ∀ x H3, (Itl K a).yld i H2 x H3 → g x σ H3 fun σ2 H4 => Ext σ σ2 ∧ tt σ2 H4 fun b H5 =>
        if b = true then te σ2 H5 fun y H6 => ∃ zs, H6 acc = some (.lst zs) ∧ zs.length < sizeLine ∧ N (upd H6 acc (.lst (zs ++ [y])))
        else N H5) := by
  refine ⟨fun i m H => m = xs.length - i ∧ i ≤ xs.length ∧ Pv i H, ⟨xs.length, by simp, Nat.zero_le _, h0⟩, ?_⟩
  rintro i m H2 ⟨rfl, hi, p⟩
  have q := hl i H2 hi p
  by_cases hlt : i < xs.length
  · refine .inr ⟨⟨xs, xs[i], q, by simp [hlt]⟩, Pv (i + 1), fun H' p' => ⟨xs.length - (i + 1), by omega, rfl, hlt, p'⟩, fun x H' y => ?_⟩
    obtain ⟨e, y⟩ := y
    subst e
    exact hs i x _ (y xs q) p
  · have e : i = xs.length := by omega
    subst e
    exact .inl ⟨⟨xs, q, Nat.le_refl _⟩, hd H2 p⟩
end L2
set_option Elab.async false
set_option linter.all false
set_option maxRecDepth 100000
set_option maxHeartbeats 4000000
namespace L2
open PySem PySem.Spec PyProof.Rows
theorem ints_back : ∀ {ns : List Int} {us : List Value}, Vals (ns.map V.int) us → IntsAre us ns
  | [], _, h => by cases h; exact .nil
  | n :: ns, _, h => by
    cases h with
    | cons r t =>
      obtain ⟨tk, rfl⟩ := r
      exact .cons n tk (ints_back t)
theorem sIx_neg {n d : Nat} {k : Nat} (hk : 0 < k) (h : k ≤ n) : HT.sIx n d (some (-(k : Int))) = n - k := by
  show (if -(k : Int) < 0 then (-(k : Int) + n).toNat else _) = _
  rw [if_pos (by omega)]
  omega
section
variable {prog : Program} {w : World}
def EqT (prog : Program) (w : World) (A : Around) (s : Shared) (y x : Value) : Prop := ∀ (E : Value → Shared → Prop) (Q : Bool → Shared → Prop), Q true s → wpAny (model prog w) A (eqBool y x) Q E s
open AutoSeq1 (wpAny_loadPart')
open MeetsSeq MeetsSeq2 MeetsSeq3 SeqAt
end
def DEq (H : Hp) (a b : Addr) : Prop := a ≠ b ∧ ∃ ka kb, H a = some (.dK ka) ∧ H b = some (.dK kb) ∧ (∀ p ∈ ka, flatV p.2 = true) ∧ (∀ p ∈ kb, flatV p.2 = true) ∧ eqDk ka kb = true
def rEqLD (neg : Bool) : R2 := fun x y H Q => ∃ (p r : Addr) (ps qs : List Addr), x = .ref p ∧ y = .ref r ∧ H p = some (.lst (ps.map V.ref)) ∧ H r = some (.lst (qs.map V.ref)) ∧ ps.length = qs.length ∧ (∀ (j : Nat) (a b : Addr), ps[j]? = some a → qs[j]? = some b → DEq H a b) ∧ Q (.bl (!neg)) H
end L2
set_option Elab.async false
set_option linter.all false
set_option maxRecDepth 100000
set_option maxHeartbeats 1000000
namespace L2
open PySem PySem.Spec PyProof.Rows
section
variable {X : Cx}
end
end L2
set_option Elab.async false
set_option linter.all false
set_option maxRecDepth 100000
set_option maxHeartbeats 4000000
namespace L2
open PySem PySem.Spec PyProof.Rows
inductive Dt where
  | int (i : Int) | str (x : Str) | tup (ds : List Dt)
mutual
def Dt.beq : Dt → Dt → Bool
  | .int i, .int j => decide (i = j)
  | .str x, .str y => decide (x = y)
  | .tup ds, .tup es => Dt.beqs ds es
  | _, _ => false
def Dt.beqs : List Dt → List Dt → Bool
  | [], [] => true
  | d :: ds, e :: es => Dt.beq d e && Dt.beqs ds es
  | _, _ => false
end
mutual
theorem Dt.beq_iff : ∀ {d e : Dt}, Dt.beq d e = true ↔ d = e
  | .int i, .int j => by simp [Dt.beq]
  | .str x, .str y => by simp [Dt.beq]
  | .tup ds, .tup es => by
    have := Dt.beqs_iff (ds := ds) (es := es)
    simp [Dt.beq, this]
  | .int _, .str _ => by simp [Dt.beq]
  | .int _, .tup _ => by simp [Dt.beq]
  | .str _, .int _ => by simp [Dt.beq]
  | .str _, .tup _ => by simp [Dt.beq]
  | .tup _, .int _ => by simp [Dt.beq]
  | .tup _, .str _ => by simp [Dt.beq]
theorem Dt.beqs_iff : ∀ {ds es : List Dt}, Dt.beqs ds es = true ↔ ds = es
  | [], [] => by simp [Dt.beqs]
  | [], _ :: _ => by simp [Dt.beqs]
  | _ :: _, [] => by simp [Dt.beqs]
  | d :: ds, e :: es => by
    have h1 := Dt.beq_iff (d := d) (e := e)
    have h2 := Dt.beqs_iff (ds := ds) (es := es)
    simp [Dt.beqs, h1, h2]
end
mutual
def Dt.deep : Dt → Nat
  | .tup ds => Dt.deeps ds + 1
  | _ => 0
def Dt.deeps : List Dt → Nat
  | [] => 0
  | d :: ds => max (Dt.deep d) (Dt.deeps ds)
end
mutual
inductive DR (H : Hp) : Dt → V → Prop
  | int (i : Int) : DR H (.int i) (.int i)
  | str (x : Str) : DR H (.str x) (.str x)
  | tup {a : Addr} {xs : List V} {ds : List Dt} : H a = some (.tup xs) → DRs H ds xs → DR H (.tup ds) (.ref a)
inductive DRs (H : Hp) : List Dt → List V → Prop
  | nil : DRs H [] []
  | cons {d : Dt} {v : V} {ds : List Dt} {vs : List V} : DR H d v → DRs H ds vs → DRs H (d :: ds) (v :: vs)
end
mutual
theorem DR.mono {H H' : Hp} (k : Tk H H') : ∀ {d : Dt} {v : V}, DR H d v → DR H' d v
  | _, _, .int i => .int i
  | _, _, .str x => .str x
  | _, _, .tup h r => .tup (k _ _ h) (DRs.mono k r)
theorem DRs.mono {H H' : Hp} (k : Tk H H') : ∀ {ds : List Dt} {vs : List V}, DRs H ds vs → DRs H' ds vs
  | _, _, .nil => .nil
  | _, _, .cons r t => .cons (DR.mono k r) (DRs.mono k t)
end
theorem DRs.length {H : Hp} : ∀ {ds : List Dt} {vs : List V}, DRs H ds vs → ds.length = vs.length
  | _, _, .nil => rfl
  | _, _, .cons _ t => congrArg (· + 1) t.length
mutual
theorem DR.inj {H : Hp} : ∀ {d e : Dt} {v : V}, DR H d v → DR H e v → d = e
  | _, _, _, .int _, .int _ => rfl
  | _, _, _, .str _, .str _ => rfl
  | _, _, _, .tup h r, .tup h' r' => by
    rw [h] at h'
    cases h'
    rw [DRs.inj r r']
theorem DRs.inj {H : Hp} : ∀ {ds es : List Dt} {vs : List V}, DRs H ds vs → DRs H es vs → ds = es
  | _, _, _, .nil, .nil => rfl
  | _, _, _, .cons r t, .cons r' t' => by rw [DR.inj r r', DRs.inj t t']
end
theorem DRs.get {H : Hp} : ∀ {ds : List Dt} {vs : List V} {j : Nat} {v : V}, DRs H ds vs → vs[j]? = some v → ∃ d, ds[j]? = some d ∧ DR H d v
  | _, _, _, _, .nil, e => by simp at e
  | _, _, 0, _, .cons r _, e => by simp at e; subst e; exact ⟨_, rfl, r⟩
  | _, _, j + 1, v, .cons _ t, e => by
    obtain ⟨d, h1, h2⟩ := DRs.get (j := j) (v := v) t (by simpa using e)
    exact ⟨d, by simpa using h1, h2⟩
theorem deep_get : ∀ {ds : List Dt} {j : Nat} {d : Dt}, ds[j]? = some d → d.deep ≤ Dt.deeps ds
  | [], _, _, h => by simp at h
  | e :: ds, 0, d, h => by simp at h; subst h; simp [Dt.deeps]; omega
  | e :: ds, j + 1, d, h => by
    have := deep_get (ds := ds) (j := j) (d := d) (by simpa using h)
    simp [Dt.deeps]; omega
theorem beqs_all : ∀ (ds es : List Dt), Dt.beqs ds es = ((List.range (min ds.length es.length)).all (fun j => match ds[j]?, es[j]? with | some d, some e => Dt.beq d e | _, _ => false) && ds.length == es.length) := by
  intro ds es
  rw [Bool.eq_iff_iff, Dt.beqs_iff, Bool.and_eq_true, List.all_eq_true]
  constructor
  · rintro rfl
    refine ⟨fun j hj => ?_, by simp⟩
    have hj' : j < ds.length := by simpa using List.mem_range.mp hj
    simp [List.getElem?_eq_getElem hj', Dt.beq_iff]
  · rintro ⟨h, hl⟩
    have hl' : ds.length = es.length := by simpa using hl
    refine List.ext_getElem hl' fun j h1 h2 => ?_
    have := h j (List.mem_range.mpr (by omega))
    simpa [List.getElem?_eq_getElem h1, List.getElem?_eq_getElem h2, Dt.beq_iff] using this
section
variable {X : Cx} {pins : List (Addr × Obj)} {σ : St} {H : Hp} {s : Shared}
theorem eqAt_DR (I : Inv X pins σ H s) : ∀ (n : Nat) (A : Around) {d e : Dt} {v z : V} {u y : Value}, d.deep ≤ n → DR H d v → DR H e z → RelV v u → RelV z y → A.units + n < cLine → SeqAt.EqAt A s u y (Dt.beq d e) := by
  intro n
  induction n with
  | zero =>
    intro A d e v z u y hn rd re ru ry hu
    cases rd with
    | int i =>
      obtain ⟨t, rfl⟩ := ru
      cases re with
      | int j => obtain ⟨t', rfl⟩ := ry; rw [show Dt.beq (.int i) (.int j) = (i == j) by simp [Dt.beq, Bool.beq_eq_decide_eq]]; exact SeqAt.EqAt.int_int i t j t'
      | str x => obtain ⟨t', rfl⟩ := ry; exact SeqAt.EqAt.int_str i t x t'
      | tup h r =>
        cases ry
        obtain ⟨its, rv, p, _⟩ := I.tuple (SqT.of h)
        exact SeqAt.EqAt.int_tuple i t (show s.heap.IsTuple _ its.toArray from p) (by omega)
    | str x =>
      obtain ⟨t, rfl⟩ := ru
      cases re with
      | int j => obtain ⟨t', rfl⟩ := ry; exact SeqAt.EqAt.str_int x t j t'
      | str w' => obtain ⟨t', rfl⟩ := ry; rw [show Dt.beq (.str x) (.str w') = (x == w') by simp [Dt.beq, Bool.beq_eq_decide_eq]]; exact SeqAt.EqAt.str_str x t w' t'
      | tup h r =>
        cases ry
        obtain ⟨its, rv, p, _⟩ := I.tuple (SqT.of h)
        exact SeqAt.EqAt.str_tuple x t (show s.heap.IsTuple _ its.toArray from p) (by omega)
    | tup h r => simp [Dt.deep] at hn
  | succ n ih =>
    intro A d e v z u y hn rd re ru ry hu
    cases rd with
    | int i =>
      obtain ⟨t, rfl⟩ := ru
      cases re with
      | int j => obtain ⟨t', rfl⟩ := ry; rw [show Dt.beq (.int i) (.int j) = (i == j) by simp [Dt.beq, Bool.beq_eq_decide_eq]]; exact SeqAt.EqAt.int_int i t j t'
      | str x => obtain ⟨t', rfl⟩ := ry; exact SeqAt.EqAt.int_str i t x t'
      | tup h r =>
        cases ry
        obtain ⟨its, rv, p, _⟩ := I.tuple (SqT.of h)
        exact SeqAt.EqAt.int_tuple i t (show s.heap.IsTuple _ its.toArray from p) (by omega)
    | str x =>
      obtain ⟨t, rfl⟩ := ru
      cases re with
      | int j => obtain ⟨t', rfl⟩ := ry; exact SeqAt.EqAt.str_int x t j t'
      | str w' => obtain ⟨t', rfl⟩ := ry; rw [show Dt.beq (.str x) (.str w') = (x == w') by simp [Dt.beq, Bool.beq_eq_decide_eq]]; exact SeqAt.EqAt.str_str x t w' t'
      | tup h r =>
        cases ry
        obtain ⟨its, rv, p, _⟩ := I.tuple (SqT.of h)
        exact SeqAt.EqAt.str_tuple x t (show s.heap.IsTuple _ its.toArray from p) (by omega)
    | @tup a xs ds ha rs =>
      cases ru
      obtain ⟨its, rv, p, _⟩ := I.tuple (SqT.of ha)
      have hn' : Dt.deeps ds ≤ n := by simpa [Dt.deep] using hn
      cases re with
      | int j => obtain ⟨t', rfl⟩ := ry; exact SeqAt.EqAt.tuple_int j t' (show s.heap.IsTuple _ its.toArray from p) (by omega)
      | str w' => obtain ⟨t', rfl⟩ := ry; exact SeqAt.EqAt.tuple_str w' t' (show s.heap.IsTuple _ its.toArray from p) (by omega)
      | @tup b ys es hb rs' =>
        cases ry
        by_cases hab : a = b
        · subst hab
          rw [ha] at hb
          cases hb
          have : ds = es := DRs.inj rs rs'
          subst this
          rw [show Dt.beq (.tup ds) (.tup ds) = true from Dt.beq_iff.mpr rfl]
          exact SeqAt.EqAt.same _
        · obtain ⟨its2, rv2, p2, _⟩ := I.tuple (SqT.of hb)
          refine SeqAt.EqAt.of_refs hab ?_
          have l1 := rv.length
          have l2 := rv2.length
          have m1 := rs.length
          have m2 := rs'.length
          have key := SeqAt.RcAt.tuples (A := A) (s := s) (e := fun j => match ds[j]?, es[j]? with | some d, some e => Dt.beq d e | _, _ => false) (show s.heap.IsTuple _ its.toArray from p) (show s.heap.IsTuple _ its2.toArray from p2) (by omega) fun j h1 h2 => by
            have g1 : j < xs.length := by rw [l1]; simpa using h1
            have g2 : j < ys.length := by rw [l2]; simpa using h2
            obtain ⟨u1, eu, r1⟩ := rv.get (List.getElem?_eq_getElem g1)
            obtain ⟨u2, ev, r2⟩ := rv2.get (List.getElem?_eq_getElem g2)
            obtain ⟨d1, ed, rd1⟩ := rs.get (List.getElem?_eq_getElem g1)
            obtain ⟨d2, ed2, rd2⟩ := rs'.get (List.getElem?_eq_getElem g2)
            have e1 : its.toArray[j] = u1 := by obtain ⟨_, q⟩ := List.getElem?_eq_some_iff.mp eu; simpa using q
            have e2 : its2.toArray[j] = u2 := by obtain ⟨_, q⟩ := List.getElem?_eq_some_iff.mp ev; simpa using q
            simp only [ed, ed2, e1, e2]
            exact ih A.in1 (Nat.le_trans (deep_get ed) hn') rd1 rd2 r1 r2 (by rw [show A.in1.units = A.units + 1 from rfl]; omega)
          have ez : Dt.beq (.tup ds) (.tup es) = ((List.range (min its.toArray.size its2.toArray.size)).all (fun j => match ds[j]?, es[j]? with | some d, some e => Dt.beq d e | _, _ => false) && its.toArray.size == its2.toArray.size) := by
            rw [show Dt.beq (.tup ds) (.tup es) = Dt.beqs ds es by simp [Dt.beq], beqs_all]
            have a1 : its.toArray.size = ds.length := by simp; omega
            have a2 : its2.toArray.size = es.length := by simp; omega
            rw [a1, a2]
          rw [ez]
          exact key
def rEqD (neg : Bool) : R2 := fun x y H Q => ∃ (ds es : List Dt), DR H (.tup ds) x ∧ DR H (.tup es) y ∧ (Dt.tup ds).deep ≤ 150 ∧ Q (.bl (if neg then !Dt.beqs ds es else Dt.beqs ds es)) H
theorem hu150 {k : Nat} {A : Around} (hr : Room k A) : A.units + 150 < cLine := by have := hr.un; omega
end
end L2
set_option Elab.async false
set_option linter.all false
set_option maxRecDepth 100000
set_option maxHeartbeats 4000000
namespace L2
open PySem PySem.Spec PyProof.Rows
theorem itB {h h' : Heap} {a b t : Addr} {i : Nat} (x : h.IsTupleIter a t i) (e : Heap.SameBut b h h') (n : a ≠ b) : h'.IsTupleIter a t i := x.extBut e.extBut n
theorem tpB {h h' : Heap} {a b : Addr} {xs : Array Value} (x : h.IsTuple a xs) (e : Heap.SameBut b h h') (n : a ≠ b) : h'.IsTuple a xs := let ⟨o, ho, r⟩ := x; ⟨o, e.extBut a o n ho, r⟩
section
variable {prog : Program} {w : World} {A : Around} {E : Value → Shared → Prop} {s : Shared}
theorem zipT_item {z TI TO i1 i2 l1 l2 : Addr} {k : Nat} {xs ys : Array Value} {x y a b : Value} {Q : Option Value → Shared → Prop} (D : ZipApart z TI TO i1 i2 l1 l2)
    (hz : IsZip s.heap z TI TO .none) (hTI : IsPair s.heap TI (.ref i1) (.ref i2)) (hTO : IsPair s.heap TO a b) (h1 : s.heap.IsTupleIter i1 l1 k) (h2 : s.heap.IsTupleIter i2 l2 k)
    (hl1 : s.heap.IsTuple l1 xs) (hl2 : s.heap.IsTuple l2 ys) (hx : xs[k]? = some x) (hy : ys[k]? = some y)
    (hQ : ∀ h', IsZip h' z TI TO (rawInt s.heap.objs.size) → IsPair h' TO x y → h'.IsTupleIter i1 l1 (k + 1) → h'.IsTupleIter i2 l2 (k + 1) → IsPair h' s.heap.objs.size x y →
      (∀ c o, c ≠ z → c ≠ TO → c ≠ i1 → c ≠ i2 → s.heap.get? c = some o → h'.get? c = some o) → Q (some (.ref s.heap.objs.size)) { s with heap := h' }) : wpAny (model prog w) A (pyNext (.ref z)) Q E s := by
  have hT : s.TypeIs (.ref z) "zip" := ⟨_, hz, rfl⟩
  unfold pyNext
  refine wpAny_bind (wpAny_attempt (wpAny_callSpecial?_slot (name := Str.ofString "__next__") hT F.slot_zip_next (wpAny_call_entry F.slot_zip_next hT F.entry_zip_next ?_ (F.args_zip_next_1 _))))
  show wpAny _ _ (field (.ref z) 2 >>= _) _ _ _; refine wpAny_bind (wpAny_field hz rfl (x := .bool false) rfl ?_)
  show wpAny _ _ (field (.ref z) 3 >>= _) _ _ _; refine wpAny_bind (wpAny_field hz rfl (x := .ref TI) rfl ?_); refine wpAny_bind (wpAny_seqItems hTI rfl ?_)
  show wpAny _ _ (Builtin.SmallTypes.ownedTupleIsFree (.ref z) >>= _) _ _ _; refine wpAny_bind ?_; unfold Builtin.SmallTypes.ownedTupleIsFree
  refine wpAny_bind (wpAny_field hz rfl (x := .none) rfl (wpAny_pure ?_)); simp only [if_true]; refine wpAny_bind (wpAny_rule ?_); refine wpAny_bind (wpAny_field hz rfl (x := .ref TO) rfl ?_)
  refine wpAny_bind (wpAny_setField_rec hz (by simp) fun q1 hz1 hs1 => ?_); replace hz1 : IsZip q1 z TI TO .ellipsis := hz1
  refine wpAny_bind ?_; simp only [List.zipIdx_cons, List.zipIdx_nil, List.forIn_cons, List.forIn_nil]
  refine wpAny_bind (wpAny_bind (wpAny_onRaise ?_)); show wpAny _ _ (Builtin.SmallTypes.nextOf (.ref i1) >>= _) _ _ _
  refine wpAny_bind (next_tup_item (itB h1 hs1 D.i1z) (tpB hl1 hs1 D.l1z) hx fun q2 j1 hs2 => wpAny_pure ?_)
  have hTO2 : IsPair q2 TO a b := hs2.extBut _ _ D.TOi1 (hs1.extBut _ _ D.TOz hTO)
  refine wpAny_bind (wpAny_seqItems hTO2 rfl ?_); refine wpAny_bind (wpAny_updateSeq_pair hTO2 fun q3 hTO3 hs3 => ?_); replace hTO3 : IsPair q3 TO x b := hTO3
  refine wpAny_bind (wpAny_letGo (wpAny_pure ?_)); refine wpAny_bind (wpAny_bind (wpAny_onRaise ?_)); show wpAny _ _ (Builtin.SmallTypes.nextOf (.ref i2) >>= _) _ _ _
  refine wpAny_bind (next_tup_item (itB (itB (itB h2 hs1 D.i2z) hs2 D.i12.symm) hs3 D.TOi2.symm) (tpB (tpB (tpB hl2 hs1 D.l2z) hs2 D.l2i1) hs3 D.l2TO) hy fun q4 j2 hs4 => wpAny_pure ?_)
  have hTO4 : IsPair q4 TO x b := hs4.extBut _ _ D.TOi2 hTO3
  refine wpAny_bind (wpAny_seqItems hTO4 rfl ?_); refine wpAny_bind (wpAny_updateSeq_pair hTO4 fun q5 hTO5 hs5 => ?_); replace hTO5 : IsPair q5 TO x y := hTO5
  refine wpAny_bind (wpAny_letGo (wpAny_pure (wpAny_pure ?_))); refine wpAny_bind (wpAny_seqItems hTO5 rfl ?_); refine wpAny_bind (wpAny_newTuple ?_)
  have hsz : q5.objs.size = s.heap.objs.size := by rw [hs5.1, hs4.1, hs3.1, hs2.1, hs1.1]
  have hz5 : IsZip q5 z TI TO .ellipsis := hs5.extBut _ _ D.TOz.symm (hs4.extBut _ _ D.i2z.symm (hs3.extBut _ _ D.TOz.symm (hs2.extBut _ _ D.i1z.symm hz1)))
  have hk5 : ∀ c o, c ≠ z → c ≠ TO → c ≠ i1 → c ≠ i2 → s.heap.get? c = some o → q5.get? c = some o := fun c o c1 c2 c3 c4 e => hs5.extBut _ _ c2 (hs4.extBut _ _ c4 (hs3.extBut _ _ c2 (hs2.extBut _ _ c3 (hs1.extBut _ _ c1 e))))
  have j15 : q5.IsTupleIter i1 l1 (k + 1) := itB (itB (itB j1 hs3 D.TOi1.symm) hs4 D.i12) hs5 D.TOi1.symm
  have j25 : q5.IsTupleIter i2 l2 (k + 1) := itB j2 hs5 D.TOi2.symm
  have hzlt : z < q5.objs.size := Heap.lt_size hz5
  show wpAny _ _ (Builtin.SmallTypes.ownedTupleHandOut (.ref z) (.ref q5.objs.size) >>= _) _ _ _; refine wpAny_bind ?_; unfold Builtin.SmallTypes.ownedTupleHandOut
  have hz6 : IsZip (q5.push { cls := .type "tuple", data := .seq #[x, y] }) z TI TO .ellipsis := Heap.get?_push_of_some _ hz5
  refine wpAny_bind (wpAny_setField_rec hz6 (by simp) fun q7 hz7 hs7 => ?_); replace hz7 : IsZip q7 z TI TO (rawInt q5.objs.size) := hz7
  refine wpAny_setField_rec hz7 (by simp) fun q8 hz8 hs8 => ?_; replace hz8 : IsZip q8 z TI TO (rawInt q5.objs.size) := hz8
  have up : ∀ c o, c ≠ z → q5.get? c = some o → q8.get? c = some o := fun c o c1 e => hs8.extBut _ _ c1 (hs7.extBut _ _ c1 (Heap.get?_push_of_some _ e))
  have hT8 : IsPair q8 q5.objs.size x y := hs8.extBut _ _ (Nat.ne_of_gt hzlt) (hs7.extBut _ _ (Nat.ne_of_gt hzlt) (Heap.get?_push_size _ rfl))
  rw [hsz] at hz8 hT8
  refine wpAny_pure ⟨_, rfl, wpAny_pure ?_⟩
  show Q (some (.ref q5.objs.size)) _
  rw [hsz]
  exact hQ q8 hz8 (up _ _ D.TOz hTO5) (let ⟨o, e, r⟩ := j15; ⟨o, up _ o D.i1z e, r⟩) (let ⟨o, e, r⟩ := j25; ⟨o, up _ o D.i2z e, r⟩) hT8 fun c o c1 c2 c3 c4 e => up c o c1 (hk5 c o c1 c2 c3 c4 e)
theorem zipT_end {z TI TO i1 i2 l1 l2 : Addr} {k : Nat} {xs ys : Array Value} {a b : Value} {Q : Option Value → Shared → Prop} (hh : A.handled = none) (D : ZipApart z TI TO i1 i2 l1 l2)
    (hz : IsZip s.heap z TI TO .none) (hTI : IsPair s.heap TI (.ref i1) (.ref i2)) (hTO : IsPair s.heap TO a b) (h1 : s.heap.IsTupleIter i1 l1 k) (h2 : s.heap.IsTupleIter i2 l2 k)
    (hl1 : s.heap.IsTuple l1 xs) (hl2 : s.heap.IsTuple l2 ys) (hend : xs[k]? = none ∨ ys[k]? = none)
    (hQ : ∀ h', (∀ c o, c ≠ z → c ≠ TO → c ≠ i1 → c ≠ i2 → s.heap.get? c = some o → h'.get? c = some o) → Q none { s with heap := h' }) : wpAny (model prog w) A (pyNext (.ref z)) Q E s := by
  have hT : s.TypeIs (.ref z) "zip" := ⟨_, hz, rfl⟩
  unfold pyNext
  have fin : ∀ (h' : Heap) (e : Addr), (∀ c o, c ≠ z → c ≠ TO → c ≠ i1 → c ≠ i2 → s.heap.get? c = some o → h'.get? c = some o) → (∃ o, h'.get? e = some o ∧ o.cls = .type "StopIteration") →
      wpAny (model prog w) A (do if ← isInstance (.ref e) (.type "StopIteration") then pure none else throw (.ref e)) Q E { s with heap := h' } := fun h' e hk ⟨o, ho, hc⟩ =>
    wpAny_bind (wpAny_isInstance (T := "StopIteration") (b := true) ⟨o, ho, hc⟩ isSubtype_stop (wpAny_pure (hQ _ hk)))
  refine wpAny_bind (wpAny_attempt (wpAny_callSpecial?_slot (name := Str.ofString "__next__") hT F.slot_zip_next (wpAny_call_entry F.slot_zip_next hT F.entry_zip_next ?_ (F.args_zip_next_1 _))))
  show wpAny _ _ (field (.ref z) 2 >>= _) _ _ _; refine wpAny_bind (wpAny_field hz rfl (x := .bool false) rfl ?_)
  show wpAny _ _ (field (.ref z) 3 >>= _) _ _ _; refine wpAny_bind (wpAny_field hz rfl (x := .ref TI) rfl ?_); refine wpAny_bind (wpAny_seqItems hTI rfl ?_)
  show wpAny _ _ (Builtin.SmallTypes.ownedTupleIsFree (.ref z) >>= _) _ _ _; refine wpAny_bind ?_; unfold Builtin.SmallTypes.ownedTupleIsFree
  refine wpAny_bind (wpAny_field hz rfl (x := .none) rfl (wpAny_pure ?_)); simp only [if_true]; refine wpAny_bind (wpAny_rule ?_); refine wpAny_bind (wpAny_field hz rfl (x := .ref TO) rfl ?_)
  refine wpAny_bind (wpAny_setField_rec hz (by simp) fun q1 hz1 hs1 => ?_); replace hz1 : IsZip q1 z TI TO .ellipsis := hz1
  refine wpAny_bind ?_; simp only [List.zipIdx_cons, List.zipIdx_nil, List.forIn_cons, List.forIn_nil]
  refine wpAny_bind (wpAny_bind (wpAny_onRaise ?_)); show wpAny _ _ (Builtin.SmallTypes.nextOf (.ref i1) >>= _) _ _ _
  cases hx : xs[k]? with
  | none =>
    refine wpAny_bind (next_tup_end hh (itB h1 hs1 D.i1z) (tpB hl1 hs1 D.l1z) hx fun q2 e hs2 he => ?_)
    obtain ⟨oe, hoe, hce⟩ := he
    have hz2 : IsZip q2 z TI TO .ellipsis := hs2 _ _ D.i1z.symm hz1
    have hez : e ≠ z := fun x => by subst x; rw [hz2] at hoe; cases hoe; simp at hce
    exact wpAny_setField_rec hz2 (by simp) fun q3 _ hs3 => fin q3 e (fun c o c1 _ c3 _ x => hs3.extBut _ _ c1 (hs2 _ _ c3 (hs1.extBut _ _ c1 x))) ⟨oe, hs3.extBut _ _ hez hoe, hce⟩
  | some x =>
    have hy : ys[k]? = none := by rcases hend with h | h; rw [hx] at h; cases h; exact h
    refine wpAny_bind (next_tup_item (itB h1 hs1 D.i1z) (tpB hl1 hs1 D.l1z) hx fun q2 j1 hs2 => wpAny_pure ?_)
    have hTO2 : IsPair q2 TO a b := hs2.extBut _ _ D.TOi1 (hs1.extBut _ _ D.TOz hTO)
    refine wpAny_bind (wpAny_seqItems hTO2 rfl ?_); refine wpAny_bind (wpAny_updateSeq_pair hTO2 fun q3 hTO3 hs3 => ?_)
    refine wpAny_bind (wpAny_letGo (wpAny_pure ?_)); refine wpAny_bind (wpAny_bind (wpAny_onRaise ?_)); show wpAny _ _ (Builtin.SmallTypes.nextOf (.ref i2) >>= _) _ _ _
    refine wpAny_bind (next_tup_end hh (itB (itB (itB h2 hs1 D.i2z) hs2 D.i12.symm) hs3 D.TOi2.symm) (tpB (tpB (tpB hl2 hs1 D.l2z) hs2 D.l2i1) hs3 D.l2TO) hy fun q4 e hs4 he => ?_)
    obtain ⟨oe, hoe, hce⟩ := he
    have hz4 : IsZip q4 z TI TO .ellipsis := hs4 _ _ D.i2z.symm (hs3.extBut _ _ D.TOz.symm (hs2.extBut _ _ D.i1z.symm hz1))
    have hez : e ≠ z := fun x => by subst x; rw [hz4] at hoe; cases hoe; simp at hce
    exact wpAny_setField_rec hz4 (by simp) fun q5 _ hs5 => fin q5 e (fun c o c1 c2 c3 c4 x => hs5.extBut _ _ c1 (hs4 _ _ c4 (hs3.extBut _ _ c2 (hs2.extBut _ _ c3 (hs1.extBut _ _ c1 x))))) ⟨oe, hs5.extBut _ _ hez hoe, hce⟩
end
theorem meets_zipT (l1 l2 : Addr) (xs ys : Array Value) :
    Meets (Builtin.«zip.__new__» ⟨[.type "zip", .ref l1, .ref l2], []⟩) (fun _ R s => s.heap.IsTuple l1 xs ∧ s.heap.IsTuple l2 ys ∧
      ∀ (h' : Heap) (z TI TO i1 i2 : Addr), (∀ c o, s.heap.get? c = some o → h'.get? c = some o) → s.heap.objs.size ≤ z → s.heap.objs.size ≤ TI → s.heap.objs.size ≤ TO → s.heap.objs.size ≤ i1 → s.heap.objs.size ≤ i2 →
        (TI ≠ z ∧ TO ≠ z ∧ i1 ≠ z ∧ i2 ≠ z ∧ TI ≠ TO ∧ TI ≠ i1 ∧ TI ≠ i2 ∧ TO ≠ i1 ∧ TO ≠ i2 ∧ i1 ≠ i2) → IsZip h' z TI TO .none → IsPair h' TI (.ref i1) (.ref i2) → IsPair h' TO .none .none → h'.IsTupleIter i1 l1 0 → h'.IsTupleIter i2 l2 0 →
        R (.ok (.ret (.ref z))) { s with heap := h' }) :=
  .of_wp fun prog w A R s h => by
    obtain ⟨hp, g, d, tk, os⟩ := s; obtain ⟨hl1, hl2, h⟩ := h; have hsub := sub_zip
    have hL1 : Heap.IsTuple (Shared.heap ⟨hp, g, d, tk, os⟩) l1 xs := hl1
    have hL2 : Heap.IsTuple (Shared.heap ⟨hp.push { cls := .type "tuple_iterator", data := .fields #[.ref l1, .int 0 0] }, g, d, tk, os⟩) l2 ys := let ⟨o, ho, r⟩ := hl2; ⟨o, Heap.get?_push_of_some _ ho, r⟩
    wp_walk using wpAny_pyIter_tuple hL1, wpAny_pyIter_tuple hL2
    refine ⟨_, rfl, h _ _ _ _ _ _ (fun c o e => Heap.get?_push_of_some _ (Heap.get?_push_of_some _ (Heap.get?_push_of_some _ (Heap.get?_push_of_some _ (Heap.get?_push_of_some _ e))))) ?_ ?_ ?_ ?_ ?_ ?_ (Heap.get?_push_size _ rfl) (Heap.get?_push_of_some _ (Heap.get?_push_of_some _ (Heap.get?_push_size _ rfl))) (Heap.get?_push_of_some _ (Heap.get?_push_size _ rfl))
      ⟨_, Heap.get?_push_of_some _ (Heap.get?_push_of_some _ (Heap.get?_push_of_some _ (Heap.get?_push_of_some _ (Heap.get?_push_size _ rfl)))), rfl, rfl⟩ ⟨_, Heap.get?_push_of_some _ (Heap.get?_push_of_some _ (Heap.get?_push_of_some _ (Heap.get?_push_size _ rfl))), rfl, rfl⟩⟩
    all_goals simp only [Heap.size_push]
    all_goals first
      | omega
      | (refine ⟨?_, ?_, ?_, ?_, ?_, ?_, ?_, ?_, ?_, ?_⟩ <;> (intro e; have e' : @Eq Nat _ _ := e; omega))
section
variable {prog : Program} {w : World} {A : Around} {E : Value → Shared → Prop} {s : Shared}
theorem call_zipT {l1 l2 : Addr} {xs ys : Array Value} {Q : Value → Shared → Prop} (hl1 : s.heap.IsTuple l1 xs) (hl2 : s.heap.IsTuple l2 ys)
    (h : ∀ (h' : Heap) (z TI TO i1 i2 : Addr), (∀ c o, s.heap.get? c = some o → h'.get? c = some o) → s.heap.objs.size ≤ z → s.heap.objs.size ≤ TI → s.heap.objs.size ≤ TO → s.heap.objs.size ≤ i1 → s.heap.objs.size ≤ i2 →
        (TI ≠ z ∧ TO ≠ z ∧ i1 ≠ z ∧ i2 ≠ z ∧ TI ≠ TO ∧ TI ≠ i1 ∧ TI ≠ i2 ∧ TO ≠ i1 ∧ TO ≠ i2 ∧ i1 ≠ i2) → IsZip h' z TI TO .none → IsPair h' TI (.ref i1) (.ref i2) → IsPair h' TO .none .none → h'.IsTupleIter i1 l1 0 → h'.IsTupleIter i2 l2 0 → Q (.ref z) { s with heap := h' }) :
    wpAny (model prog w) A (call (.type "zip") [.ref l1, .ref l2]) Q E s := by
  refine callType_new F.called_zip (by decide) (F.typeCall_zip_2 _ _) (F.newCall_zip_2 _ _) (fun obj => F.args_object_init_3 obj _ _) F.entry_zip_new (meets_zipT l1 l2 xs ys) ⟨hl1, hl2, fun h' z TI TO i1 i2 a0 a1 a2 a3 a4 a5 a6 a7 a8 a9 b1 b2 => ?_⟩
  exact ⟨⟨_, a7, rfl⟩, h h' z TI TO i1 i2 a0 a1 a2 a3 a4 a5 a6 a7 a8 a9 b1 b2⟩
end
def Itz (a b : Addr) : It :=
  ⟨fun i H => ∃ xs ys x y, H a = some (.tup xs) ∧ H b = some (.tup ys) ∧ xs[i]? = some x ∧ ys[i]? = some y,
   fun i H v H' => ∃ T x y, H T = none ∧ v = .ref T ∧ H' = upd H T (.tup [x, y]) ∧ (∀ xs, H a = some (.tup xs) → xs[i]? = some x) ∧ ∀ ys, H b = some (.tup ys) → ys[i]? = some y,
   fun i H => ∃ xs ys, H a = some (.tup xs) ∧ H b = some (.tup ys) ∧ (xs.length ≤ i ∨ ys.length ≤ i)⟩
theorem turn_zip {P : Program} {w : World} {K : PySem.W.Frag} {es : List Expr} {kk : Nat} {pos : Pos} (a b z TI TO i1 i2 : Addr)
    (ap : TI ≠ z ∧ TO ≠ z ∧ i1 ≠ z ∧ i2 ≠ z ∧ TI ≠ TO ∧ TI ≠ i1 ∧ TI ≠ i2 ∧ TO ≠ i1 ∧ TO ≠ i2 ∧ i1 ≠ i2) :
    Turn P w K (.Tuple es kk pos) (Itz a b) [z, TI, TO, i1, i2] z (fun i h => IsZip h z TI TO .none ∧ IsPair h TI (.ref i1) (.ref i2) ∧ (∃ p q, IsPair h TO p q) ∧ h.IsTupleIter i1 a i ∧ h.IsTupleIter i2 b i) where
  mem := by simp
  obj := fun i h st c hc => by
    obtain ⟨hz, hTI, ⟨p, q, hTO⟩, ⟨o1, e1, c1, d1⟩, o2, e2, c2, d2⟩ := st
    simp only [List.mem_cons, List.not_mem_nil, or_false] at hc
    rcases hc with rfl | rfl | rfl | rfl | rfl
    · exact ⟨_, hz, fun v z => by have z' : Data.fields _ = Data.cell v := z; cases z'⟩
    · exact ⟨_, hTI, fun v z => by have z' : Data.seq _ _ = Data.cell v := z; cases z'⟩
    · exact ⟨_, hTO, fun v z => by have z' : Data.seq _ _ = Data.cell v := z; cases z'⟩
    · exact ⟨o1, e1, fun v z => by rw [d1] at z; cases z⟩
    · exact ⟨o2, e2, fun v z => by rw [d2] at z; cases z⟩
  keep := fun i h h' st k => by
    obtain ⟨hz, hTI, ⟨p, q, hTO⟩, ⟨o1, e1, r1⟩, o2, e2, r2⟩ := st
    exact ⟨k z (by simp) _ hz, k TI (by simp) _ hTI, ⟨p, q, k TO (by simp) _ hTO⟩, ⟨o1, k i1 (by simp) _ e1, r1⟩, o2, k i2 (by simp) _ e2, r2⟩
  item := by
    intro X hP hw hK hc i pins s σ H E I hf st hg
    subst hP hw hK
    obtain ⟨xs, ys, x, y, ha, hb, hx, hy⟩ := hg
    obtain ⟨hz, hTI, ⟨p, q, hTO⟩, h1, h2⟩ := st
    obtain ⟨its, rv, t1, _⟩ := I.tuple (SqT.of ha)
    obtain ⟨its2, rv2, t2, _⟩ := I.tuple (SqT.of hb)
    obtain ⟨u, hu, ru⟩ := rv.get hx
    obtain ⟨u2, hu2, ru2⟩ := rv2.get hy
    obtain ⟨n1, n2, n3, n4, n5, n6, n7, n8, n9, n10⟩ := ap
    have ne : ∀ {c d : Addr} {o : HO}, H c = some o → d ∈ [z, TI, TO, i1, i2] → c ≠ d := fun e hd => ne_of_none e (hf _ hd).1
    have D : ZipApart z TI TO i1 i2 a b := ⟨n1, n2, n3, n4, n5, n6, n7, n8, n9, n10, ne ha (by simp), ne ha (by simp), ne ha (by simp), ne ha (by simp), ne hb (by simp), ne hb (by simp), ne hb (by simp), ne hb (by simp)⟩
    refine zipT_item D hz hTI hTO h1 h2 (show s.heap.IsTuple a its.toArray from t1) (show s.heap.IsTuple b its2.toArray from t2) (by simpa using hu) (by simpa using hu2) fun q1 hz1 hTO1 j1 j2 hT hk => ⟨_, rfl, ?_⟩
    have hn : H s.heap.objs.size = none := I.fresh
    have hT1 : IsPair q1 TI (.ref i1) (.ref i2) := hk _ _ n1 n5 n6 n7 hTI
    have neT : ∀ c ∈ [z, TI, TO, i1, i2], c ≠ s.heap.objs.size := fun c hc => by
      simp only [List.mem_cons, List.not_mem_nil, or_false] at hc
      rcases hc with rfl | rfl | rfl | rfl | rfl
      · exact Nat.ne_of_lt (Heap.lt_size (show s.heap.get? _ = some _ from hz))
      · exact Nat.ne_of_lt (Heap.lt_size (show s.heap.get? _ = some _ from hTI))
      · exact Nat.ne_of_lt (Heap.lt_size (show s.heap.get? _ = some _ from hTO))
      · obtain ⟨_, e, _⟩ := h1; exact Nat.ne_of_lt (Heap.lt_size e)
      · obtain ⟨_, e, _⟩ := h2; exact Nat.ne_of_lt (Heap.lt_size e)
    have I1 : Inv X pins σ (upd H s.heap.objs.size (.tup [x, y])) { s with heap := q1, toks := s.toks } := I.turnedL (ch := [z, TO, i1, i2]) (fun c o hc e => hk c o (fun q => hc (by simp [q])) (fun q => hc (by simp [q])) (fun q => hc (by simp [q])) (fun q => hc (by simp [q])) e)
      (fun c hc => hf c (by simp at hc ⊢; rcases hc with r | r | r | r <;> simp [r])) (Nat.le_refl _) ⟨Nat.le_of_lt (small1000 (show 2 ≤ 1000 by decide)), [u, u2], .cons ru (.cons ru2 .nil), _, hT, rfl, _, rfl⟩
    refine wpAny_letOwnedTupleGo_zip (s := { s with heap := q1 }) hz1 fun q2 hz2 hs2 => ⟨.ref s.heap.objs.size, _, ?_, rfl, ⟨_, x, y, hn, rfl, rfl, fun ws e => by rw [ha] at e; cases e; exact hx, fun ws e => by rw [hb] at e; cases e; exact hy⟩, ⟨hz2, hs2.extBut _ _ n1 hT1, ⟨_, _, hs2.extBut _ _ n2 hTO1⟩, itB j1 hs2 n3, itB j2 hs2 n4⟩, fun c hc => ?_⟩
    · refine I1.turnedN (t' := s.toks) (ch := [z]) (fun c o hc e => (hs2.2 c (fun q => hc (by simp [q]))).trans e) fun c hc => ?_
      have ec := List.mem_singleton.mp hc
      subst ec
      obtain ⟨f0, f⟩ := hf c (by simp)
      exact ⟨by rw [upd_ne (neT c (by simp))]; exact f0, f⟩
    · rw [upd_ne (neT c hc)]; exact (hf c hc).1
  done := by
    intro X hP hw hK hc i pins s σ H E I hf st hg
    subst hP hw hK
    obtain ⟨xs, ys, ha, hb, hend⟩ := hg
    obtain ⟨hz, hTI, ⟨p, q, hTO⟩, h1, h2⟩ := st
    obtain ⟨its, rv, t1, _⟩ := I.tuple (SqT.of ha)
    obtain ⟨its2, rv2, t2, _⟩ := I.tuple (SqT.of hb)
    have l1 := rv.length
    have l2 := rv2.length
    obtain ⟨n1, n2, n3, n4, n5, n6, n7, n8, n9, n10⟩ := ap
    have ne : ∀ {c d : Addr} {o : HO}, H c = some o → d ∈ [z, TI, TO, i1, i2] → c ≠ d := fun e hd => ne_of_none e (hf _ hd).1
    have D : ZipApart z TI TO i1 i2 a b := ⟨n1, n2, n3, n4, n5, n6, n7, n8, n9, n10, ne ha (by simp), ne ha (by simp), ne ha (by simp), ne ha (by simp), ne hb (by simp), ne hb (by simp), ne hb (by simp), ne hb (by simp)⟩
    refine zipT_end (I.ok.hd hc) D hz hTI hTO h1 h2 (show s.heap.IsTuple a its.toArray from t1) (show s.heap.IsTuple b its2.toArray from t2) ?_ fun q1 hk => ⟨rfl, ?_⟩
    · rcases hend with h | h
      · exact .inl (by simp; omega)
      · exact .inr (by simp; omega)
    · exact I.turnedN (t' := s.toks) (ch := [z, TO, i1, i2]) (fun c o hc e => hk c o (fun q => hc (by simp [q])) (fun q => hc (by simp [q])) (fun q => hc (by simp [q])) (fun q => hc (by simp [q])) e) (fun c hc => hf c (by simp at hc ⊢; rcases hc with r | r | r | r <;> simp [r]))
  self := fun _ _ _ _ _ st h => wpAny_pyIter_zip st.1 h
theorem boot_zip' : bootBuiltins "zip" = some (.type "zip") := by decide +kernel
def iZip (ta : TA) : TI := fun σ H R => ta σ H fun vs H1 => ∃ a b xs ys, vs = [.ref a, .ref b] ∧ H1 a = some (.tup xs) ∧ H1 b = some (.tup ys) ∧ R (Itz a b) H1
theorem pi_zip {X : Cx} {es : List Expr} {k : Nat} {tpos : Pos} {a b : Expr} {ta : TA} {p pos : Pos} (hg : Gl X "zip") (hm : X.mg "zip" = none) (ha : PA X [a, b] ta) (hs : starEach [a, b] X.env = [(false, eval a X.env), (false, eval b X.env)] := by rfl) (hs2 : starEach [b] X.env = [(false, eval b X.env)] := by rfl) :
    PI X (.Tuple es k tpos) (.Call (.Name "zip" p) [a, b] [] pos) (iZip ta) := by
  intro pins s σ H R I h
  refine Call_ (ld_blt I hg hm boot_zip' (PyProof.Rows.callWith_type1 (thn (ha pos pins s σ H _ I h) fun us s1 ⟨vs, H1, I1, r1, q1⟩ => ?_) (by rw [hs, hs2]) (by rw [hs2]; rfl)))
  obtain ⟨l1, l2, xs, ys, e, h1, h2, q⟩ := q1
  subst e
  obtain ⟨u, w', rfl, ru, rw'⟩ := vals2 r1
  cases ru
  cases rw'
  obtain ⟨its, rv, t1, _⟩ := I1.tuple (SqT.of h1)
  obtain ⟨its2, rv2, t2, _⟩ := I1.tuple (SqT.of h2)
  refine call_zipT (show s1.heap.IsTuple l1 its.toArray from t1) (show s1.heap.IsTuple l2 its2.toArray from t2) fun h' z TI TO i1 i2 a0 a1 a2 a3 a4 a5 a6 a7 a8 a9 b1 b2 => ?_
  refine wpAny_pyIter_zip a7 ⟨_, [z, TI, TO, i1, i2], _, _, H1, rfl, I1.kept (t' := s1.toks) a0, turn_zip l1 l2 z TI TO i1 i2 a6, ⟨a7, a8, ⟨_, _, a9⟩, b1, b2⟩, fun c hc => ?_, q⟩
  have ge : s1.heap.objs.size ≤ c := by
    simp only [List.mem_cons, List.not_mem_nil, or_false] at hc
    rcases hc with rfl | rfl | rfl | rfl | rfl <;> assumption
  exact I1.fpOk ge (I1.hok.fresh ge)
end L2
set_option Elab.async false
set_option linter.all false
set_option maxRecDepth 100000
set_option maxHeartbeats 4000000
namespace L2
open PySem PySem.Spec PyProof.Rows
theorem itL {h h' : Heap} {a b t : Addr} {i : Nat} (x : h.IsListIter a t i) (e : Heap.SameBut b h h') (n : a ≠ b) : h'.IsListIter a t i := let ⟨o, ho, r⟩ := x; ⟨o, e.extBut a o n ho, r⟩
def Itzl (K : PySem.W.Frag) (a b : Addr) : It :=
  ⟨fun i H => ∃ xs ys x y, H a = some (.lst xs) ∧ H b = some (.lst ys) ∧ xs[i]? = some x ∧ ys[i]? = some y,
   fun i H v H' => ∃ T x y, H T = none ∧ v = .ref T ∧ H' = upd H T (.tup [x, y]) ∧ (∀ xs, H a = some (.lst xs) → xs[i]? = some x) ∧ ∀ ys, H b = some (.lst ys) → ys[i]? = some y,
   fun i H => ∃ xs ys, H a = some (.lst xs) ∧ H b = some (.lst ys) ∧ (xs.length ≤ i ∨ ys.length ≤ i)⟩
theorem turn_zipL {P : Program} {w : World} {K : PySem.W.Frag} {es : List Expr} {kk : Nat} {pos : Pos} (a b z TI TO i1 i2 : Addr)
    (ap : TI ≠ z ∧ TO ≠ z ∧ i1 ≠ z ∧ i2 ≠ z ∧ TI ≠ TO ∧ TI ≠ i1 ∧ TI ≠ i2 ∧ TO ≠ i1 ∧ TO ≠ i2 ∧ i1 ≠ i2) :
    Turn P w K (.Tuple es kk pos) (Itzl K a b) [z, TI, TO, i1, i2] z (fun i h => IsZip h z TI TO .none ∧ IsPair h TI (.ref i1) (.ref i2) ∧ (∃ p q, IsPair h TO p q) ∧ h.IsListIter i1 a i ∧ h.IsListIter i2 b i) where
  mem := by simp
  obj := fun i h st c hc => by
    obtain ⟨hz, hTI, ⟨p, q, hTO⟩, ⟨o1, e1, c1, d1⟩, o2, e2, c2, d2⟩ := st
    simp only [List.mem_cons, List.not_mem_nil, or_false] at hc
    rcases hc with rfl | rfl | rfl | rfl | rfl
    · exact ⟨_, hz, fun v z => by have z' : Data.fields _ = Data.cell v := z; cases z'⟩
    · exact ⟨_, hTI, fun v z => by have z' : Data.seq _ _ = Data.cell v := z; cases z'⟩
    · exact ⟨_, hTO, fun v z => by have z' : Data.seq _ _ = Data.cell v := z; cases z'⟩
    · exact ⟨o1, e1, fun v z => by rw [d1] at z; cases z⟩
    · exact ⟨o2, e2, fun v z => by rw [d2] at z; cases z⟩
  keep := fun i h h' st k => by
    obtain ⟨hz, hTI, ⟨p, q, hTO⟩, ⟨o1, e1, r1⟩, o2, e2, r2⟩ := st
    exact ⟨k z (by simp) _ hz, k TI (by simp) _ hTI, ⟨p, q, k TO (by simp) _ hTO⟩, ⟨o1, k i1 (by simp) _ e1, r1⟩, o2, k i2 (by simp) _ e2, r2⟩
  item := by
    intro X hP hw hK hc i pins s σ H E I hf st hg
    subst hP hw hK
    obtain ⟨xs, ys, x, y, ha, hb, hx, hy⟩ := hg
    obtain ⟨hz, hTI, ⟨p, q, hTO⟩, h1, h2⟩ := st
    obtain ⟨its, rv, t1, _⟩ := I.list (SqL.of ha)
    obtain ⟨its2, rv2, t2, _⟩ := I.list (SqL.of hb)
    obtain ⟨u, hu, ru⟩ := rv.get hx
    obtain ⟨u2, hu2, ru2⟩ := rv2.get hy
    obtain ⟨n1, n2, n3, n4, n5, n6, n7, n8, n9, n10⟩ := ap
    have ne : ∀ {c d : Addr} {o : HO}, H c = some o → d ∈ [z, TI, TO, i1, i2] → c ≠ d := fun e hd => ne_of_none e (hf _ hd).1
    have D : ZipApart z TI TO i1 i2 a b := ⟨n1, n2, n3, n4, n5, n6, n7, n8, n9, n10, ne ha (by simp), ne ha (by simp), ne ha (by simp), ne ha (by simp), ne hb (by simp), ne hb (by simp), ne hb (by simp), ne hb (by simp)⟩
    refine wpAny_pyNext_zip_item D hz hTI hTO h1 h2 t1.isList t2.isList (by simpa using hu) (by simpa using hu2) fun q1 hz1 hTO1 j1 j2 hT hsz hk => ⟨_, rfl, ?_⟩
    have hn : H s.heap.objs.size = none := I.fresh
    have hT1 : IsPair q1 TI (.ref i1) (.ref i2) := hk _ _ n1 n5 n6 n7 hTI
    have neT : ∀ c ∈ [z, TI, TO, i1, i2], c ≠ s.heap.objs.size := fun c hc => by
      simp only [List.mem_cons, List.not_mem_nil, or_false] at hc
      rcases hc with rfl | rfl | rfl | rfl | rfl
      · exact Nat.ne_of_lt (Heap.lt_size (show s.heap.get? _ = some _ from hz))
      · exact Nat.ne_of_lt (Heap.lt_size (show s.heap.get? _ = some _ from hTI))
      · exact Nat.ne_of_lt (Heap.lt_size (show s.heap.get? _ = some _ from hTO))
      · obtain ⟨_, e, _⟩ := h1; exact Nat.ne_of_lt (Heap.lt_size e)
      · obtain ⟨_, e, _⟩ := h2; exact Nat.ne_of_lt (Heap.lt_size e)
    have I1 : Inv X pins σ (upd H s.heap.objs.size (.tup [x, y])) { s with heap := q1, toks := s.toks } := I.turnedL (ch := [z, TO, i1, i2]) (fun c o hc e => hk c o (fun q => hc (by simp [q])) (fun q => hc (by simp [q])) (fun q => hc (by simp [q])) (fun q => hc (by simp [q])) e)
      (fun c hc => hf c (by simp at hc ⊢; rcases hc with r | r | r | r <;> simp [r])) (Nat.le_refl _) ⟨Nat.le_of_lt (small1000 (show 2 ≤ 1000 by decide)), [u, u2], .cons ru (.cons ru2 .nil), _, hT, rfl, _, rfl⟩
    refine wpAny_letOwnedTupleGo_zip (s := { s with heap := q1 }) hz1 fun q2 hz2 hs2 => ⟨.ref s.heap.objs.size, _, ?_, rfl, ⟨_, x, y, hn, rfl, rfl, fun ws e => by rw [ha] at e; cases e; exact hx, fun ws e => by rw [hb] at e; cases e; exact hy⟩, ⟨hz2, hs2.extBut _ _ n1 hT1, ⟨_, _, hs2.extBut _ _ n2 hTO1⟩, itL j1 hs2 n3, itL j2 hs2 n4⟩, fun c hc => ?_⟩
    · refine I1.turnedN (t' := s.toks) (ch := [z]) (fun c o hc e => (hs2.2 c (fun q => hc (by simp [q]))).trans e) fun c hc => ?_
      have ec := List.mem_singleton.mp hc
      subst ec
      obtain ⟨f0, f⟩ := hf c (by simp)
      exact ⟨by rw [upd_ne (neT c (by simp))]; exact f0, f⟩
    · rw [upd_ne (neT c hc)]; exact (hf c hc).1
  done := by
    intro X hP hw hK hc i pins s σ H E I hf st hg
    subst hP hw hK
    obtain ⟨xs, ys, ha, hb, hend⟩ := hg
    obtain ⟨hz, hTI, ⟨p, q, hTO⟩, h1, h2⟩ := st
    obtain ⟨its, rv, t1, _⟩ := I.list (SqL.of ha)
    obtain ⟨its2, rv2, t2, _⟩ := I.list (SqL.of hb)
    have l1 := rv.length
    have l2 := rv2.length
    obtain ⟨n1, n2, n3, n4, n5, n6, n7, n8, n9, n10⟩ := ap
    have ne : ∀ {c d : Addr} {o : HO}, H c = some o → d ∈ [z, TI, TO, i1, i2] → c ≠ d := fun e hd => ne_of_none e (hf _ hd).1
    have D : ZipApart z TI TO i1 i2 a b := ⟨n1, n2, n3, n4, n5, n6, n7, n8, n9, n10, ne ha (by simp), ne ha (by simp), ne ha (by simp), ne ha (by simp), ne hb (by simp), ne hb (by simp), ne hb (by simp), ne hb (by simp)⟩
    refine wpAny_pyNext_zip_end (I.ok.hd hc) D hz hTI hTO h1 h2 t1.isList t2.isList ?_ fun q1 hk => ⟨rfl, ?_⟩
    · rcases hend with h | h
      · exact .inl (by simp; omega)
      · exact .inr (by simp; omega)
    · exact I.turnedN (t' := s.toks) (ch := [z, TO, i1, i2]) (fun c o hc e => hk c o (fun q => hc (by simp [q])) (fun q => hc (by simp [q])) (fun q => hc (by simp [q])) (fun q => hc (by simp [q])) e) (fun c hc => hf c (by simp at hc ⊢; rcases hc with r | r | r | r <;> simp [r]))
  self := fun _ _ _ _ _ st h => wpAny_pyIter_zip st.1 h
def iZipL (K : PySem.W.Frag) (ta : TA) : TI := fun σ H R => ta σ H fun vs H1 => ∃ a b xs ys, vs = [.ref a, .ref b] ∧ H1 a = some (.lst xs) ∧ H1 b = some (.lst ys) ∧ R (Itzl K a b) H1
theorem pi_zipL {X : Cx} {es : List Expr} {k : Nat} {tpos : Pos} {a b : Expr} {ta : TA} {p pos : Pos} (hg : Gl X "zip") (hm : X.mg "zip" = none) (ha : PA X [a, b] ta) (hs : starEach [a, b] X.env = [(false, eval a X.env), (false, eval b X.env)] := by rfl) (hs2 : starEach [b] X.env = [(false, eval b X.env)] := by rfl) :
    PI X (.Tuple es k tpos) (.Call (.Name "zip" p) [a, b] [] pos) (iZipL X.K ta) := by
  intro pins s σ H R I h
  refine Call_ (ld_blt I hg hm boot_zip' (PyProof.Rows.callWith_type1 (thn (ha pos pins s σ H _ I h) fun us s1 ⟨vs, H1, I1, r1, q1⟩ => ?_) (by rw [hs, hs2]) (by rw [hs2]; rfl)))
  obtain ⟨l1, l2, xs, ys, e, h1, h2, q⟩ := q1
  subst e
  obtain ⟨u, w', rfl, ru, rw'⟩ := vals2 r1
  cases ru
  cases rw'
  obtain ⟨its, rv, t1, _⟩ := I1.list (SqL.of h1)
  obtain ⟨its2, rv2, t2, _⟩ := I1.list (SqL.of h2)
  refine call_zip_2 t1.isList t2.isList fun h' a7 a8 a9 b1 b2 hz hk => ?_
  refine wpAny_pyIter_zip a7 ⟨_, [s1.heap.objs.size + 4, s1.heap.objs.size + 2, s1.heap.objs.size + 3, s1.heap.objs.size, s1.heap.objs.size + 1], _, _, H1, rfl, I1.kept (t' := s1.toks) hk, turn_zipL l1 l2 _ _ _ _ _ ?_, ⟨a7, a8, ⟨_, _, a9⟩, b1, b2⟩, fun c hc => ?_, q⟩
  · refine ⟨?_, ?_, ?_, ?_, ?_, ?_, ?_, ?_, ?_, ?_⟩ <;> (intro e; have e' : @Eq Nat _ _ := e; omega)
  · have ge : s1.heap.objs.size ≤ c := by
      simp only [List.mem_cons, List.not_mem_nil, or_false] at hc
      rcases hc with rfl | rfl | rfl | rfl | rfl
      · exact Nat.le_add_right _ _
      · exact Nat.le_add_right _ _
      · exact Nat.le_add_right _ _
      · exact Nat.le_refl _
      · exact Nat.le_add_right _ _
    exact I1.fpOk ge (I1.hok.fresh ge)
theorem for_zipL {K : PySem.W.Frag} {a b : Addr} {xs ys : List V} {g : TG} {tb : TS} {D : Ends} {σ : L2.St} {H : Hp} (Pv : Nat → L2.St → Hp → Prop) (h0 : Pv 0 σ H) (hl : ∀ i σ H, i ≤ min xs.length ys.length → Pv i σ H → H a = some (.lst xs) ∧ H b = some (.lst ys))
    (hs : ∀ i x y T σ H, xs[i]? = some x → ys[i]? = some y → Pv i σ H → H T = none → g (.ref T) σ (upd H T (.tup [x, y])) fun σ2 H2 => tb { D with nx := Pv (i + 1), ct := Pv (i + 1), bk := D.nx } σ2 H2) (hd : ∀ σ H, Pv (min xs.length ys.length) σ H → D.nx σ H) :
    ∃ W : Nat → Nat → L2.St → Hp → Prop, (∃ m, W 0 m σ H) ∧ ∀ i m σ H, W i m σ H →
      ((Itzl K a b).stop i H ∧ D.nx σ H) ∨ ((Itzl K a b).go i H ∧ ∃ N : L2.St → Hp → Prop, (∀ σ' H', N σ' H' → ∃ m', m' < m ∧ W (i + 1) m' σ' H') ∧ ∀ x H', (Itzl K a b).yld i H x H' → g x σ H' fun σ2 H2 => tb { D with nx := N, ct := N, bk := D.nx } σ2 H2) := by
  refine ⟨fun i m σ H => m = min xs.length ys.length - i ∧ i ≤ min xs.length ys.length ∧ Pv i σ H, ⟨min xs.length ys.length, by simp, Nat.zero_le _, h0⟩, ?_⟩
  rintro i m σ H ⟨rfl, hi, p⟩
  obtain ⟨ha, hb⟩ := hl i σ H hi p
  by_cases hlt : i < min xs.length ys.length
  · have hx : i < xs.length := by omega
    have hy : i < ys.length := by omega
    refine .inr ⟨⟨xs, ys, xs[i], ys[i], ha, hb, by simp [hx], by simp [hy]⟩, Pv (i + 1), fun σ' H' p' => ⟨min xs.length ys.length - (i + 1), by omega, rfl, hlt, p'⟩, fun x H' y => ?_⟩
    obtain ⟨T, u, v, hT, ex, eH, e1, e2⟩ := y
    subst ex eH
    exact hs i u v T σ H (e1 xs ha) (e2 ys hb) p hT
  · have e : i = min xs.length ys.length := by omega
    subst e
    exact .inl ⟨⟨xs, ys, ha, hb, by omega⟩, hd σ H p⟩
theorem comp_zipR {a b : Addr} {xs ys : List V} {acc : Addr} {g : TG} {tt : TT} {te : TE} {σ : L2.St} {H : Hp} {R : Hp → Prop} (Pv : Nat → Hp → Prop) (h0 : Pv 0 (upd H acc (.lst []))) (hl : ∀ i H, i ≤ min xs.length ys.length → Pv i H → H a = some (.tup xs) ∧ H b = some (.tup ys))
    (hs : ∀ i x y T H, xs[i]? = some x → ys[i]? = some y → Pv i H → H T = none → g (.ref T) σ (upd H T (.tup [x, y])) fun σ2 H4 => Ext σ σ2 ∧ tt σ2 H4 fun b H5 =>
      if b = true then te σ2 H5 fun y H6 => ∃ zs, H6 acc = some (.lst zs) ∧ zs.length < sizeLine ∧ Pv (i + 1) (upd H6 acc (.lst (zs ++ [y]))) else Pv (i + 1) H5) (hd : ∀ H, Pv (min xs.length ys.length) H → R H) :
    ∃ W : Nat → Nat → Hp → Prop, (∃ m, W 0 m (upd H acc (.lst []))) ∧ ∀ i m H2, W i m H2 →
      ((Itz a b).stop i H2 ∧ R H2) ∨ ((Itz a b).go i H2 ∧ ∃ N : Hp → Prop, (∀ H', N H' → ∃ m', m' < m ∧ W (i + 1) m' H') ∧ ∀ x H3, (Itz a b).yld i H2 x H3 → g x σ H3 fun σ2 H4 => Ext σ σ2 ∧ tt σ2 H4 fun b H5 =>
        if b = true then te σ2 H5 fun y H6 => ∃ zs, H6 acc = some (.lst zs) ∧ zs.length < sizeLine ∧ N (upd H6 acc (.lst (zs ++ [y])))
        else N H5) := by
  refine ⟨fun i m H => m = min xs.length ys.length - i ∧ i ≤ min xs.length ys.length ∧ Pv i H, ⟨min xs.length ys.length, by simp, Nat.zero_le _, h0⟩, ?_⟩
  rintro i m H2 ⟨rfl, hi, p⟩
  obtain ⟨ha, hb⟩ := hl i H2 hi p
  by_cases hlt : i < min xs.length ys.length
  · have hx : i < xs.length := by omega
    have hy : i < ys.length := by omega
    refine .inr ⟨⟨xs, ys, xs[i], ys[i], ha, hb, by simp [hx], by simp [hy]⟩, Pv (i + 1), fun H' p' => ⟨min xs.length ys.length - (i + 1), by omega, rfl, hlt, p'⟩, fun x H' y => ?_⟩
    obtain ⟨T, u, v, hT, ex, eH, e1, e2⟩ := y
    subst ex eH
    exact hs i u v T H2 (e1 xs ha) (e2 ys hb) p hT
  · have e : i = min xs.length ys.length := by omega
    subst e
    exact .inl ⟨⟨xs, ys, ha, hb, by omega⟩, hd H2 p⟩
theorem relKey {k : Key} {u : Value} (h : keyIs k u = true) : RelV (kV k) u := by
  rcases keyIs_shape h with ⟨i, t, rfl, rfl⟩ | ⟨x, t, rfl, rfl⟩
  · exact ⟨t, rfl⟩
  · exact ⟨t, rfl⟩
theorem kv_get : ∀ {kvs : List (Key × V)} {vs : List (Key × Value)} {i : Nat} {p : Key × V}, KV kvs vs → kvs[i]? = some p → ∃ v, vs[i]? = some (p.1, v)
  | _, _, _, _, .nil, e => by simp at e
  | _, _, 0, p, @Paired.cons _ _ _ a b _ _ r _, e => by
    have e' : a = p := by simpa using e
    subst e'
    exact ⟨b.2, by rw [r.1]; rfl⟩
  | _, _, i + 1, p, .cons _ t, e => by
    obtain ⟨v, h⟩ := kv_get (i := i) (p := p) t (by simpa using e)
    exact ⟨v, by simpa using h⟩
def Itd (o : Obj) (a : Addr) (kvs : List (Key × V)) : It :=
  ⟨fun i H => H a = some (.frz o (.dK kvs)) ∧ i < kvs.length, fun i H x H' => H' = H ∧ ∃ p, kvs[i]? = some p ∧ x = kV p.1, fun i H => H a = some (.frz o (.dK kvs)) ∧ kvs.length ≤ i⟩
theorem frz_at {X : Cx} {pins : List (Addr × Obj)} {σ : L2.St} {H : Hp} {s : Shared} {a : Addr} {o : Obj} {kvs : List (Key × V)} {es : Array DictEntry} {ep : Nat} (I : Inv X pins σ H s) (ha : H a = some (.frz o (.dK kvs))) (hd : o.data = .dict es ep) :
    ∃ vs, KV kvs vs ∧ kvs.length = vs.length ∧ s.heap.DictAt (mixKind X.prog X.w) a vs ep := by
  obtain ⟨e, z, sy, vs, r, o', es', ep', h1, c1, d1, rest⟩ := (show ObjOk X.prog X.w H s.heap a (.frz o (.dK kvs)) from I.hok a _ ha)
  rw [e] at h1
  cases h1
  rw [hd] at d1
  cases d1
  exact ⟨vs, r, Paired.length r, o, es, e, c1, hd, rest⟩
theorem turn_dict {P : Program} {w : World} {K : PySem.W.Frag} {tg : Expr} (a it : Addr) (o : Obj) (kvs : List (Key × V)) : Turn P w K tg (Itd o a kvs) [it] it (fun i h => ∃ es ep, o.data = .dict es ep ∧ h.IsKeyIter it a i kvs.length ep) where
  mem := by simp
  obj := fun i h st b hb => by
    have e : b = it := by simpa using hb
    subst e
    obtain ⟨_, _, _, ob, e, c, d⟩ := st
    exact ⟨ob, e, fun v z => by rw [d] at z; cases z⟩
  keep := fun i h h' st k => by
    obtain ⟨es, ep, hd, ob, e, r⟩ := st
    exact ⟨es, ep, hd, ob, k it (by simp) ob e, r⟩
  item := by
    intro X hP hw hK hc i pins s σ H E I hf st hg
    subst hP hw hK
    obtain ⟨ha, hi⟩ := hg
    obtain ⟨es, ep, hd, hit⟩ := st
    obtain ⟨vs, r, hl, hm⟩ := frz_at I ha hd
    obtain ⟨v, hv⟩ := kv_get r (List.getElem?_eq_getElem hi)
    obtain ⟨f0, f1, f2, f3, f4, f5⟩ := hf it (by simp)
    rw [hl] at hit
    refine wpAny_pyNext_dict_item hit hm hv fun key h' hk hit' sb => ?_
    have I1 : Inv X pins σ H { s with heap := h' } := I.turned (t' := s.toks) (fun b o hb e => (sb.2 b hb).trans e) f0 f1 f3 f4 f5
    obtain ⟨ob, e, c, d⟩ := id hit'
    rw [← hl] at hit'
    exact ⟨key, rfl, go_of (s := { s with heap := h' }) e c d (by decide) ⟨_, H, I1, relKey hk, ⟨rfl, _, List.getElem?_eq_getElem hi, rfl⟩, ⟨es, ep, hd, hit'⟩, fun b hb => (hf b hb).1⟩⟩
  done := by
    intro X hP hw hK hc i pins s σ H E I hf st hg
    subst hP hw hK
    obtain ⟨ha, hi⟩ := hg
    obtain ⟨es, ep, hd, hit⟩ := st
    obtain ⟨vs, r, hl, hm⟩ := frz_at I ha hd
    obtain ⟨f0, f1, f2, f3, f4, f5⟩ := hf it (by simp)
    rw [hl] at hit
    exact wpAny_pyNext_dict_end (I.ok.hd hc) hit hm (List.getElem?_eq_none (by omega)) fun h' eb => ⟨rfl, I.turned (t' := s.toks) (fun b o hb e => eb b o hb e) f0 f1 f3 f4 f5⟩
  self := fun A i s Q E st h => by
    obtain ⟨es, ep, hd, hit⟩ := st
    refine wpAny_pyIter_slot hit.typeIs F.slot_dict_keyiterator_iter (wpAny_call_entry F.slot_dict_keyiterator_iter hit.typeIs F.entry_dict_keyiterator_iter ?_ (F.args_dict_keyiterator_iter_1 _))
    show wpAny _ _ (ret (.ref it)) _ _ s
    exact wpAny_pure ⟨_, rfl, "dict_keyiterator", _, hit.typeIs, F.slot_dict_keyiterator_next.lookup, h⟩
def iDict (tl : TE) : TI := fun σ H R => tl σ H fun x H1 => ∃ a kvs, x = .ref a ∧ ((∃ o, H1 a = some (.frz o (.dK kvs)) ∧ R (Itd o a kvs) H1) ∨ (H1 a = some (.dK kvs) ∧ ∀ o, R (Itd o a kvs) (upd H1 a (.frz o (.dK kvs)))))
theorem pi_dict {X : Cx} {tg l : Expr} {tl : TE} (hl : PE X l tl) : PI X tg l (iDict tl) := by
  intro pins s σ H R I h
  refine thn (hl pins s σ H _ I h) fun v s1 ⟨x, H1, I1, r1, q1⟩ => ?_
  obtain ⟨a, kvs, e, q⟩ := q1
  subst e
  cases r1
  rcases q with ⟨o, ha, q⟩ | ⟨ha, q⟩
  · obtain ⟨e, z, sy, vs, r, o', es', ep', h1, c1, d1, rest⟩ := (show ObjOk X.prog X.w H1 s1.heap a (.frz o (.dK kvs)) from I1.hok a _ ha)
    rw [e] at h1
    cases h1
    refine wpAny_pyIter_dict (knd := mixKind X.prog X.w) (kvs := vs) (ep := ep') sy ⟨o, es', e, c1, d1, rest⟩ ?_
    refine ⟨s1.heap.objs.size, [s1.heap.objs.size], _, _, H1, rfl, I1.kept (t' := s1.toks) fun b o e => Heap.get?_push_of_some _ e, turn_dict a _ o kvs, ⟨es', ep', d1, _, Heap.get?_push_size _ rfl, rfl, by rw [Paired.length r]; rfl⟩, fun b hb => ?_, q⟩
    have e : b = s1.heap.objs.size := by simpa using hb
    subst e
    exact I1.fpOk (Nat.le_refl _) (I1.hok.fresh (Nat.le_refl _))
  · obtain ⟨z, sy, vs, r, o, es', ep', e, c1, d1, rest⟩ := (show ObjOk X.prog X.w H1 s1.heap a (.dK kvs) from I1.hok a _ ha)
    refine wpAny_pyIter_dict (knd := mixKind X.prog X.w) (kvs := vs) (ep := ep') sy ⟨o, es', e, c1, d1, rest⟩ ?_
    have lt := Heap.lt_size e
    refine ⟨s1.heap.objs.size, [s1.heap.objs.size], _, _, upd H1 a (.frz o (.dK kvs)), rfl, I1.write (t' := s1.toks) (x := a) (e := a) (by rw [ha]; exact True.intro) (.inl rfl) (fun b o _ e => Heap.get?_push_of_some _ e) ⟨o, Heap.get?_push_of_some _ e⟩ ?_, turn_dict a _ o kvs, ⟨es', ep', d1, _, Heap.get?_push_size _ rfl, rfl, by rw [Paired.length r]; rfl⟩, fun b hb => ?_, q o⟩
    · exact ⟨Heap.get?_push_of_some _ e, z, sy, vs, r, o, es', ep', Heap.get?_push_of_some _ e, c1, d1, rest⟩
    · have e : b = s1.heap.objs.size := by simpa using hb
      subst e
      exact I1.fpOk (Nat.le_refl _) (by rw [upd_ne (Nat.ne_of_gt lt)]; exact I1.hok.fresh (Nat.le_refl _))
theorem for_dict {o : Obj} {a : Addr} {kvs : List (Key × V)} {g : TG} {tb : TS} {D : Ends} {σ : L2.St} {H : Hp} (Pv : Nat → L2.St → Hp → Prop) (h0 : Pv 0 σ H) (hl : ∀ i σ H, i ≤ kvs.length → Pv i σ H → H a = some (.frz o (.dK kvs)))
    (hs : ∀ i p σ H, kvs[i]? = some p → Pv i σ H → g (kV p.1) σ H fun σ2 H2 => tb { D with nx := Pv (i + 1), ct := Pv (i + 1), bk := D.nx } σ2 H2) (hd : ∀ σ H, Pv kvs.length σ H → D.nx σ H) :
    ∃ W : Nat → Nat → L2.St → Hp → Prop, (∃ m, W 0 m σ H) ∧ ∀ i m σ H, W i m σ H →
      ((Itd o a kvs).stop i H ∧ D.nx σ H) ∨ ((Itd o a kvs).go i H ∧ ∃ N : L2.St → Hp → Prop, (∀ σ' H', N σ' H' → ∃ m', m' < m ∧ W (i + 1) m' σ' H') ∧ ∀ x H', (Itd o a kvs).yld i H x H' → g x σ H' fun σ2 H2 => tb { D with nx := N, ct := N, bk := D.nx } σ2 H2) := by
  refine ⟨fun i m σ H => m = kvs.length - i ∧ i ≤ kvs.length ∧ Pv i σ H, ⟨kvs.length, by simp, Nat.zero_le _, h0⟩, ?_⟩
  rintro i m σ H ⟨rfl, hi, p⟩
  have q := hl i σ H hi p
  by_cases hlt : i < kvs.length
  · refine .inr ⟨⟨q, hlt⟩, Pv (i + 1), fun σ' H' p' => ⟨kvs.length - (i + 1), by omega, rfl, hlt, p'⟩, fun x H' y => ?_⟩
    obtain ⟨e, p', hp', ex⟩ := y
    subst e ex
    exact hs i p' σ _ hp' p
  · have e : i = kvs.length := by omega
    subst e
    exact .inl ⟨⟨q, Nat.le_refl _⟩, hd σ H p⟩
end L2
set_option Elab.async false
set_option linter.all false
set_option maxRecDepth 100000
set_option maxHeartbeats 4000000
namespace L2
open PySem PySem.Spec PyProof.Rows
theorem comp_tupR {K : PySem.W.Frag} {a : Addr} {xs : List V} {acc : Addr} {g : TG} {tt : TT} {te : TE} {σ : L2.St} {H : Hp} {R : Hp → Prop} (Pv : Nat → Hp → Prop) (h0 : Pv 0 (upd H acc (.lst []))) (hl : ∀ i H, i ≤ xs.length → Pv i H → SqT K H a xs)
    (hs : ∀ i x H, xs[i]? = some x → Pv i H → g x σ H fun σ2 H4 => Ext σ σ2 ∧ tt σ2 H4 fun b H5 =>
      if b = true then te σ2 H5 fun y H6 => ∃ zs, H6 acc = some (.lst zs) ∧ zs.length < sizeLine ∧ Pv (i + 1) (upd H6 acc (.lst (zs ++ [y]))) else Pv (i + 1) H5) (hd : ∀ H, Pv xs.length H → R H) :
    ∃ W : Nat → Nat → Hp → Prop, (∃ m, W 0 m (upd H acc (.lst []))) ∧ ∀ i m H2, W i m H2 →
      ((Itt K a).stop i H2 ∧ R H2) ∨ ((Itt K a).go i H2 ∧ ∃ N : Hp → Prop, (∀ H', N H' → ∃ m', m' < m ∧ W (i + 1) m' H') ∧ ∀ x H3, (Itt K a).yld i H2 x H3 → g x σ H3 fun σ2 H4 => Ext σ σ2 ∧ tt σ2 H4 fun b H5 =>
        if b = true then te σ2 H5 fun y H6 => ∃ zs, H6 acc = some (.lst zs) ∧ zs.length < sizeLine ∧ N (upd H6 acc (.lst (zs ++ [y])))
        else N H5) := by
  refine ⟨fun i m H => m = xs.length - i ∧ i ≤ xs.length ∧ Pv i H, ⟨xs.length, by simp, Nat.zero_le _, h0⟩, ?_⟩
  rintro i m H2 ⟨rfl, hi, p⟩
  have q := hl i H2 hi p
  by_cases hlt : i < xs.length
  · refine .inr ⟨⟨xs, xs[i], q, by simp [hlt]⟩, Pv (i + 1), fun H' p' => ⟨xs.length - (i + 1), by omega, rfl, hlt, p'⟩, fun x H' y => ?_⟩
    obtain ⟨e, y⟩ := y
    subst e
    exact hs i x _ (y xs q) p
  · have e : i = xs.length := by omega
    subst e
    exact .inl ⟨⟨xs, q, Nat.le_refl _⟩, hd H2 p⟩
theorem paired_getP {α β : Type} {F : α → β → Prop} : ∀ {as : List α} {us : List β} {i : Nat} {u : β}, Paired F as us → us[i]? = some u → ∃ a, as[i]? = some a ∧ F a u
  | _, _, _, _, .nil, e => by simp at e
  | _, _, 0, _, .cons r _, e => by simp at e; subst e; exact ⟨_, rfl, r⟩
  | _, _, i + 1, u, .cons _ t, e => by
    obtain ⟨a, h1, h2⟩ := paired_getP (i := i) (u := u) t (by simpa using e)
    exact ⟨a, by simpa using h1, h2⟩
theorem paired_appP {α β : Type} {F : α → β → Prop} : ∀ {as bs : List α} {us vs : List β}, Paired F as us → Paired F bs vs → Paired F (as ++ bs) (us ++ vs)
  | _, _, _, _, .nil, h => h
  | _, _, _, _, .cons r t, h => .cons r (paired_appP t h)
theorem nodup_at {α : Type} : ∀ {l : List α}, l.Nodup → ∀ {i j : Nat} {a : α}, l[i]? = some a → l[j]? = some a → i = j
  | [], _, i, j, a, h, _ => by simp at h
  | x :: l, nd, 0, 0, a, _, _ => rfl
  | x :: l, nd, 0, j + 1, a, h1, h2 => by
    rw [List.nodup_cons] at nd
    have e : x = a := by simpa using h1
    exact absurd (e ▸ List.mem_of_getElem? (show l[j]? = some a by simpa using h2)) nd.1
  | x :: l, nd, i + 1, 0, a, h1, h2 => by
    rw [List.nodup_cons] at nd
    have e : x = a := by simpa using h2
    exact absurd (e ▸ List.mem_of_getElem? (show l[i]? = some a by simpa using h1)) nd.1
  | x :: l, nd, i + 1, j + 1, a, h1, h2 => by
    rw [List.nodup_cons] at nd
    rw [nodup_at nd.2 (i := i) (j := j) (a := a) (by simpa using h1) (by simpa using h2)]
theorem val_at : ∀ {kvs : List (Key × V)}, (kvs.map (·.1)).Nodup → ∀ {i : Nat} {p : Key × V}, kvs[i]? = some p → valV kvs p.1 = some p.2
  | [], _, i, p, h => by simp at h
  | a :: kvs, nd, 0, p, h => by
    have e : a = p := by simpa using h
    subst e
    exact valV_pos rfl
  | a :: kvs, nd, i + 1, p, h => by
    have h' : kvs[i]? = some p := by simpa using h
    rw [List.map_cons, List.nodup_cons] at nd
    have ne : ¬ a.1 = p.1 := fun z => nd.1 (by rw [z]; exact List.mem_map_of_mem (List.mem_of_getElem? h'))
    rw [valV_neg ne]
    exact val_at nd.2 h'
theorem pg_tupK {X : Cx} {K : PySem.W.Frag} {es : List Expr} {k : Nat} {t : TGs} {n : Nat} {pos : Pos} (hK : X.K = K) (hc : X.calm = true) (h : PGs X es t)
    (hn : (assignEach es X.env).length = n := by rfl) (hst : (assignEach es X.env).findIdx? (·.1) = none := by rfl) : PG X (.Tuple es k pos) (gTup K n t) := hK ▸ pg_tup hc h hn hst
section
variable {X : Cx}
theorem boot_sum' : bootBuiltins "sum" = some (.builtin "sum") := by decide +kernel
theorem call_sumL (hc : X.calm = true) : CallR X (.builtin "sum") (fun xs H Q => ∃ (l : Addr) (ns : List Int), xs = [.ref l] ∧ H l = some (.lst (ns.map V.int)) ∧ Q (.int ns.sum) H) := by
  intro pins s σ H xs us Q I r h
  obtain ⟨l, ns, rfl, hl, q⟩ := h
  obtain ⟨u, rfl, ru⟩ := vals1 r
  cases ru
  obtain ⟨_, its, n, rv, le, e⟩ := I.lstM hl
  have L1 : s.heap.IsList l its.toArray := ⟨_, e, rfl, _, rfl⟩
  have hi := ints_back rv
  obtain ⟨xs, hx⟩ := hi.allInts.items
  have hl' : s.heap.IsList l (intItems xs) := hx ▸ L1
  refine sum_intListG (I.ok.hd hc) hl' fun h' tk t' hk => ?_
  have e1 : ns = xs.toList.map (·.1) := by
    rw [← nums_intItems, ← hx]
    exact (show numsOf its.toArray.toList = ns from hi.numsOf).symm
  have e2 : preSum (numAt xs) xs.size = ns.sum := by
    rw [preSum_eq, List.take_of_length_le (by simp), e1]
  rw [e2]
  exact ⟨.int ns.sum, H, I.kept hk, ⟨_, rfl⟩, q⟩
theorem bools_back : ∀ {bs : List Bool} {us : List Value}, Vals (bs.map V.bl) us → LSm.BoolsAre us bs
  | [], _, h => by cases h; exact .nil
  | b :: bs, _, h => by
    cases h with
    | cons r t =>
      cases r
      exact .cons b (bools_back t)
theorem call_allL (hc : X.calm = true) : CallR X (.builtin "all") (fun xs H Q => ∃ (l : Addr) (bs : List Bool), xs = [.ref l] ∧ H l = some (.lst (bs.map V.bl)) ∧ Q (.bl (bs.all id)) H) := by
  intro pins s σ H xs us Q I r h
  obtain ⟨l, bs, rfl, hl, q⟩ := h
  obtain ⟨u, rfl, ru⟩ := vals1 r
  cases ru
  obtain ⟨_, its, n, rv, le, e⟩ := I.lstM hl
  have L1 : s.heap.IsList l its.toArray := ⟨_, e, rfl, _, rfl⟩
  have hb := bools_back rv
  have hlt : l < s.heap.objs.size := Heap.lt_size e
  refine call_all_walk (wpAny_pyIter_list L1 ?_)
  refine ⟨s.heap.objs.size, [s.heap.objs.size, l], [s.heap.objs.size], its.toArray.size, _, _, fun i => (bs[i]?).getD true, rfl, Walks.list (A := X.A.in1) (I.ok.hd hc) _ l (Nat.ne_of_lt hlt) its.toArray,
    ⟨⟨_, Heap.get?_push_size _ rfl, rfl, rfl⟩, L1.push _⟩, fun i v s' Q' E' hP hQ => ?_, fun h' tk hk => ?_⟩
  · obtain ⟨b, e, rfl⟩ := hb.get i v (by simpa using hP)
    simp only [e, Option.getD_some] at hQ
    exact wpAny_truthy_bool hQ
  · have e : ((List.range its.toArray.size).all fun i => (bs[i]?).getD true) = bs.all id := by
      rw [List.size_toArray, hb.length]; exact LSm.range_all bs
    rw [e]
    exact ⟨.bl (bs.all id), H, I.kept (LSm.kept_iter hk), rfl, q⟩
theorem bits500 {k : Int} (h : k.natAbs < 2 ^ 500) : Builtin.Int.intBits k ≤ 500 := by
  unfold Builtin.Int.intBits
  split
  · exact Nat.zero_le _
  · have : k.natAbs.log2 < 500 := by
      rcases Nat.eq_zero_or_pos k.natAbs with h0 | hp
      · rw [h0]; decide
      · exact (Nat.log2_lt (Nat.ne_of_gt hp)).mpr h
    omega
def CMulC (i j : Int) : Prop := i.natAbs < 2 ^ 500 ∧ j.natAbs < 2 ^ 500
theorem op_mulC : OpR X (binaryOp .Mult) (rI CMulC fun i j => .int (i * j)) := opI fun _ _ _ _ _ _ _ hc q => mul_int q (IntMulOk.of_le (bits500 hc.1) (bits500 hc.2) (by decide))
theorem op_inD (hu : X.A.units + 1 < cLine) : OpR X (compareOp .In) (fun x y H Q => ∃ (a : Addr) (o : Option V), y = .ref a ∧ DGet H a x o ∧ Q (.bl o.isSome) H) := by
  intro pins s σ H x y v u Q I rx ry h
  obtain ⟨a, o, rfl, g, q⟩ := h
  cases ry
  exact d_in hu I g rx fun s' I' => ⟨.bl o.isSome, H, I', rfl, q⟩
structure KDic (K : PySem.W.Frag) (P : Params) (d : Addr) : Prop where
  ex : ∃ (es : Array DictEntry) (n : Nat), K.lookup d = some ⟨.type "dict", none, .dict es n, #[]⟩ ∧ PySem.W.KeysLit P es.toList
  sy : (d == sysModules) = false
def rNotInK (d : Addr) : R2 := fun x y H Q => ∃ (z : Str) (r : Option Value), x = .str z ∧ y = .ref d ∧ PySem.W.nsIn X.K d z = some r ∧ Q (.bl (!r.isSome)) H
theorem op_notInK {d : Addr} (k : KDic X.K X.w.params d) : OpR X (compareOp .NotIn) (rNotInK (X := X) d) := by
  intro pins s σ H x y v u Q I rx ry h
  obtain ⟨z, r, rfl, rfl, e, q⟩ := h
  obtain ⟨t, rfl⟩ := rx
  cases ry
  obtain ⟨es, n, hl, hk⟩ := k.ex
  have hm := PySem.W.mapOf_K (prog := X.prog) (w := X.w) I.kIn hl hk
  refine wpAny_notIn_of (strKind_is X.prog X.w z t) k.sy hm ?_
  rw [PySem.W.find_K hl e]
  exact ⟨.bl (!r.isSome), H, I.tok _, rfl, q⟩
def rIxK (d : Addr) : R2 := fun x y H Q => ∃ (z : Str) (r : Value) (v : V), x = .ref d ∧ y = .str z ∧ PySem.W.nsIn X.K d z = some (some r) ∧ RelV v r ∧ Q v H
theorem ix_kd {d : Addr} (k : KDic X.K X.w.params d) : IxR X (rIxK (X := X) d) := by
  intro value slice pins s σ H x y v u Q I rx ry h hs
  obtain ⟨z, r, vv, rfl, rfl, e, rv, q⟩ := h
  cases rx
  obtain ⟨t, rfl⟩ := ry
  obtain ⟨es, n, hl, hk⟩ := k.ex
  have hm := PySem.W.mapOf_K (prog := X.prog) (w := X.w) I.kIn hl hk
  exact tail_any hm.typeIs slot_dict_getitem.lookup (wpAny_getItem_of (strKind_is X.prog X.w z t) hm (PySem.W.find_K hl e) ⟨vv, H, I.tok _, rv, q⟩) hs
theorem hits_same {A : Around} {s : Shared} {kb : List (Key × V)} {vb : List (Key × Value)} (rb : KV kb vb) : ∀ {ka : List (Key × V)} {va : List (Key × Value)}, KV ka va → (∀ p ∈ ka, valV kb p.1 = some p.2) → (∀ p ∈ ka, ∃ b, p.2 = V.ref b) → PySem.W.KeqHits A s vb va true
  | [], _, r, _, _ => by
    cases r
    exact .nil
  | (k, x) :: ka, _, r, f, fr => by
    cases r with
    | @cons _ q _ qs h t =>
      obtain ⟨k', v⟩ := q
      obtain ⟨hk, hv⟩ := h
      dsimp only at hk hv
      subst hk
      have ih := hits_same (A := A) (s := s) rb t (fun p hp => f p (List.mem_cons_of_mem _ hp)) fun p hp => fr p (List.mem_cons_of_mem _ hp)
      have ro := rb.val k
      rw [f _ List.mem_cons_self] at ro
      obtain ⟨b, eb⟩ := fr _ List.mem_cons_self
      dsimp only at eb
      subst eb
      cases e3 : valueAt vb k with
      | none => rw [e3] at ro; exact (show False from ro).elim
      | some z =>
        rw [e3] at ro
        cases hv
        have ez : z = .ref b := ro
        subst ez
        exact .hit (e := true) e3 (SeqAt.EqAt.same _) ih
theorem op_neDs (hu : X.A.units < cLine) : OpR X (compareOp .NotEq) (fun x y H Q => ∃ (a b : Addr) (ka : List (Key × V)), x = .ref a ∧ y = .ref b ∧ Rd H a (.dK ka) ∧ Rd H b (.dK ka) ∧ (∀ p ∈ ka, valV ka p.1 = some p.2) ∧ (∀ p ∈ ka, ∃ b, p.2 = V.ref b) ∧ Q (.bl false) H) := by
  intro pins s σ H x y v u Q I rx ry h
  obtain ⟨a, b, ka, rfl, rfl, ha, hb, f, fr, q⟩ := h
  cases rx
  cases ry
  obtain ⟨z1, sa, va, ra, da⟩ := dk_rd I.hok ha
  obtain ⟨z2, sb, vb, rb, db⟩ := dk_rd I.hok hb
  refine PySem.W.keq_ne sa sb da db hu (fun _ => hits_same rb ra f fr) ?_
  have e : (va.length == vb.length) = true := by rw [← Paired.length ra, ← Paired.length rb]; exact beq_self_eq_true _
  rw [e]
  exact ⟨.bl false, H, I, rfl, q⟩
theorem call_isiD : CallR X (.builtin "isinstance") (fun xs H Q => ∃ (a : Addr) (kvs : List (Key × V)) (T : String) (b : Bool), xs = [.ref a, .ty T] ∧ Rd H a (.dK kvs) ∧ PySem.W.kitOne X.K (.type "dict") (.type T) = some b ∧ Q (.bl b) H) := by
  intro pins s σ H xs us Q I r h
  obtain ⟨a, kvs, T, b, rfl, e, hk, q⟩ := h
  obtain ⟨u, w', rfl, ru, rw'⟩ := vals2 r
  cases ru
  cases rw'
  obtain ⟨_, _, vs, _, o, es, ep, h1, h2, _⟩ := dk_rd I.hok e
  exact PySem.W.kia_one PySem.W.kitx_dict I.kIn ⟨o, h1, h2.1⟩ hk (fun z => nomatch z) fun tk => ⟨.bl b, H, I.tok tk, rfl, q⟩
theorem op_eqE (hu : X.A.units < cLine) : OpR X (compareOp .Eq) (fun x y H Q => ∃ (a b : Addr) (xs : List V), x = .ref a ∧ y = .ref b ∧ H a = some (.tup xs) ∧ H b = some (.tup []) ∧ Q (.bl (xs.length == 0)) H) := by
  intro pins s σ H x y v u Q I rx ry h
  obtain ⟨a, b, xs, rfl, rfl, ha, hb, q⟩ := h
  cases rx
  cases ry
  obtain ⟨its, rv, p, _⟩ := I.tuple (SqT.of ha)
  obtain ⟨its2, rv2, p2, _⟩ := I.tuple (SqT.of hb)
  have l1 := rv.length
  have l2 := rv2.length
  have z2 : its2.toArray.size = 0 := by rw [List.size_toArray]; exact l2.symm
  refine SeqAt.eq_tupleAt (e := fun _ => true) (show s.heap.IsTuple a its.toArray from p) (show s.heap.IsTuple b its2.toArray from p2) hu (fun j _ h2 => absurd h2 (by omega)) ?_
  have e : ((List.range (min its.toArray.size its2.toArray.size)).all (fun _ => true) && its.toArray.size == its2.toArray.size) = (xs.length == 0) := by
    rw [z2, List.size_toArray, ← l1]
    simp
  rw [e]
  exact ⟨.bl (xs.length == 0), H, I, rfl, q⟩
theorem op_eqLE (hu : X.A.units < cLine) : OpR X (compareOp .Eq) (fun x y H Q => ∃ (a b : Addr) (xs : List V), x = .ref a ∧ y = .ref b ∧ H a = some (.lst xs) ∧ H b = some (.lst []) ∧ Q (.bl (xs.length == 0)) H) := by
  intro pins s σ H x y v u Q I rx ry h
  obtain ⟨a, b, xs, rfl, rfl, ha, hb, q⟩ := h
  cases rx
  cases ry
  obtain ⟨_, its, n, r1, l1, e1⟩ := I.lstM ha
  obtain ⟨_, its2, n2, r2, l2, e2⟩ := I.lstM hb
  have L1 : s.heap.IsList a its.toArray := ⟨_, e1, rfl, _, rfl⟩
  have L2 : s.heap.IsList b its2.toArray := ⟨_, e2, rfl, _, rfl⟩
  have z2 : its2.toArray.size = 0 := by rw [List.size_toArray]; exact l2.symm
  by_cases hl : xs.length = 0
  · refine SeqAt.eq_listAt (e := fun _ => true) L1 L2 (by rw [z2, List.size_toArray]; omega) hu (fun j _ h2 => absurd h2 (by omega)) ?_
    have e : (List.range its.toArray.size).all (fun _ => true) = (xs.length == 0) := by rw [hl]; simp
    rw [e]
    exact ⟨.bl (xs.length == 0), H, I, rfl, q⟩
  · refine SeqAt.eq_list_lengthsAt L1 L2 (by rw [z2, List.size_toArray, bne_iff_ne]; omega) hu ⟨.bl false, H, I, rfl, ?_⟩
    have e : (xs.length == 0) = false := by simpa using hl
    rw [e] at q
    exact q
def rSlW : V → Option Int → Option Int → Hp → VK → Prop := fun x lo hi H Q => ∃ a xs, x = .ref a ∧ H a = some (.tup xs) ∧ ∀ p H', Same H H' → H' p = some (.tup (cutV xs lo hi)) → Q (.ref p) H'
end
structure Sd (p : Prop) : Prop where
  un : p
section
variable {X : Cx} {st : Stmt} {rest : List Stmt} {t u : TS} {e a b : Expr} {es : List Expr} {te ta tb : TE} {tA : TA} {pos : Pos}
theorem pss_consS (h1 : Sd (PS X st t)) (h2 : Sd (PSs X rest u)) : Sd (PSs X (st :: rest) (tSeq t u)) := ⟨pss_cons h1.un h2.un⟩
theorem pss_oneS (h1 : Sd (PS X st t)) : Sd (PSs X [st] t) := ⟨pss_one h1.un⟩
theorem ps_ifS {c : Expr} {x y : List Stmt} {tc : TT} (hc : Sd (PT X c tc)) (ha : Sd (PSs X x t)) (hb : Sd (PSs X y u)) : Sd (PS X (.If c x y pos) (tIfS tc t u)) := ⟨ps_if hc.un ha.un hb.un⟩
theorem ps_retS (he : Sd (PE X e te)) : Sd (PS X (.Return (some e) pos) (tRet te)) := ⟨ps_ret he.un⟩
theorem ps_setS {i : Nat} {x : Str} {pos' : Pos} (hN : X.N.Nodup) (hi : X.N[i]? = some x) (hx : Loc X.env.scope x) (he : Sd (PE X e te)) (hs : swapsWith e (some (.Name x pos')) pos.line X.env = pure false := by rfl) (hf : X.fn x = true ∨ X.env.scope.names.lookup x = some .local := by first | exact .inl rfl | exact .inr rfl | assumption) :
    Sd (PS X (.Assign [.Name x pos'] e pos) (tAsg te (gName i))) := ⟨ps_set hN hi hx he.un hs hf⟩
theorem pe_tupS {k : Nat} (h : Sd (PA X es tA)) : Sd (PE X (.Tuple es k pos) (tTup tA)) := ⟨pe_tup h.un⟩
theorem pe_lstS (h : Sd (PA X es tA)) : Sd (PE X (.List es pos) (tLst tA)) := ⟨pe_lst h.un⟩
theorem pa_consS (ha : Sd (PE X e te)) (hr : Sd (PA X es tA)) (hs : starEach (e :: es) X.env = (false, eval e X.env) :: starEach es X.env := by rfl) : Sd (PA X (e :: es) (tCons te tA)) := ⟨pa_cons ha.un hr.un hs⟩
theorem pe_ixS {r : R2} (hr : IxR X r) (ha : Sd (PE X a ta)) (hb : Sd (PE X b tb)) (hs : PlainIx b) : Sd (PE X (.Subscript a b pos) (tOp r ta tb)) := ⟨pe_ix hr ha.un hb.un hs⟩
end
end L2
set_option Elab.async false
set_option linter.all false
set_option maxRecDepth 100000
set_option maxHeartbeats 4000000
namespace L2
open PySem
def signsV : List V := [.str "num", .str "name", .str "ask", .str "stop", .str "gap"]
def LeafSigns (K : PySem.W.Frag) (lv : Addr) : Prop := ∃ (o : Obj) (its : Array Value) (n : Nat), K.lookup lv = some o ∧ o.cls = .type "tuple" ∧ o.data = .seq its n ∧ its.size ≤ sizeLine ∧ Vals signsV its.toList
theorem in_signs (k : Kd) : inV (.str k.s) signsV = k.leaf := by cases k <;> decide +kernel
theorem head_pos (t : Tr) : 1 ≤ t.head := by cases t <;> simp [Tr.head]
def Kd.many : Kd → Nat
  | .say => 1 | .add => 2 | .sub => 2 | .mul => 2 | .thn => 2 | .ite => 3 | .lett => 2
  | _ => 0
abbrev Scl := List (Kd × List Nat)
structure GoodRow (k : Kd) (r : List Nat) : Prop where
  lf : k.leaf = false
  ln : r.length = k.many + 1
  c1 : 1 ≤ r.getD 0 0
  c9 : r.getD 0 0 ≤ 9
  ks : ∀ x ∈ r.drop 1, 1 ≤ x ∧ x ≤ 3
def rowF (rs : Scl) (k : Kd) : List Nat := (rs.lookup k).getD [1, 1, 1, 1]
structure GoodF (ρ : Kd → List Nat) : Prop where
  one : ∀ k, k.leaf = true → ρ k = [1, 1, 1, 1]
  ln : ∀ k, k.many + 1 ≤ (ρ k).length ∧ (ρ k).length ≤ 4
  c9 : ∀ k, (ρ k).getD 0 0 ≤ 9
  ks : ∀ k, ∀ x ∈ (ρ k).drop 1, 1 ≤ x ∧ x ≤ 3
theorem many_le (k : Kd) : k.many ≤ 3 := by cases k <;> decide
theorem lookup_good : ∀ {rs : Scl}, (∀ p ∈ rs, GoodRow p.1 p.2) → ∀ {k : Kd} {r : List Nat}, rs.lookup k = some r → GoodRow k r
  | [], _, k, r, h => by simp at h
  | (k0, r0) :: rs, g, k, r, h => by
    rw [List.lookup_cons] at h
    by_cases e : k = k0
    · subst e
      simp at h
      subst h
      exact g (k, r0) List.mem_cons_self
    · have : (k == k0) = false := by simpa using e
      rw [this] at h
      exact lookup_good (fun p hp => g p (List.mem_cons_of_mem _ hp)) h
theorem rowF_good {rs : Scl} (g : ∀ p ∈ rs, GoodRow p.1 p.2) : GoodF (rowF rs) := by
  have key : ∀ k, rowF rs k = [1, 1, 1, 1] ∨ GoodRow k (rowF rs k) := fun k => by
    unfold rowF
    cases e : rs.lookup k with
    | none => exact .inl rfl
    | some r => exact .inr (lookup_good g e)
  refine ⟨fun k hk => ?_, fun k => ?_, fun k => ?_, fun k x hx => ?_⟩
  · rcases key k with h | h
    · exact h
    · rw [h.lf] at hk; cases hk
  · have := many_le k
    rcases key k with h | h
    · rw [h]; simp; omega
    · rw [h.ln]; omega
  · rcases key k with h | h
    · rw [h]; decide
    · exact h.c9
  · rcases key k with h | h
    · rw [h] at hx
      simp at hx
      omega
    · exact h.ks x hx
def dot : List Nat → List Nat → Nat
  | k :: ks, x :: xs => k * x + dot ks xs
  | _, _ => 0
def wrt (ρ : Kd → List Nat) : Tr → Nat
  | .say a => (ρ .say).getD 0 0 + dot ((ρ .say).drop 1) [wrt ρ a]
  | .bin o a b => (ρ o.kd).getD 0 0 + dot ((ρ o.kd).drop 1) [wrt ρ a, wrt ρ b]
  | .ite a b c => (ρ .ite).getD 0 0 + dot ((ρ .ite).drop 1) [wrt ρ a, wrt ρ b, wrt ρ c]
  | .lett _ a b => (ρ .lett).getD 0 0 + dot ((ρ .lett).drop 1) [wrt ρ a, wrt ρ b]
  | _ => 1
theorem dot_nil (ks : List Nat) : dot ks [] = 0 := by cases ks <;> rfl
abbrev TW := Tr × Nat
def childs (ρ : Kd → List Nat) (p : TW) : List TW := List.zipWith (fun t k => (t, p.2 * k)) p.1.parts ((ρ p.1.kd).drop 1)
def sumS (ρ : Kd → List Nat) (L : List TW) : Nat := (L.map fun p => p.2 * wrt ρ p.1).sum
def sumC (ρ : Kd → List Nat) (L : List TW) : Nat := (L.map fun p => p.2 * (ρ p.1.kd).getD 0 0).sum
def szZ (L : List TW) : Nat := (L.map fun p => p.1.size).sum
theorem szZ_app (a b : List TW) : szZ (a ++ b) = szZ a + szZ b := by simp [szZ]
theorem szZ_zip (w : Nat) : ∀ (ts : List Tr) (ks : List Nat), szZ (List.zipWith (fun t k => (t, w * k)) ts ks) ≤ (ts.map Tr.size).sum
  | [], ks => by rw [List.zipWith_nil_left]; exact Nat.zero_le _
  | _ :: _, [] => by rw [List.zipWith_nil_right]; exact Nat.zero_le _
  | t :: ts, k :: ks => by
    have ih := szZ_zip w ts ks
    unfold szZ at ih ⊢
    rw [List.zipWith_cons_cons, List.map_cons, List.sum_cons, List.map_cons, List.sum_cons]
    dsimp only
    omega
theorem parts_size (t : Tr) : (t.parts.map Tr.size).sum + 1 = t.size := by
  cases t <;> simp [Tr.parts, Tr.size] <;> omega
theorem szZ_level (ρ : Kd → List Nat) : ∀ L : List TW, szZ (L.flatMap (childs ρ)) + L.length ≤ szZ L
  | [] => Nat.le_refl _
  | p :: L => by
    have ih := szZ_level ρ L
    have h1 := szZ_zip p.2 p.1.parts ((ρ p.1.kd).drop 1)
    have h2 := parts_size p.1
    rw [List.flatMap_cons, szZ_app]
    have e1 : szZ (p :: L) = p.1.size + szZ L := by simp [szZ]
    rw [e1, List.length_cons]
    unfold childs at h1 ih ⊢
    omega
def Wb (T : Nat) (p : TW) : Prop := p.2 * 3 ^ p.1.size ≤ 3 ^ T
theorem mem_size : ∀ {ts : List Tr} {t : Tr}, t ∈ ts → t.size ≤ (ts.map Tr.size).sum
  | a :: ts, t, h => by
    rw [List.map_cons, List.sum_cons]
    rcases List.mem_cons.mp h with rfl | h
    · omega
    · have := mem_size h
      omega
theorem part_size {t p : Tr} (h : p ∈ t.parts) : p.size + 1 ≤ t.size := by
  have := mem_size h
  have := parts_size t
  omega
theorem Wb.child {T : Nat} {t q : Tr} {w k : Nat} (h : Wb T (t, w)) (hq : q.size + 1 ≤ t.size) (hk : k ≤ 3) : Wb T (q, w * k) := by
  unfold Wb at h ⊢
  dsimp only at h ⊢
  refine Nat.le_trans ?_ h
  have e1 : 3 ^ (q.size + 1) ≤ 3 ^ t.size := Nat.pow_le_pow_right (by decide) hq
  rw [Nat.mul_assoc]
  refine Nat.mul_le_mul_left w (Nat.le_trans ?_ e1)
  rw [Nat.pow_succ, Nat.mul_comm]
  exact Nat.mul_le_mul_left _ hk
theorem Wb.lt {T : Nat} {p : TW} (h : Wb T p) (hT : T ≤ 310) : p.2 < 2 ^ 500 := by
  unfold Wb at h
  have h1 : p.2 ≤ p.2 * 3 ^ p.1.size := Nat.le_mul_of_pos_right _ (Nat.pow_pos (by decide))
  have h2 : 3 ^ T ≤ 3 ^ 310 := Nat.pow_le_pow_right (by decide) hT
  have h3 : 3 ^ 310 < 2 ^ 500 := by decide +kernel
  omega
theorem size_pos20 (t : Tr) : 1 ≤ t.size := by cases t <;> simp [Tr.size]
theorem dot_le {ks : List Nat} (h : ∀ x ∈ ks, x ≤ 3) : ∀ (xs : List Nat), dot ks xs ≤ 3 * xs.sum
  | [] => by rw [dot_nil]; exact Nat.zero_le _
  | x :: xs => by
    cases ks with
    | nil => exact Nat.zero_le _
    | cons k ks =>
      have ih := dot_le (ks := ks) (fun y hy => h y (List.mem_cons_of_mem _ hy)) xs
      have hk := h k List.mem_cons_self
      have : k * x ≤ 3 * x := Nat.mul_le_mul_right x hk
      rw [dot, List.sum_cons, Nat.mul_add]
      omega
theorem p16 (n : Nat) (h : 1 ≤ n) : 16 ≤ 16 ^ n := by
  have : 16 ^ 1 ≤ 16 ^ n := Nat.pow_le_pow_right (by decide) h
  simpa using this
theorem wrt_le {ρ : Kd → List Nat} (g : GoodF ρ) : ∀ t : Tr, wrt ρ t ≤ 16 ^ t.size
  | .num _ => by simp [wrt, Tr.size]
  | .name _ => by simp [wrt, Tr.size]
  | .ask _ => by simp [wrt, Tr.size]
  | .stop _ => by simp [wrt, Tr.size]
  | .gap _ _ => by simp [wrt, Tr.size]
  | .say a => by
    have ih := wrt_le g a
    have c := g.c9 .say
    have d := dot_le (ks := (ρ .say).drop 1) (fun x hx => (g.ks .say x hx).2) [wrt ρ a]
    have pa := p16 a.size (size_pos20 a)
    simp only [List.sum_cons, List.sum_nil] at d
    rw [wrt, Tr.size, Nat.pow_succ]
    omega
  | .bin o a b => by
    have ih := wrt_le g a
    have ih2 := wrt_le g b
    have c := g.c9 o.kd
    have d := dot_le (ks := (ρ o.kd).drop 1) (fun x hx => (g.ks o.kd x hx).2) [wrt ρ a, wrt ρ b]
    have pa := p16 a.size (size_pos20 a)
    have pb := p16 b.size (size_pos20 b)
    simp only [List.sum_cons, List.sum_nil] at d
    rw [wrt, Tr.size, Nat.pow_succ, Nat.pow_add]
    have m1 : 16 ^ a.size * 16 ≤ 16 ^ a.size * 16 ^ b.size := Nat.mul_le_mul_left _ pb
    have m2 : 16 * 16 ^ b.size ≤ 16 ^ a.size * 16 ^ b.size := Nat.mul_le_mul_right _ pa
    omega
  | .lett _ a b => by
    have ih := wrt_le g a
    have ih2 := wrt_le g b
    have c := g.c9 .lett
    have d := dot_le (ks := (ρ .lett).drop 1) (fun x hx => (g.ks .lett x hx).2) [wrt ρ a, wrt ρ b]
    have pa := p16 a.size (size_pos20 a)
    have pb := p16 b.size (size_pos20 b)
    simp only [List.sum_cons, List.sum_nil] at d
    rw [wrt, Tr.size, Nat.pow_succ, Nat.pow_add]
    have m1 : 16 ^ a.size * 16 ≤ 16 ^ a.size * 16 ^ b.size := Nat.mul_le_mul_left _ pb
    have m2 : 16 * 16 ^ b.size ≤ 16 ^ a.size * 16 ^ b.size := Nat.mul_le_mul_right _ pa
    omega
  | .ite a b e => by
    have ih := wrt_le g a
    have ih2 := wrt_le g b
    have ih3 := wrt_le g e
    have c := g.c9 .ite
    have d := dot_le (ks := (ρ .ite).drop 1) (fun x hx => (g.ks .ite x hx).2) [wrt ρ a, wrt ρ b, wrt ρ e]
    have pa := p16 a.size (size_pos20 a)
    have pb := p16 b.size (size_pos20 b)
    have pe := p16 e.size (size_pos20 e)
    simp only [List.sum_cons, List.sum_nil] at d
    rw [wrt, Tr.size, Nat.pow_succ, Nat.pow_add, Nat.pow_add]
    have m1 : 16 ^ a.size * 16 ≤ 16 ^ a.size * 16 ^ b.size := Nat.mul_le_mul_left _ pb
    have m2 : 16 * 16 ^ b.size ≤ 16 ^ a.size * 16 ^ b.size := Nat.mul_le_mul_right _ pa
    have m3 : 16 ^ a.size * 16 ^ b.size * 16 ≤ 16 ^ a.size * 16 ^ b.size * 16 ^ e.size := Nat.mul_le_mul_left _ pe
    have m4 : 16 * 16 ^ e.size ≤ 16 ^ a.size * 16 ^ b.size * 16 ^ e.size := Nat.mul_le_mul_right _ (Nat.le_trans (by omega) m1)
    omega
theorem dot_take {ks xs : List Nat} : ∀ {i k x : Nat}, ks[i]? = some k → xs[i]? = some x → dot (ks.take (i + 1)) (xs.take (i + 1)) = dot (ks.take i) (xs.take i) + k * x := by
  induction ks generalizing xs with
  | nil => intro i k x h; simp at h
  | cons a ks ih =>
    intro i k x h1 h2
    cases xs with
    | nil => simp at h2
    | cons b xs =>
      cases i with
      | zero =>
        simp at h1 h2
        subst h1 h2
        simp [dot]
      | succ i =>
        simp only [List.take_succ_cons, dot]
        rw [ih (by simpa using h1) (by simpa using h2)]
        omega
theorem dot_cut (ks xs : List Nat) : dot (ks.take xs.length) xs = dot ks xs := by
  induction xs generalizing ks with
  | nil => simp [dot_nil]
  | cons x xs ih =>
    cases ks with
    | nil => rfl
    | cons k ks =>
      show dot (k :: ks.take xs.length) (x :: xs) = _
      rw [dot, dot, ih]
def natV (r : List Nat) : List V := r.map fun (n : Nat) => V.int (n : Int)
theorem natV_len (r : List Nat) : (natV r).length = r.length := by simp [natV]
theorem natV_get {r : List Nat} {i n : Nat} (h : r[i]? = some n) : (natV r)[i]? = some (.int (n : Int)) := by simp [natV, h]
def Sf (H H' : Hp) : Prop := ∀ b u, H b = some u → H' b = some u ∨ ∃ o kvs, u = HO.dK kvs ∧ H' b = some (.frz o (.dK kvs))
theorem Same.sf {H H' : Hp} (h : Same H H') : Sf H H' := fun b u e => .inl (h b u e)
theorem Sf.refl (H : Hp) : Sf H H := (Same.refl H).sf
theorem Sf.trans {H H1 H2 : Hp} (a : Sf H H1) (b : Sf H1 H2) : Sf H H2 := fun c u e => by
  rcases a c u e with h | ⟨o, kvs, rfl, h⟩
  · exact b c u h
  · rcases b c _ h with h | ⟨o', kvs', z, h⟩
    · exact .inr ⟨o, kvs, rfl, h⟩
    · cases z
theorem Sf.tk {H H' : Hp} (h : Sf H H') : Tk H H' := fun b xs e => by
  rcases h b _ e with h | ⟨o, kvs, z, h⟩
  · exact h
  · cases z
theorem Sf.rd {H H' : Hp} (h : Sf H H') {b : Addr} {kvs : List (Key × V)} (e : Rd H b (.dK kvs)) : Rd H' b (.dK kvs) := by
  rcases e with e | ⟨o, e⟩
  · rcases h b _ e with h | ⟨o, kvs', z, h⟩
    · exact .inl h
    · cases z
      exact .inr ⟨o, h⟩
  · rcases h b _ e with h | ⟨o', kvs', z, h⟩
    · exact .inr ⟨o, h⟩
    · cases z
theorem Sf.frz {H : Hp} {d : Addr} {kvs : List (Key × V)} (o : Obj) (h : H d = some (.dK kvs)) : Sf H (upd H d (.frz o (.dK kvs))) := fun b u e => by
  by_cases z : b = d
  · subst z
    rw [h] at e
    cases e
    exact .inr ⟨o, kvs, rfl, upd_same⟩
  · exact .inl (by rw [upd_ne z]; exact e)
def RowAt (H : Hp) (p : Kd × List Nat) (kv : Key × V) : Prop := GoodRow p.1 p.2 ∧ kv.1 = Sum.inr p.1.s ∧ ∃ b, kv.2 = .ref b ∧ H b = some (.tup (natV p.2))
theorem RowAt.mono {H H' : Hp} (k : Tk H H') {p : Kd × List Nat} {kv : Key × V} : RowAt H p kv → RowAt H' p kv
  | ⟨g, e, b, e2, h⟩ => ⟨g, e, b, e2, k _ _ h⟩
structure ScD (H : Hp) (d : Addr) (rs : Scl) (kvs : List (Key × V)) : Prop where
  rd : Rd H d (.dK kvs)
  ps : Paired (RowAt H) rs kvs
  nd : (kvs.map (·.1)).Nodup
  le : kvs.length ≤ 7
def ScAt (H : Hp) (d : Addr) (rs : Scl) : Prop := ∃ kvs, ScD H d rs kvs
theorem ScD.mono {H H' : Hp} (h : Sf H H') {d : Addr} {rs : Scl} {kvs : List (Key × V)} (s : ScD H d rs kvs) : ScD H' d rs kvs := ⟨h.rd s.rd, Paired.mapP s.ps fun _ _ z => z.mono h.tk, s.nd, s.le⟩
theorem ScAt.mono {H H' : Hp} (h : Sf H H') {d : Addr} {rs : Scl} : ScAt H d rs → ScAt H' d rs
  | ⟨kvs, s⟩ => ⟨kvs, s.mono h⟩
theorem good_of {H : Hp} : ∀ {rs : Scl} {kvs : List (Key × V)}, Paired (RowAt H) rs kvs → ∀ p ∈ rs, GoodRow p.1 p.2
  | _, _, .nil, _, h => by cases h
  | _, _, .cons r q, p, h => by
    rcases List.mem_cons.mp h with rfl | z
    · exact r.1
    · exact good_of q p z
theorem val_row {H : Hp} : ∀ {rs : Scl} {kvs : List (Key × V)}, Paired (RowAt H) rs kvs → ∀ k : Kd,
    (rs.lookup k = none ∧ valV kvs (Sum.inr k.s : Key) = none) ∨ ∃ r b, rs.lookup k = some r ∧ valV kvs (Sum.inr k.s : Key) = some (.ref b) ∧ H b = some (.tup (natV r))
  | _, _, .nil, k => .inl ⟨rfl, rfl⟩
  | _, _, @Paired.cons _ _ _ (k0, r0) kv rs kvs r q, k => by
    obtain ⟨g, e, b, e2, h⟩ := r
    dsimp only at e e2 h
    by_cases z : k = k0
    · subst z
      refine .inr ⟨r0, b, by simp [List.lookup_cons], ?_, h⟩
      rw [valV_pos e, e2]
    · have z1 : (k == k0) = false := by simpa using z
      have z2 : ¬ kv.1 = (Sum.inr k.s : Key) := fun w => z (Kd.inj (Sum.inr.inj (e.symm.trans w))).symm
      rw [valV_neg z2, List.lookup_cons, z1]
      exact val_row q k
def onesV : List V := [.int 1, .int 1, .int 1, .int 1]
def OnesK (K : PySem.W.Frag) (a : Addr) : Prop := ∃ (o : Obj) (its : Array Value) (n : Nat), K.lookup a = some o ∧ o.cls = .type "tuple" ∧ o.data = .seq its n ∧ its.size ≤ sizeLine ∧ Vals onesV its.toList
def ManyK (K : PySem.W.Frag) (a : Addr) : Prop := ∀ k : Kd, k.leaf = false → ∃ t, PySem.W.nsIn K a k.s = some (some (.int (k.many : Int) t))
theorem row_at {K : PySem.W.Frag} {H : Hp} {rs : Scl} {d oa : Addr} {kvs : List (Key × V)} (s : ScD H d rs kvs) (hO : OnesK K oa) (k : Kd) : ∃ (o : Option V) (p : Addr), DGet H d (.str k.s) o ∧ o.getD (.ref oa) = .ref p ∧ SqT K H p (natV (rowF rs k)) := by
  have g : DGet H d (.str k.s) (valV kvs (Sum.inr k.s : Key)) := .inl ⟨kvs, Sum.inr k.s, s.rd, rfl, rfl⟩
  rcases val_row s.ps k with ⟨h1, h2⟩ | ⟨r, b, h1, h2, h3⟩
  · refine ⟨_, oa, g, by rw [h2]; rfl, ?_⟩
    have e : rowF rs k = [1, 1, 1, 1] := by unfold rowF; rw [h1]; rfl
    rw [e]
    exact .inr hO
  · refine ⟨_, b, g, by rw [h2]; rfl, ?_⟩
    have e : rowF rs k = r := by unfold rowF; rw [h1]; rfl
    rw [e]
    exact SqT.of h3
theorem cut1 (x : V) (xs : List V) : cutV (x :: xs) (some 1) none = xs := by
  have e1 : HT.sIx (x :: xs).length 0 (some 1) = 1 := by
    have := HT.sIx_nat (x :: xs).length 0 1
    rw [show ((1 : Nat) : Int) = 1 from rfl] at this
    rw [this]
    simp
  unfold cutV
  rw [e1, HT.sIx_none]
  simp
theorem cut1_not (x : V) (xs : List V) : ¬ (HT.sIx (x :: xs).length 0 (some 1) = 0 ∧ HT.sIx (x :: xs).length (x :: xs).length none = (x :: xs).length) := fun h => by
  have := HT.sIx_nat (x :: xs).length 0 1
  rw [show ((1 : Nat) : Int) = 1 from rfl, h.1] at this
  simp at this
end L2
namespace K21
open PySem PySem.Spec L2 PyProof.Rows
def top (i : Nat) : Stmt := PySem.Challenge.pw_recastle_k21_which_rules_fall.main.body.getD i (.Pass ⟨0, 0, 0, 0⟩)
abbrev s_is_whole : Stmt := top 5
theorem sc_is_whole : FnScope ["value"] ["value"] (defScope s_is_whole) := ⟨rfl, rfl, rfl, by decide +kernel, rfl, by decide +kernel, by decide +kernel⟩
abbrev s_parts_begin : Stmt := top 6
theorem sc_parts_begin : FnScope ["tree"] ["tree"] (defScope s_parts_begin) := ⟨rfl, rfl, rfl, by decide +kernel, rfl, by decide +kernel, by decide +kernel⟩
abbrev s_parts : Stmt := top 7
theorem sc_parts : FnScope ["tree"] ["tree"] (defScope s_parts) := ⟨rfl, rfl, rfl, by decide +kernel, rfl, by decide +kernel, by decide +kernel⟩
abbrev s_is_between : Stmt := top 13
theorem sc_is_between : FnScope ["value", "most"] ["value", "most"] (defScope s_is_between) := ⟨rfl, rfl, rfl, by decide +kernel, rfl, by decide +kernel, by decide +kernel⟩
abbrev s_is_scale_row : Stmt := top 14
theorem sc_is_scale_row : FnScope ["row", "many"] ["row", "many"] (defScope s_is_scale_row) := ⟨rfl, rfl, rfl, by decide +kernel, rfl, by decide +kernel, by decide +kernel⟩
abbrev s_check_scale : Stmt := top 15
theorem sc_check_scale : FnScope ["scale", "sign"] ["scale"] (defScope s_check_scale) := ⟨rfl, rfl, rfl, by decide +kernel, rfl, by decide +kernel, by decide +kernel⟩
section
variable {P : Program} {w : World} {K : PySem.W.Frag} {mg : Str → Option Value} {base : Heap}
def begin_ (t : Tr) : Int := t.head
def sp_parts_begin : Sp := fun vs H Q _ => ∃ t v, vs = [v] ∧ Rep H t v ∧ Q (.int (begin_ t)) H
theorem ok_parts_begin {k : Nat} {f : Addr} {fd : FuncData} {lv : Addr} (F : Fun K "parts_begin" "parts_begin" s_parts_begin f fd) (z_len : mg "len" = none) (m_LEAF_SIGNS : mg "LEAF_SIGNS" = some (.ref lv)) (hL : LeafSigns K lv) :
    FnOk P w K mg base CX0 (k + 1) f fd ["tree"] sp_parts_begin := by
  refine F.ok sc_parts_begin (fun vs H Q E h => ?_) (fun cdv A outer s H vs Q E hr h => ?_)
  · obtain ⟨t, v, rfl, _⟩ := h
    rfl
  obtain ⟨t, v, rfl, hR, q⟩ := h
  refine ⟨_, (pss_cons (ps_if (pt_cmpR (r := rIn K false) op_in_seq (pe_ix (r := rIxT K) ix_tup (pv 0) pe_int (fun _ _ => rfl)) (pe_glob (v := .ref _) (by rfl) m_LEAF_SIGNS (by rfl)) rfl) (pss_one (ps_ret (pe_callB call_len_seq (by rfl) z_len PySem.boot_len (pa_cons (pv 0) pa_nil)))) pss_nil)
    (pss_cons (ps_if (pt_cmpR op_eq (pe_ix (r := rIxT K) ix_tup (pv 0) pe_int (fun _ _ => rfl)) pe_str (nomark _)) (pss_one (ps_ret pe_int)) pss_nil)
    (pss_one (ps_ret pe_int)))), ?_⟩
  obtain ⟨a, hs, us, rfl, ha, hl, hp⟩ := hR.all
  have h0 : atI (V.str t.kd.s :: hs ++ us) 0 = some (.str t.kd.s) := atI_nat (j := 0) rfl
  refine ⟨_, rfl, a, _, 0, _, rfl, rfl, SqT.of ha, h0, lv, signsV, rfl, .inr (.inr hL), rfl, rfl, _, rfl, ?_⟩
  show if inV (.str t.kd.s) signsV = true then _ else _
  rw [in_signs]
  refine ite2 (fun c => ?_) (fun c => ?_)
  · refine ⟨_, rfl, a, _, rfl, .inr (SqT.of ha), ?_⟩
    have e : ((V.str t.sign :: hs ++ us).length : Int) = begin_ t := by
      have hu : us.length = 0 := by
        rw [← hp.length]
        cases t with
        | bin o a b => cases o <;> cases c
        | _ => first | rfl | cases c
      rw [List.length_append, List.length_cons, hu]
      unfold begin_
      omega
    rw [e]
    exact q
  · refine ⟨_, rfl, a, _, 0, _, rfl, rfl, SqT.of ha, h0, rfl, _, rfl, ?_⟩
    refine ite2 (fun d => ?_) (fun d => ?_)
    · have z : t.kd = .lett := Kd.eq_iff.mp (of_decide_eq_true d)
      have e : begin_ t = 2 := by
        cases t with
        | lett x a b => rfl
        | bin o a b => cases o <;> cases z
        | _ => cases z
      rw [e] at q
      exact q
    · have e : begin_ t = 1 := by
        cases t with
        | lett x a b => exact absurd rfl d
        | bin o a b => rfl
        | ite a b c => rfl
        | say a => rfl
        | _ => exact absurd rfl c
      rw [e] at q
      exact q
def sp_parts : Sp := fun vs H Q _ => ∃ t v, vs = [v] ∧ Rep H t v ∧ ∀ p H' us, Same H H' → H' p = some (.tup us) → Paired (Rep H') t.parts us → Q (.ref p) H'
theorem ok_parts {k : Nat} {f g : Addr} {fd gd : FuncData} (F : Fun K "parts" "parts" s_parts f fd) (G_parts_begin : FnB P w K mg base k "parts_begin" g gd ["tree"] sp_parts_begin) :
    FnOk P w K mg base CX0 (k + 1) f fd ["tree"] sp_parts := by
  refine F.ok sc_parts (fun vs H Q E h => ?_) (fun cdv A outer s H vs Q E hr h => ?_)
  · obtain ⟨t, v, rfl, _⟩ := h
    rfl
  obtain ⟨t, v, rfl, hR, q⟩ := h
  refine ⟨_, (pss_one (ps_ret (pe_slice sl_tupV (pv 0) (po_some (pe_call G_parts_begin.ok hr (by rfl) G_parts_begin.gl G_parts_begin.kp G_parts_begin.bd .nil pass0 (pa_cons (pv 0) pa_nil))) po_none))), ?_⟩
  obtain ⟨a, hs, us, rfl, ha, hl, hp⟩ := hR.all
  have hn : (V.str t.sign :: hs ++ us).length = t.head + us.length := by rw [List.length_append, List.length_cons]; omega
  have h1 := head_pos t
  have e1 : HT.sIx (V.str t.sign :: hs ++ us).length 0 (some (begin_ t)) = t.head := by
    show HT.sIx _ 0 (some ((t.head : Nat) : Int)) = _
    rw [HT.sIx_nat, hn]
    omega
  have e2 : cutV (V.str t.sign :: hs ++ us) (some (begin_ t)) none = us := by
    unfold cutV
    rw [e1, HT.sIx_none, hn]
    have : (V.str t.sign :: hs ++ us).drop t.head = us := by
      rw [← hl]
      exact List.drop_left' rfl
    rw [this, List.take_of_length_le (by omega)]
  refine ⟨_, rfl, _, rfl, t, _, rfl, hR, _, rfl, a, _, rfl, ha, fun z => ?_, fun p H' g e => ?_⟩
  · rw [e1] at z
    omega
  · rw [e2] at e
    exact q p H' us g e (Paired.mapP hp fun _ _ r => r.mono g.tk)
def sp_is_whole : Sp := fun vs H Q _ => ∃ i : Int, vs = [.int i] ∧ Q (.bl true) H
theorem ok_is_whole {k : Nat} {f : Addr} {fd : FuncData} (F : Fun K "is_whole" "is_whole" s_is_whole f fd) (z_isinstance : mg "isinstance" = none) (z_int : mg "int" = none) (z_bool : mg "bool" = none) : FnOk P w K mg base CX0 (k + 1) f fd ["value"] sp_is_whole := by
  refine F.ok sc_is_whole (fun vs H Q E h => ?_) (fun cdv A outer s H vs Q E hr h => ?_)
  · obtain ⟨i, rfl, _⟩ := h
    rfl
  obtain ⟨i, rfl, q⟩ := h
  refine ⟨_, (pss_one (ps_ret (pe_and (pe_callB call_isi (by rfl) z_isinstance PyProof.Rows.boot_isinstance (pa_cons (pv 0) (pa_cons (pe_bltn (v := .ty _) (by rfl) z_int PyProof.Rows.boot_int (by rfl)) pa_nil))) (pe_one (pe_not (pe_callB call_isi (by rfl) z_isinstance PyProof.Rows.boot_isinstance (pa_cons (pv 0) (pa_cons (pe_bltn (v := .ty _) (by rfl) z_bool PyProof.Rows.boot_bool (by rfl)) pa_nil)))))))), ?_⟩
  refine ⟨_, rfl, _, "int", _, true, rfl, .int i, rfl, true, rfl, ?_⟩
  exact ⟨_, rfl, _, "bool", _, false, rfl, .int i, rfl, false, rfl, q⟩
def sp_is_between : Sp := fun vs H Q _ => ∃ i m : Int, vs = [.int i, .int m] ∧ 1 ≤ i ∧ i ≤ m ∧ Q (.bl true) H
theorem ok_is_between {k : Nat} {f g1 : Addr} {fd gd1 : FuncData} (F : Fun K "is_between" "is_between" s_is_between f fd) (G_is_whole : FnB P w K mg base k "is_whole" g1 gd1 ["value"] sp_is_whole) : FnOk P w K mg base CX0 (k + 1) f fd ["value", "most"] sp_is_between := by
  refine F.ok sc_is_between (fun vs H Q E h => ?_) (fun cdv A outer s H vs Q E hr h => ?_)
  · obtain ⟨i, m, rfl, _⟩ := h
    rfl
  obtain ⟨i, m, rfl, h1, h2, q⟩ := h
  refine ⟨_, (pss_one (ps_ret (pe_and (pe_call G_is_whole.ok hr (by rfl) G_is_whole.gl G_is_whole.kp G_is_whole.bd .nil pass0 (pa_cons (pv 0) pa_nil)) (pe_one (pe_chain op_le op_le pe_int (pv 0) (pv 1)))))), ?_⟩
  refine ⟨_, rfl, i, rfl, true, rfl, ?_⟩
  refine ⟨_, rfl, _, _, rfl, rfl, _, rfl, iteY h1 ?_⟩
  refine ⟨_, rfl, _, _, rfl, rfl, ?_⟩
  show Q (.bl (decide (i ≤ m))) H
  rw [decide_eq_true h2]
  exact q
def sp_is_scale_row : Sp := fun vs H Q _ => ∃ (a : Addr) (k : Kd) (r : List Nat), vs = [.ref a, .int (k.many : Int)] ∧ H a = some (.tup (natV r)) ∧ GoodRow k r ∧ ∀ H', Same H H' → Q (.bl true) H'
theorem all_true (n : Nat) : (List.replicate n true).all id = true := by simp
theorem ok_is_scale_row {k : Nat} {f g1 : Addr} {fd gd1 : FuncData} {t1 t2 : Tok} (F : Fun K "is_scale_row" "is_scale_row" s_is_scale_row f fd) (z_isinstance : mg "isinstance" = none) (z_tuple : mg "tuple" = none) (z_len : mg "len" = none) (z_all : mg "all" = none)
    (m_MOST_OWN : mg "MOST_OWN" = some (.int 9 t1)) (m_MOST_TIMES : mg "MOST_TIMES" = some (.int 3 t2)) (G_is_between : FnB P w K mg base k "is_between" g1 gd1 ["value", "most"] sp_is_between) : FnOk P w K mg base CX0 (k + 1) f fd ["row", "many"] sp_is_scale_row := by
  refine F.ok sc_is_scale_row (fun vs H Q E h => ?_) (fun cdv A outer s H vs Q E hr h => ?_)
  · obtain ⟨a, kd, r, rfl, _⟩ := h
    rfl
  obtain ⟨a, kd, r, rfl, ha, gr, q⟩ := h
  refine ⟨_, (pss_cons (ps_if (pw_or (pt_not (pt_val (pe_callB call_isi (by rfl) z_isinstance PyProof.Rows.boot_isinstance (pa_cons (pv 0) (pa_cons (pe_bltn (v := .ty _) (by rfl) z_tuple PyProof.Rows.boot_tuple (by rfl)) pa_nil))))) (pw_or1 (pt_cmpR op_ne (pe_callB call_len_seq (by rfl) z_len PySem.boot_len (pa_cons (pv 0) pa_nil)) (pe_op op_add (pv 1) pe_int) (nomark _)))).pt (pss_one (ps_ret pe_bl)) pss_nil)
    (pss_one (ps_ret (pe_and (pe_call G_is_between.ok hr (by rfl) G_is_between.gl G_is_between.kp G_is_between.bd .nil pass0 (pa_cons (pe_ix (r := rIxT K) ix_tup (pv 0) pe_int (fun _ _ => rfl)) (pa_cons (pe_glob (v := .int 9) (by rfl) m_MOST_OWN ⟨_, rfl⟩) pa_nil))) (pe_one (pe_callB (call_allL rfl) (by rfl) z_all PyProof.Rows.boot_all (pa_cons (pe_compB ["times"] [none] rfl (pi_tup (pe_slice (r := rSlT K) sl_tup (pv 0) (po_some pe_int) po_none)) (fun _ _ _ _ _ => (pg_name (i := 0) (show List.Nodup (["times"] : List Str) by decide +kernel) rfl (Or.inl rfl))) (fun _ _ _ _ _ => pts_nil) (fun _ _ _ _ _ => (pe_call G_is_between.ok hr (by rfl) G_is_between.gl G_is_between.kp G_is_between.bd .nil pass0 (pa_cons (pv 0) (pa_cons (pe_glob (v := .int 3) (by rfl) m_MOST_TIMES ⟨_, rfl⟩) pa_nil)))) rfl) pa_nil))))))), ?_⟩
  obtain ⟨c, ks, rfl⟩ : ∃ c ks, r = c :: ks := by
    cases r with
    | nil => have := gr.ln; simp at this
    | cons c ks => exact ⟨c, ks, rfl⟩
  have hln : ks.length = kd.many := by have := gr.ln; simpa using this
  have ha' : H a = some (.tup (V.int (c : Int) :: natV ks)) := ha
  refine ⟨_, rfl, _, "tuple", _, true, rfl, .tup ha', rfl, _, rfl, iteF ?_⟩
  refine ⟨_, rfl, a, _, rfl, .inr (SqT.of ha'), _, rfl, _, _, rfl, rfl, rfl, _, rfl, iteNS ?_ ?_⟩
  · rw [List.length_cons, natV_len, hln]
    rfl
  have c1 : (1 : Int) ≤ (c : Int) := by have := gr.c1; simp at this; omega
  have c9 : (c : Int) ≤ 9 := by have := gr.c9; simp at this; omega
  refine ⟨_, rfl, a, _, 0, _, rfl, rfl, SqT.of ha', atI_nat (j := 0) rfl, _, _, rfl, c1, c9, true, rfl, ?_⟩
  refine ⟨_, rfl, 1, rfl, a, _, rfl, SqT.of ha', cut1_not _ _, fun p hp => ?_⟩
  rw [cut1]
  refine ⟨p, rfl, ⟨_, SqT.of upd_same⟩, fun acc hacc => ?_⟩
  have g1 := same_upd (o := .tup (natV ks)) hp
  have ep : (upd H p (.tup (natV ks))) p = some (.tup (natV ks)) := upd_same
  generalize upd H p (.tup (natV ks)) = H1 at g1 ep hacc ⊢
  refine comp_tupR (xs := natV ks) (fun i H' => Same H1 H' ∧ H' acc = some (.lst ((List.replicate i true).map V.bl))) ⟨same_upd hacc, upd_same⟩ (fun i H' _ h => SqT.of (h.1 _ _ ep)) ?_ ?_
  · rintro i x Hx hx ⟨gx, ex⟩
    obtain ⟨n, hn, rfl⟩ : ∃ n, ks[i]? = some n ∧ x = V.int (n : Int) := by
      unfold natV at hx
      rw [List.getElem?_map] at hx
      obtain ⟨n, h1, h2⟩ := Option.map_eq_some_iff.mp hx
      exact ⟨n, h1, h2.symm⟩
    have hb := gr.ks n (by simpa using List.mem_of_getElem? hn)
    have hi : i < ks.length := (List.getElem?_eq_some_iff.mp hn).1
    have hm3 := many_le kd
    refine ⟨.skip .nil, _, rfl, _, _, rfl, by omega, by omega, _, ex, small1000 (by simp; omega), same_set gx hacc, ?_⟩
    rw [upd_same, List.replicate_succ', List.map_append]
    rfl
  rintro H2 ⟨g2, e2⟩
  refine ⟨acc, _, rfl, e2, ?_⟩
  rw [all_true]
  exact q H2 (g1.trans g2)
def sp_check_scale : Sp := fun vs H Q _ => ∃ (d : Addr) (rs : Scl), vs = [.ref d] ∧ ScAt H d rs ∧ ∀ H', Sf H H' → Q .non H'
theorem ok_check_scale {k : Nat} {f g1 md : Addr} {fd gd1 : FuncData} (F : Fun K "check_scale" "check_scale" s_check_scale f fd) (z_isinstance : mg "isinstance" = none) (z_dict : mg "dict" = none)
    (m_MANY_PARTS : mg "MANY_PARTS" = some (.ref md)) (h_MANY_PARTS : KDic K w.params md) (hM : ManyK K md) (G_is_scale_row : FnB P w K mg base k "is_scale_row" g1 gd1 ["row", "many"] sp_is_scale_row) : FnOk P w K mg base CX0 (k + 1) f fd ["scale"] sp_check_scale := by
  refine F.ok sc_check_scale (fun vs H Q E h => ?_) (fun cdv A outer s H vs Q E hr h => ?_)
  · obtain ⟨d, rs, rfl, _⟩ := h
    rfl
  obtain ⟨d, rs, rfl, ⟨kvs, sc⟩, q⟩ := h
  have hu := hu_of hr
  refine ⟨_, (pss_cons (ps_if (pt_not (pt_val (pe_callB call_isiD (by rfl) z_isinstance PyProof.Rows.boot_isinstance (pa_cons (pv 0) (pa_cons (pe_bltn (v := .ty _) (by rfl) z_dict PyProof.Rows.boot_dict (by rfl)) pa_nil))))) (pss_one ps_never) pss_nil)
    (pss_one (ps_for PassesOwn.never rfl (pi_dict (pv 0)) (pg_name (i := 1) sc_check_scale.nd rfl (Or.inl rfl)) (pss_cons (ps_if (pt_cmpR (op_notInK h_MANY_PARTS) (pv 1) (pe_glob (v := .ref _) (by rfl) m_MANY_PARTS (by rfl)) rfl) (pss_one ps_never) pss_nil)
    (pss_one (ps_if (pt_not (pt_val (pe_call G_is_scale_row.ok hr (by rfl) G_is_scale_row.gl G_is_scale_row.kp G_is_scale_row.bd .nil pass0 (pa_cons (pe_dget hu (pv 0) (pv 1) (fun _ _ => rfl)) (pa_cons (pe_ix (ix_kd h_MANY_PARTS) (pe_glob (v := .ref _) (by rfl) m_MANY_PARTS (by rfl)) (pv 1) (fun _ _ => rfl)) pa_nil))))) (pss_one ps_never) pss_nil)))))), ?_⟩
  refine ⟨_, rfl, d, kvs, "dict", true, rfl, sc.rd, rfl, _, rfl, iteF ?_⟩
  refine ⟨_, rfl, d, kvs, rfl, ?_⟩
  have hrd := sc.rd
  rcases hrd with e | ⟨o, e⟩
  · refine .inr ⟨e, fun o => ?_⟩
    have gf := Sf.frz o e
    have ef : (upd H d (.frz o (.dK kvs))) d = some (.frz o (.dK kvs)) := upd_same
    generalize upd H d (.frz o (.dK kvs)) = H1 at gf ef ⊢
    have sc1 := sc.mono gf
    refine for_dict (o := o) (a := d) (kvs := kvs) (fun i σ' H' => ∃ s1, σ' = [some (.ref d), s1] ∧ Same H1 H') ⟨none, rfl, .refl _⟩ ?_ ?_ ?_
    · rintro i σ' H' _ ⟨s1, rfl, g⟩
      exact g _ _ ef
    · rintro i p σ' H' hp ⟨s1, rfl, g⟩
      have sc2 := sc1.mono g.sf
      obtain ⟨⟨kd, r⟩, hr2, gr, e1, b, e2, hb⟩ := paired_getP sc2.ps hp
      obtain ⟨p1, p2⟩ := p
      dsimp only at e1 e2 gr hb
      subst e1 e2
      obtain ⟨tk, hm⟩ := hM kd gr.lf
      have gv : DGet H' d (.str kd.s) (some (.ref b)) := .inl ⟨kvs, Sum.inr kd.s, sc2.rd, rfl, (val_at sc2.nd hp).symm⟩
      refine ⟨_, rfl, kd.s, _, rfl, rfl, hm, _, rfl, iteF ?_⟩
      refine ⟨_, rfl, _, rfl, d, _, rfl, gv, ?_⟩
      refine ⟨_, rfl, kd.s, _, .int (kd.many : Int), rfl, rfl, hm, ⟨tk, rfl⟩, b, kd, r, rfl, hb, gr, fun H2 g2 => ⟨_, rfl, iteF ⟨_, rfl, g.trans g2⟩⟩⟩
    · rintro σ' H' ⟨s1, rfl, g⟩
      exact q H' (gf.trans g.sf)
  · refine .inl ⟨o, e, ?_⟩
    have gf := Sf.refl H
    have ef := e
    have sc1 := sc.mono gf
    refine for_dict (o := o) (a := d) (kvs := kvs) (fun i σ' H' => ∃ s1, σ' = [some (.ref d), s1] ∧ Same H H') ⟨none, rfl, .refl _⟩ ?_ ?_ ?_
    · rintro i σ' H' _ ⟨s1, rfl, g⟩
      exact g _ _ ef
    · rintro i p σ' H' hp ⟨s1, rfl, g⟩
      have sc2 := sc1.mono g.sf
      obtain ⟨⟨kd, r⟩, hr2, gr, e1, b, e2, hb⟩ := paired_getP sc2.ps hp
      obtain ⟨p1, p2⟩ := p
      dsimp only at e1 e2 gr hb
      subst e1 e2
      obtain ⟨tk, hm⟩ := hM kd gr.lf
      have gv : DGet H' d (.str kd.s) (some (.ref b)) := .inl ⟨kvs, Sum.inr kd.s, sc2.rd, rfl, (val_at sc2.nd hp).symm⟩
      refine ⟨_, rfl, kd.s, _, rfl, rfl, hm, _, rfl, iteF ?_⟩
      refine ⟨_, rfl, _, rfl, d, _, rfl, gv, ?_⟩
      refine ⟨_, rfl, kd.s, _, .int (kd.many : Int), rfl, rfl, hm, ⟨tk, rfl⟩, b, kd, r, rfl, hb, gr, fun H2 g2 => ⟨_, rfl, iteF ⟨_, rfl, g.trans g2⟩⟩⟩
    · rintro σ' H' ⟨s1, rfl, g⟩
      exact q H' (gf.trans g.sf)
end
end K21
set_option Elab.async false
set_option linter.all false
set_option maxRecDepth 100000
set_option maxHeartbeats 4000000
namespace L2
open PySem
def PWt (H : Hp) (p : TW) (v : V) : Prop := ∃ a u, v = .ref a ∧ H a = some (.tup [u, .int (p.2 : Int)]) ∧ Rep H p.1 u
theorem PWt.mono {H H' : Hp} (k : Tk H H') {p : TW} {v : V} : PWt H p v → PWt H' p v
  | ⟨a, u, e, h, r⟩ => ⟨a, u, e, k _ _ h, r.mono k⟩
theorem mem_zip {w : Nat} {p : TW} : ∀ {ts : List Tr} {ks : List Nat}, p ∈ List.zipWith (fun t k => (t, w * k)) ts ks → ∃ t k, t ∈ ts ∧ k ∈ ks ∧ p = (t, w * k)
  | [], ks, h => by rw [List.zipWith_nil_left] at h; cases h
  | _ :: _, [], h => by rw [List.zipWith_nil_right] at h; cases h
  | t :: ts, k :: ks, h => by
    rw [List.zipWith_cons_cons] at h
    rcases List.mem_cons.mp h with rfl | h
    · exact ⟨t, k, List.mem_cons_self, List.mem_cons_self, rfl⟩
    · obtain ⟨t', k', h1, h2, h3⟩ := mem_zip h
      exact ⟨t', k', List.mem_cons_of_mem _ h1, List.mem_cons_of_mem _ h2, h3⟩
theorem wb_childs {ρ : Kd → List Nat} (g : GoodF ρ) {T : Nat} {L : List TW} (h : ∀ p ∈ L, Wb T p) : ∀ p ∈ L.flatMap (childs ρ), Wb T p := fun p hp => by
  obtain ⟨⟨t, w⟩, hq, hp⟩ := List.mem_flatMap.mp hp
  obtain ⟨t', k, h1, h2, rfl⟩ := mem_zip hp
  exact (h _ hq).child (part_size h1) (g.ks _ k h2).2
theorem sum_cast (f : TW → Nat) : ∀ L : List TW, (L.map fun p => ((f p : Nat) : Int)).sum = (((L.map f).sum : Nat) : Int)
  | [] => rfl
  | p :: L => by
    rw [List.map_cons, List.sum_cons, sum_cast f L, List.map_cons, List.sum_cons]
    omega
theorem parts_le3 (t : Tr) : t.parts.length ≤ 3 := by cases t <;> simp [Tr.parts]
theorem flat_len (ρ : Kd → List Nat) (L : List TW) : (L.flatMap (childs ρ)).length ≤ szZ L := by
  have h := szZ_level ρ L
  have : ∀ M : List TW, M.length ≤ szZ M := fun M => by
    induction M with
    | nil => exact Nat.zero_le _
    | cons p M ih =>
      have e : szZ (p :: M) = p.1.size + szZ M := by simp [szZ]
      have := size_pos20 p.1
      rw [e, List.length_cons]
      omega
  have := this (L.flatMap (childs ρ))
  omega
theorem szZ_take (L : List TW) (i : Nat) : szZ (L.take i) ≤ szZ L := by
  have e : szZ L = szZ (L.take i) + szZ (L.drop i) := by rw [← szZ_app, List.take_append_drop]
  omega
theorem sqT_same {K : PySem.W.Frag} {H H' : Hp} {a : Addr} {xs : List V} (g : Same H H') (h : SqT K H a xs) : SqT K H' a xs := by
  rcases h with (h | ⟨o, h⟩) | h
  · exact .inl (.inl (g _ _ h))
  · exact .inl (.inr ⟨o, g _ _ h⟩)
  · exact .inr h
theorem natV_at {r : List Nat} {i : Nat} {y : V} (h : (natV r)[i]? = some y) : ∃ n : Nat, r[i]? = some n ∧ y = V.int (n : Int) := by
  unfold natV at h
  rw [List.getElem?_map] at h
  obtain ⟨n, h1, h2⟩ := Option.map_eq_some_iff.mp h
  exact ⟨n, h1, h2.symm⟩
theorem row_cons {ρ : Kd → List Nat} (g : GoodF ρ) (k : Kd) : ∃ c ks, ρ k = c :: ks := by
  have := (g.ln k).1
  cases e : ρ k with
  | nil => rw [e] at this; simp at this
  | cons c ks => exact ⟨c, ks, rfl⟩
theorem abs_lt {n : Nat} (h : n < 2 ^ 500) : ((n : Nat) : Int).natAbs < 2 ^ 500 := by rw [Int.natAbs_natCast]; exact h
theorem small_lt {n : Nat} (h : n ≤ 9) : ((n : Nat) : Int).natAbs < 2 ^ 500 := abs_lt (Nat.lt_of_le_of_lt h (by decide +kernel))
def wB (ρ : Kd → List Nat) (β : Tr → Nat) : Tr → Nat
  | .say a => β (.say a) + dot ((ρ .say).drop 1) [wB ρ β a]
  | .bin o a b => β (.bin o a b) + dot ((ρ o.kd).drop 1) [wB ρ β a, wB ρ β b]
  | .ite a b c => β (.ite a b c) + dot ((ρ .ite).drop 1) [wB ρ β a, wB ρ β b, wB ρ β c]
  | .lett x a b => β (.lett x a b) + dot ((ρ .lett).drop 1) [wB ρ β a, wB ρ β b]
  | .num n => β (.num n)
  | .name x => β (.name x)
  | .ask x => β (.ask x)
  | .stop x => β (.stop x)
  | .gap g as => β (.gap g as)
theorem wB_eq (ρ : Kd → List Nat) (β : Tr → Nat) (t : Tr) : wB ρ β t = β t + dot ((ρ t.kd).drop 1) (t.parts.map (wB ρ β)) := by
  cases t with
  | say a => rfl
  | bin o a b => rfl
  | ite a b c => rfl
  | lett x a b => rfl
  | num n => exact (congrArg (β (.num n) + ·) (dot_nil _)).symm
  | name n => exact (congrArg (β (.name n) + ·) (dot_nil _)).symm
  | ask n => exact (congrArg (β (.ask n) + ·) (dot_nil _)).symm
  | stop n => exact (congrArg (β (.stop n) + ·) (dot_nil _)).symm
  | gap n as => exact (congrArg (β (.gap n as) + ·) (dot_nil _)).symm
def own (ρ : Kd → List Nat) (t : Tr) : Nat := (ρ t.kd).getD 0 0
theorem wrt_wB {ρ : Kd → List Nat} (g : GoodF ρ) : ∀ t : Tr, wrt ρ t = wB ρ (own ρ) t
  | .say a => by rw [wrt, wB, wrt_wB g a]; rfl
  | .bin o a b => by rw [wrt, wB, wrt_wB g a, wrt_wB g b]; rfl
  | .ite a b c => by rw [wrt, wB, wrt_wB g a, wrt_wB g b, wrt_wB g c]; rfl
  | .lett x a b => by rw [wrt, wB, wrt_wB g a, wrt_wB g b]; rfl
  | .num n => by show 1 = (ρ .num).getD 0 0; rw [g.one .num rfl]; rfl
  | .name n => by show 1 = (ρ .name).getD 0 0; rw [g.one .name rfl]; rfl
  | .ask n => by show 1 = (ρ .ask).getD 0 0; rw [g.one .ask rfl]; rfl
  | .stop n => by show 1 = (ρ .stop).getD 0 0; rw [g.one .stop rfl]; rfl
  | .gap n as => by show 1 = (ρ .gap).getD 0 0; rw [g.one .gap rfl]; rfl
theorem dot_add : ∀ (ks xs ys : List Nat), xs.length = ys.length → dot ks (List.zipWith (· + ·) xs ys) = dot ks xs + dot ks ys
  | [], _, _, _ => by simp [dot]
  | _ :: _, [], [], _ => by simp [dot]
  | k :: ks, x :: xs, y :: ys, h => by
    have ih := dot_add ks xs ys (by simpa using h)
    rw [List.zipWith_cons_cons, dot, dot, dot, ih, Nat.mul_add]
    omega
theorem wB_add (ρ : Kd → List Nat) (β γ : Tr → Nat) : ∀ t : Tr, wB ρ (fun t => β t + γ t) t = wB ρ β t + wB ρ γ t
  | .say a => by
    have := dot_add ((ρ .say).drop 1) [wB ρ β a] [wB ρ γ a] rfl
    simp only [List.zipWith_cons_cons, List.zipWith_nil_left] at this
    rw [wB, wB, wB, wB_add ρ β γ a, this]
    omega
  | .bin o a b => by
    have := dot_add ((ρ o.kd).drop 1) [wB ρ β a, wB ρ β b] [wB ρ γ a, wB ρ γ b] rfl
    simp only [List.zipWith_cons_cons, List.zipWith_nil_left] at this
    rw [wB, wB, wB, wB_add ρ β γ a, wB_add ρ β γ b, this]
    omega
  | .ite a b c => by
    have := dot_add ((ρ .ite).drop 1) [wB ρ β a, wB ρ β b, wB ρ β c] [wB ρ γ a, wB ρ γ b, wB ρ γ c] rfl
    simp only [List.zipWith_cons_cons, List.zipWith_nil_left] at this
    rw [wB, wB, wB, wB_add ρ β γ a, wB_add ρ β γ b, wB_add ρ β γ c, this]
    omega
  | .lett x a b => by
    have := dot_add ((ρ .lett).drop 1) [wB ρ β a, wB ρ β b] [wB ρ γ a, wB ρ γ b] rfl
    simp only [List.zipWith_cons_cons, List.zipWith_nil_left] at this
    rw [wB, wB, wB, wB_add ρ β γ a, wB_add ρ β γ b, this]
    omega
  | .num _ => rfl
  | .name _ => rfl
  | .ask _ => rfl
  | .stop _ => rfl
  | .gap _ _ => rfl
def Tr.gps : Tr → List Str
  | .gap g _ => [g]
  | .say a => a.gps
  | .bin _ a b => a.gps ++ b.gps
  | .ite a b c => a.gps ++ (b.gps ++ c.gps)
  | .lett _ a b => a.gps ++ b.gps
  | _ => []
def isG (g : Str) : Tr → Nat
  | .gap x _ => if x = g then 1 else 0
  | _ => 0
abbrev gw (ρ : Kd → List Nat) (g : Str) (t : Tr) : Nat := wB ρ (isG g) t
theorem dot_zero : ∀ (ks xs : List Nat), (∀ x ∈ xs, x = 0) → dot ks xs = 0
  | [], _, _ => rfl
  | _ :: _, [], _ => rfl
  | k :: ks, x :: xs, h => by
    rw [dot, h x List.mem_cons_self, dot_zero ks xs (fun y hy => h y (List.mem_cons_of_mem _ hy)), Nat.mul_zero]
theorem gw_none (ρ : Kd → List Nat) {g : Str} : ∀ {t : Tr}, g ∉ t.gps → gw ρ g t = 0
  | .say a, h => by
    have e := gw_none ρ (t := a) h
    rw [gw, wB, dot_zero _ _ (by simp [e])]; rfl
  | .bin o a b, h => by
    have h' : ¬ (g ∈ a.gps ∨ g ∈ b.gps) := fun z => h (List.mem_append.mpr z)
    have e1 := gw_none ρ (t := a) (fun z => h' (.inl z))
    have e2 := gw_none ρ (t := b) (fun z => h' (.inr z))
    rw [gw, wB, dot_zero _ _ (by simp [e1, e2])]; rfl
  | .ite a b c, h => by
    have h' : ¬ (g ∈ a.gps ∨ g ∈ b.gps ∨ g ∈ c.gps) := fun z => h (List.mem_append.mpr (z.imp id List.mem_append.mpr))
    have e1 := gw_none ρ (t := a) (fun z => h' (.inl z))
    have e2 := gw_none ρ (t := b) (fun z => h' (.inr (.inl z)))
    have e3 := gw_none ρ (t := c) (fun z => h' (.inr (.inr z)))
    rw [gw, wB, dot_zero _ _ (by simp [e1, e2, e3])]; rfl
  | .lett x a b, h => by
    have h' : ¬ (g ∈ a.gps ∨ g ∈ b.gps) := fun z => h (List.mem_append.mpr z)
    have e1 := gw_none ρ (t := a) (fun z => h' (.inl z))
    have e2 := gw_none ρ (t := b) (fun z => h' (.inr z))
    rw [gw, wB, dot_zero _ _ (by simp [e1, e2])]; rfl
  | .num _, _ => rfl
  | .name _, _ => rfl
  | .ask _, _ => rfl
  | .stop _, _ => rfl
  | .gap x as, h => by
    have : ¬ x = g := fun z => h (by rw [← z]; exact List.mem_singleton.mpr rfl)
    show (if x = g then 1 else 0) = 0
    rw [if_neg this]
def sumSB (ρ : Kd → List Nat) (β : Tr → Nat) (L : List TW) : Nat := (L.map fun p => p.2 * wB ρ β p.1).sum
def sumCB (β : Tr → Nat) (L : List TW) : Nat := (L.map fun p => p.2 * β p.1).sum
theorem sumSB_zip (ρ : Kd → List Nat) (β : Tr → Nat) (w : Nat) : ∀ (ts : List Tr) (ks : List Nat), sumSB ρ β (List.zipWith (fun t k => (t, w * k)) ts ks) = w * dot ks (ts.map (wB ρ β))
  | [], ks => by rw [List.zipWith_nil_left, List.map_nil, dot_nil]; rfl
  | _ :: _, [] => by rw [List.zipWith_nil_right]; rfl
  | t :: ts, k :: ks => by
    have ih := sumSB_zip ρ β w ts ks
    unfold sumSB at ih ⊢
    rw [List.zipWith_cons_cons, List.map_cons, List.sum_cons, ih, List.map_cons, dot, Nat.mul_add, Nat.mul_assoc]
theorem sumSB_one (ρ : Kd → List Nat) (β : Tr → Nat) (p : TW) : p.2 * wB ρ β p.1 = p.2 * β p.1 + sumSB ρ β (childs ρ p) := by
  unfold childs
  rw [sumSB_zip, wB_eq ρ β p.1, Nat.mul_add]
theorem sumSB_app (ρ : Kd → List Nat) (β : Tr → Nat) (a b : List TW) : sumSB ρ β (a ++ b) = sumSB ρ β a + sumSB ρ β b := by simp [sumSB]
theorem sumCB_app (β : Tr → Nat) (a b : List TW) : sumCB β (a ++ b) = sumCB β a + sumCB β b := by simp [sumCB]
theorem sumSB_level (ρ : Kd → List Nat) (β : Tr → Nat) : ∀ L : List TW, sumSB ρ β L = sumCB β L + sumSB ρ β (L.flatMap (childs ρ))
  | [] => rfl
  | p :: L => by
    have ih := sumSB_level ρ β L
    have e := sumSB_one ρ β p
    rw [List.flatMap_cons, sumSB_app]
    have e1 : sumSB ρ β (p :: L) = p.2 * wB ρ β p.1 + sumSB ρ β L := by simp [sumSB]
    have e2 : sumCB β (p :: L) = p.2 * β p.1 + sumCB β L := by simp [sumCB]
    omega
end L2
namespace K21
open PySem PySem.Spec L2 PyProof.Rows
abbrev s_weighed_parts : Stmt := top 16
theorem sc_weighed_parts : FnScope ["tree", "scale", "found", "level", "deeper", "part", "weight", "row"] ["tree", "scale"] (defScope s_weighed_parts) := ⟨rfl, rfl, rfl, by decide +kernel, rfl, by decide +kernel, by decide +kernel⟩
abbrev s_worth : Stmt := top 17
theorem sc_worth : FnScope ["tree", "scale"] ["tree", "scale"] (defScope s_worth) := ⟨rfl, rfl, rfl, by decide +kernel, rfl, by decide +kernel, by decide +kernel⟩
section
variable {P : Program} {w : World} {K : PySem.W.Frag} {mg : Str → Option Value} {base : Heap}
def sp_weighed : Sp := fun vs H Q _ => ∃ (t : Tr) (v : V) (d : Addr) (rs : Scl), vs = [v, .ref d] ∧ Rep H t v ∧ ScAt H d rs ∧ t.size ≤ 300 ∧
  ∀ (l : Addr) (us : List V) (F : List TW) (H' : Hp), Same H H' → H' l = some (.lst us) → Paired (PWt H') F us → (∀ β, sumCB β F = wB (rowF rs) β t) → F.length ≤ 300 → (∀ p ∈ F, Wb 300 p) → Q (.ref l) H'
theorem ok_weighed {k : Nat} {f g1 oa : Addr} {fd gd1 : FuncData} (F : Fun K "weighed_parts" "weighed_parts" s_weighed_parts f fd) (z_zip : mg "zip" = none) (m_ONES : mg "ONES" = some (.ref oa)) (hO : OnesK K oa)
    (G_parts : FnB P w K mg base k "parts" g1 gd1 ["tree"] sp_parts) : FnOk P w K mg base CX0 (k + 1) f fd ["tree", "scale"] sp_weighed := by
  refine F.ok sc_weighed_parts (fun vs H Q E h => ?_) (fun cdv A outer s H vs Q E hr h => ?_)
  · obtain ⟨t, v, d, rs, rfl, _⟩ := h
    rfl
  obtain ⟨t, v, d, rs, rfl, hR, ⟨kvs, sc⟩, hsz, q⟩ := h
  have hu := hu_of hr
  have gF : GoodF (rowF rs) := rowF_good (good_of sc.ps)
  refine ⟨_, (pss_cons (ps_set (i := 2) sc_weighed_parts.nd rfl (Or.inl rfl) (pe_lst pa_nil : PE _ _ _))
    (pss_cons (ps_set (i := 3) sc_weighed_parts.nd rfl (Or.inl rfl) (pe_lst (pa_cons (pe_tup (pa_cons (pv 0) (pa_cons pe_int pa_nil)) : PE _ _ _) pa_nil) : PE _ _ _))
    (pss_cons (ps_while PassesOwn.never (pt_truth (pv 3) (fun _ => rfl)) (pss_cons (ps_expr (pe_bm PySem.F.plainAttrs_list PySem.F.slot_list_extend PySem.F.type_list_extend mt_extend (pv 2) (pa_cons (pv 3) pa_nil)))
    (pss_cons (ps_set (i := 4) sc_weighed_parts.nd rfl (Or.inl rfl) (pe_lst pa_nil : PE _ _ _))
    (pss_cons (ps_for PassesOwn.never rfl (pi_list (pv 3)) (pg_tup rfl (pgs_cons (pg_name (i := 5) sc_weighed_parts.nd rfl (Or.inl rfl)) (pgs_cons (pg_name (i := 6) sc_weighed_parts.nd rfl (Or.inr rfl)) pgs_nil))) (pss_cons (ps_set (i := 7) sc_weighed_parts.nd rfl (Or.inl rfl) (pe_dget2 hu (pv 1) (pe_ix (r := rIxT K) ix_tup (pv 5) pe_int (fun _ _ => rfl)) (pe_glob (v := .ref _) (by rfl) m_ONES (by rfl)) ⟨rfl, rfl, rfl, rfl⟩))
    (pss_one (ps_expr (pe_bm PySem.F.plainAttrs_list PySem.F.slot_list_extend PySem.F.type_list_extend mt_extend (pv 4) (pa_cons (pe_compB ["inner", "times", "weight"] [none, none, some 6] rfl (pi_zip (by rfl) z_zip (pa_cons (pe_call G_parts.ok hr (by rfl) G_parts.gl G_parts.kp G_parts.bd .nil pass0 (pa_cons (pv 5) pa_nil)) (pa_cons (pe_slice (r := rSlT K) sl_tup (pv 7) (po_some pe_int) po_none) pa_nil))) (fun _ _ _ _ _ => (pg_tupK (K := K) (n := 2) rfl rfl (pgs_cons (pg_name (i := 0) (show List.Nodup (["inner", "times", "weight"] : List Str) by decide +kernel) rfl (Or.inl rfl)) (pgs_cons (pg_name (i := 1) (show List.Nodup (["inner", "times", "weight"] : List Str) by decide +kernel) rfl (Or.inl rfl)) pgs_nil)))) (fun _ _ _ _ _ => pts_nil) (fun _ _ _ _ _ => (pe_tup (pa_cons (pv 0) (pa_cons (pe_op op_mulC (pv 2) (pv 1)) pa_nil)) : PE _ _ _)) rfl) pa_nil))))))
    (pss_one (ps_set (i := 3) sc_weighed_parts.nd rfl (Or.inl rfl) (pv 4)))))))
    (pss_one (ps_ret (pv 2)))))), ?_⟩
  have d2 : 2 ≤ sizeLine := by decide
  refine ⟨(by show 0 ≤ sizeLine; decide), fun fo hfo => ⟨_, rfl, d2, fun pr hpr => ⟨(by show 1 ≤ sizeLine; decide), fun l hl => ?_⟩⟩⟩
  have g1 := same_upd (o := .lst []) hfo
  have g2 := same_upd (o := .tup [v, .int 1]) hpr
  have g3 := same_upd (o := .lst [.ref pr]) hl
  have gA := g1.trans (g2.trans g3)
  have hlH : H l = none := (g1.trans g2).free hl
  have hlf : l ≠ fo := Ne.symm (ne_of_none (g2 _ _ upd_same) hl)
  refine ⟨fun m σ' H' => ∃ (l : Addr) (ls fs : List V) (L Fd : List TW) (s4 s5 s6 s7 : Option V), σ' = [some v, some (.ref d), some (.ref fo), some (.ref l), s4, s5, s6, s7] ∧ Same H H' ∧ H l = none ∧ l ≠ fo ∧ H' fo = some (.lst fs) ∧ H' l = some (.lst ls) ∧
      Paired (PWt H') Fd fs ∧ Paired (PWt H') L ls ∧ m = szZ L ∧ (∀ β, sumCB β Fd + sumSB (rowF rs) β L = wB (rowF rs) β t) ∧ Fd.length + szZ L ≤ t.size ∧ (∀ p ∈ Fd, Wb 300 p) ∧ (∀ p ∈ L, Wb 300 p),
    ⟨t.size, l, [.ref pr], [], [(t, 1)], [], none, none, none, none, rfl, gA, hlH, hlf, g3 _ _ (g2 _ _ upd_same), upd_same, .nil, .cons ⟨pr, v, rfl, g3 _ _ upd_same, hR.mono gA.tk⟩ .nil, by simp [szZ], by intro β; simp [sumCB, sumSB], by simp [szZ], by simp, ?_⟩, ?_⟩
  · intro p hp
    have e := List.mem_singleton.mp hp
    subst e
    unfold Wb
    rw [Nat.one_mul]
    exact Nat.pow_le_pow_right (by decide) hsz
  rintro m σ' Hw ⟨l, ls, fs, L, Fd, s4, s5, s6, s7, rfl, gw, hl, hlf, ef, el, pF, pL, rfl, hsum, hcnt, wF, wL⟩
  have lL : ls.length = L.length := paired_len pL
  have lF : fs.length = Fd.length := paired_len pF
  have hZ := szZ_level (rowF rs) L
  refine ⟨_, rfl, _, .inl ⟨ls, SqL.of el, rfl⟩, ?_⟩
  refine ite2 (fun c => ?_) (fun c => ?_)
  · refine ⟨_, fun _ _ h => h, ?_⟩
    refine ⟨_, rfl, .inl ⟨rfl, _, SqL.of ef⟩, _, rfl, fo, l, fs, ls, rfl, rfl, ef, el, line1000 (by omega), ?_⟩
    have ef1 : (upd Hw fo (.lst (fs ++ ls))) fo = some (.lst (fs ++ ls)) := upd_same
    have el1 : (upd Hw fo (.lst (fs ++ ls))) l = some (.lst ls) := by rw [upd_ne hlf]; exact el
    have gw1 : Same H (upd Hw fo (.lst (fs ++ ls))) := same_set gw hfo
    have tk1 : Tk Hw (upd Hw fo (.lst (fs ++ ls))) := Tk.lst ef
    show tSeq _ _ _ _ (upd Hw fo (.lst (fs ++ ls)))
    generalize upd Hw fo (.lst (fs ++ ls)) = H1 at ef1 el1 gw1 tk1 ⊢
    refine ⟨(by show 0 ≤ sizeLine; decide), fun dp hdp => ?_⟩
    have g4 := same_upd (o := .lst []) hdp
    have hdpH : H dp = none := gw1.free hdp
    have ndf : dp ≠ fo := Ne.symm (ne_of_none ef1 hdp)
    have ndl : dp ≠ l := Ne.symm (ne_of_none el1 hdp)
    refine ⟨_, rfl, l, rfl, ⟨ls, SqL.of (g4 _ _ el1)⟩, ?_⟩
    refine for_list (xs := ls) (fun i σ' H' => ∃ (dps : List V) (s5 s6 s7 : Option V), σ' = [some v, some (.ref d), some (.ref fo), some (.ref l), some (.ref dp), s5, s6, s7] ∧ Same H H' ∧ Tk H1 H' ∧
      H' fo = some (.lst (fs ++ ls)) ∧ H' l = some (.lst ls) ∧ H' dp = some (.lst dps) ∧ Paired (PWt H') ((L.take i).flatMap (childs (rowF rs))) dps) ?_ ?_ ?_ ?_
    · exact ⟨[], s5, s6, s7, rfl, gw1.trans g4, g4.tk, g4 _ _ ef1, g4 _ _ el1, upd_same, .nil⟩
    · rintro i σ1 H2 _ ⟨dps, s5, s6, s7, rfl, g5, k5, ef5, el5, ed5, p5⟩
      exact SqL.of el5
    · rintro i x σ1 H2 hx ⟨dps, s5, s6, s7, rfl, g5, k5, ef5, el5, ed5, p5⟩
      obtain ⟨⟨tq, wq⟩, eq, rq⟩ := paired_get pL hx
      have hmem : (tq, wq) ∈ L := List.mem_of_getElem? eq
      obtain ⟨a, u, rfl, ha, ru⟩ := rq.mono (tk1.trans k5)
      dsimp only at ha ru
      have sc5 := sc.mono g5.sf
      obtain ⟨o, rp, gv, eo, hrow⟩ := row_at sc5 hO tq.kd
      obtain ⟨c0, ks, er⟩ := row_cons gF tq.kd
      obtain ⟨pa, hs, us, rfl, hpa, hhl, hparts⟩ := ru.all
      have at0 : atI (V.str tq.kd.s :: hs ++ us) 0 = some (.str tq.kd.s) := atI_nat (j := 0) rfl
      refine ⟨a, _, rfl, SqT.of ha, rfl, _, _, rfl, _, _, rfl, rfl, ?_⟩
      refine ⟨_, rfl, d, rfl, .inl ⟨kvs, sc5.rd⟩, _, rfl, pa, _, 0, _, rfl, rfl, SqT.of hpa, at0, o, gv, ?_⟩
      rw [eo]
      rw [er] at hrow
      have hrow' : SqT K H2 rp (V.int (c0 : Int) :: natV ks) := hrow
      refine ⟨_, rfl, .inl ⟨rfl, _, SqL.of ed5⟩, ?_⟩
      refine ⟨_, rfl, tq, _, rfl, ru, fun pp H3 us3 g6 e6 hus => ?_⟩
      have hrow6 : SqT K H3 rp (V.int (c0 : Int) :: natV ks) := sqT_same g6 hrow'
      refine ⟨_, rfl, 1, rfl, rp, _, rfl, hrow6, cut1_not _ _, fun pz hpz => ?_⟩
      rw [cut1]
      have g7 := same_upd (o := .tup (natV ks)) hpz
      have ez : (upd H3 pz (.tup (natV ks))) pz = some (.tup (natV ks)) := upd_same
      have ep7 := g7 _ _ e6
      have hus7 : Paired (Rep (upd H3 pz (.tup (natV ks)))) tq.parts us3 := Paired.mapP hus fun _ _ z => z.mono g7.tk
      have g57 := g6.trans g7
      generalize upd H3 pz (.tup (natV ks)) = H4 at g57 ez ep7 hus7 ⊢
      refine ⟨pp, pz, us3, natV ks, rfl, ep7, ez, fun acc hacc => ?_⟩
      have lus : us3.length = tq.parts.length := paired_len hus7
      have lch : (childs (rowF rs) (tq, wq)).length = min us3.length (natV ks).length := by
        unfold childs
        rw [List.length_zipWith, lus, natV_len]
        dsimp only
        rw [er]
        rfl
      have wq0 := (wL _ hmem)
      refine comp_zipR (xs := us3) (ys := natV ks) (fun i H' => Same H4 H' ∧ ∃ zs, H' acc = some (.lst zs) ∧ Paired (PWt H') ((childs (rowF rs) (tq, wq)).take i) zs) ⟨same_upd hacc, [], upd_same, by rw [List.take_zero]; exact .nil⟩ (fun i H' _ h => ⟨h.1 _ _ ep7, h.1 _ _ ez⟩) ?_ ?_
      · rintro j x y T Hx hx2 hy2 ⟨gx, zs, ezs, pz⟩ hT
        obtain ⟨ti, eti, rti⟩ := paired_get hus7 hx2
        obtain ⟨kn, ekn, rfl⟩ := natV_at hy2
        have hkn : kn ∈ (rowF rs tq.kd).drop 1 := by rw [er]; exact List.mem_of_getElem? ekn
        have hk3 := (gF.ks _ kn hkn).2
        have g8 := same_upd (o := .tup [x, .int (kn : Int)]) hT
        have hj : j < (childs (rowF rs) (tq, wq)).length := by
          rw [lch]
          have a1 := (List.getElem?_eq_some_iff.mp hx2).1
          have a2 := (List.getElem?_eq_some_iff.mp hy2).1
          omega
        have lzs : zs.length ≤ j := by rw [paired_len pz, List.length_take]; omega
        have echild : (childs (rowF rs) (tq, wq))[j]? = some (ti, wq * kn) := by
          have ekn' : ((rowF rs tq.kd).drop 1)[j]? = some kn := by rw [er]; exact ekn
          unfold childs
          rw [List.getElem?_zipWith]
          dsimp only
          rw [eti, ekn']
        have hk9 : kn ≤ 9 := by omega
        refine ⟨T, _, rfl, SqT.of upd_same, rfl, _, _, rfl, _, _, rfl, rfl, .skip (.skip (.keep .nil)), ?_⟩
        refine ⟨_, rfl, _, rfl, _, rfl, _, _, rfl, rfl, ⟨abs_lt (wq0.lt (by decide)), small_lt hk9⟩, d2, fun pt hpt => ?_⟩
        have g9 := same_upd (o := .tup [x, .int ((wq : Int) * (kn : Int))]) hpt
        have gz := gx.trans (g8.trans g9)
        refine ⟨zs, g9 _ _ (g8 _ _ ezs), small1000 (by have := lus; have hp3 : tq.parts.length ≤ 3 := parts_le3 tq; omega), same_set gz hacc, _, upd_same, ?_⟩
        rw [take_next echild]
        have tk9 : Tk Hx _ := g8.tk.trans (g9.tk.trans (Tk.lst (o := .lst (zs ++ [.ref pt])) (g9 _ _ (g8 _ _ ezs))))
        have tk8 : Tk _ _ := (Tk.lst (o := .lst (zs ++ [.ref pt])) (g9 _ _ (g8 _ _ ezs)))
        refine paired_append (Paired.mapP pz fun _ _ z => z.mono tk9) (.cons ⟨pt, x, rfl, tk8 _ _ ?_, rti.mono (gx.tk.trans tk9)⟩ .nil)
        rw [upd_same, Int.natCast_mul]
      rintro H5 ⟨g8, zs, ezs, pz⟩
      rw [List.take_of_length_le (by omega)] at pz
      have g58 := g57.trans g8
      have ed8 := g58 _ _ ed5
      have lz : zs.length = (childs (rowF rs) (tq, wq)).length := paired_len pz
      have ldp : dps.length = ((L.take i).flatMap (childs (rowF rs))).length := paired_len p5
      have hflat : ((L.take (i + 1)).flatMap (childs (rowF rs))) = ((L.take i).flatMap (childs (rowF rs))) ++ childs (rowF rs) (tq, wq) := by
        rw [take_next eq, List.flatMap_append]
        simp
      have hlen : dps.length + zs.length ≤ 1000 := by
        have z1 := flat_len (rowF rs) (L.take (i + 1))
        rw [hflat, List.length_append] at z1
        have z2 := szZ_take L (i + 1)
        omega
      refine ⟨dp, acc, dps, zs, rfl, rfl, ed8, ezs, line1000 hlen, ?_⟩
      have tkz : Tk H5 (upd H5 dp (.lst (dps ++ zs))) := Tk.lst ed8
      refine ⟨dps ++ zs, _, _, _, rfl, same_set (g5.trans g58) hdpH, k5.trans (g58.tk.trans tkz), by rw [upd_ne (Ne.symm ndf)]; exact g58 _ _ ef5, by rw [upd_ne (Ne.symm ndl)]; exact g58 _ _ el5, upd_same, ?_⟩
      rw [hflat]
      exact paired_append (Paired.mapP p5 fun _ _ z => z.mono (g58.tk.trans tkz)) (Paired.mapP pz fun _ _ z => z.mono tkz)
    · rintro σ1 H2 ⟨dps, s5, s6, s7, rfl, g5, k5, ef5, el5, ed5, p5⟩
      rw [List.take_of_length_le (by omega)] at p5
      have hpos : 0 < L.length := by
        rw [← lL]
        cases ls with
        | nil => simp at c
        | cons _ _ => simp
      refine ⟨_, rfl, szZ (L.flatMap (childs (rowF rs))), by omega, dp, dps, fs ++ ls, L.flatMap (childs (rowF rs)), Fd ++ L, some (.ref dp), s5, s6, s7, rfl, g5, hdpH, ndf, ef5, ed5, paired_append (Paired.mapP pF fun _ _ z => z.mono (tk1.trans k5)) (Paired.mapP pL fun _ _ z => z.mono (tk1.trans k5)), p5, rfl, ?_, ?_, ?_, wb_childs gF wL⟩
      · intro β
        have := sumSB_level (rowF rs) β L
        have := hsum β
        rw [sumCB_app]
        omega
      · rw [List.length_append]
        omega
      · intro p hp
        rcases List.mem_append.mp hp with h | h
        · exact wF p h
        · exact wL p h
  · have e0 : ls = [] := by
      cases ls with
      | nil => rfl
      | cons _ _ => simp at c
    have eL : L = [] := by
      subst e0
      cases L with
      | nil => rfl
      | cons _ _ => simp at lL
    subst eL
    refine ⟨_, rfl, q fo fs Fd Hw gw ef pF (fun β => ?_) (by omega) wF⟩
    have := hsum β
    have : sumSB (rowF rs) β [] = 0 := rfl
    omega
def sp_worth : Sp := fun vs H Q _ => ∃ (t : Tr) (v : V) (d : Addr) (rs : Scl), vs = [v, .ref d] ∧ Rep H t v ∧ ScAt H d rs ∧ t.size ≤ 300 ∧ ∀ H' : Hp, Sf H H' → Q (.int ((wrt (rowF rs) t : Nat) : Int)) H'
theorem ok_worth {k : Nat} {f g1 g2 oa : Addr} {fd gd1 gd2 : FuncData} (F : Fun K "worth" "worth" s_worth f fd) (z_sum : mg "sum" = none) (m_ONES : mg "ONES" = some (.ref oa)) (hO : OnesK K oa)
    (G_check_scale : FnB P w K mg base k "check_scale" g1 gd1 ["scale"] sp_check_scale) (G_weighed_parts : FnB P w K mg base k "weighed_parts" g2 gd2 ["tree", "scale"] sp_weighed) : FnOk P w K mg base CX0 (k + 1) f fd ["tree", "scale"] sp_worth := by
  refine F.ok sc_worth (fun vs H Q E h => ?_) (fun cdv A outer s H vs Q E hr h => ?_)
  · obtain ⟨t, v, d, rs, rfl, _⟩ := h
    rfl
  obtain ⟨t, v, d, rs, rfl, hR, hsc, hsz, q⟩ := h
  have hu := hu_of hr
  refine ⟨_, (pss_cons (ps_expr (pe_call G_check_scale.ok hr (by rfl) G_check_scale.gl G_check_scale.kp G_check_scale.bd .nil pass0 (pa_cons (pv 1) pa_nil)))
    (pss_one (ps_ret (pe_callB (call_sumL rfl) (by rfl) z_sum boot_sum' (pa_cons (pe_compB ["part", "weight", "scale"] [none, none, some 1] rfl (pi_list (pe_call G_weighed_parts.ok hr (by rfl) G_weighed_parts.gl G_weighed_parts.kp G_weighed_parts.bd .nil pass0 (pa_cons (pv 0) (pa_cons (pv 1) pa_nil)))) (fun _ _ _ _ _ => (pg_tupK (K := K) (n := 2) rfl rfl (pgs_cons (pg_name (i := 0) (show List.Nodup (["part", "weight", "scale"] : List Str) by decide +kernel) rfl (Or.inl rfl)) (pgs_cons (pg_name (i := 1) (show List.Nodup (["part", "weight", "scale"] : List Str) by decide +kernel) rfl (Or.inl rfl)) pgs_nil)))) (fun _ _ _ _ _ => pts_nil) (fun _ _ _ _ _ => (pe_op op_mulC (pv 1) (pe_ix (r := rIxT K) ix_tup (pe_dget2 hu (pv 2) (pe_ix (r := rIxT K) ix_tup (pv 0) pe_int (fun _ _ => rfl)) (pe_glob (v := .ref _) (by rfl) m_ONES (by rfl)) ⟨rfl, rfl, rfl, rfl⟩) pe_int (fun _ _ => rfl)))) rfl) pa_nil))))), ?_⟩
  refine ⟨_, rfl, d, rs, rfl, hsc, fun H1 gf => ?_⟩
  have sc1 := hsc.mono gf
  refine ⟨_, rfl, _, rfl, t, v, d, rs, rfl, hR.mono gf.tk, sc1, hsz, fun l us L H2 g2 el pL hC hlen hW => ⟨l, rfl, ⟨us, SqL.of el⟩, fun acc hacc => ?_⟩⟩
  obtain ⟨kvs, sc2⟩ := sc1.mono g2.sf
  have gF : GoodF (rowF rs) := rowF_good (good_of sc2.ps)
  refine comp_listR (xs := us) (fun i H' => Same H2 H' ∧ H' acc = some (.lst (((L.take i).map fun p => ((p.2 * (rowF rs p.1.kd).getD 0 0 : Nat) : Int)).map V.int))) ⟨same_upd hacc, upd_same⟩ (fun i H' _ h => SqL.of (h.1 _ _ el)) ?_ ?_
  · rintro i x Hx hx ⟨gx, ex⟩
    obtain ⟨⟨tq, wq⟩, eq, rq⟩ := paired_get pL hx
    have hi : i < us.length := (List.getElem?_eq_some_iff.mp hx).1
    have lu := paired_len pL
    obtain ⟨a, u, rfl, ha, ru⟩ := rq.mono gx.tk
    dsimp only at ha ru
    have sc3 := sc2.mono gx.sf
    obtain ⟨o, rp, gv, eo, hrow⟩ := row_at sc3 hO tq.kd
    obtain ⟨c0, ks, er⟩ := row_cons gF tq.kd
    obtain ⟨pa, hs, us', rfl, hpa, hhl, hparts⟩ := ru.all
    have at0 : atI (V.str tq.kd.s :: hs ++ us') 0 = some (.str tq.kd.s) := atI_nat (j := 0) rfl
    have c9 : c0 ≤ 9 := by have := gF.c9 tq.kd; rw [er] at this; simpa using this
    rw [er] at hrow
    refine ⟨a, _, rfl, SqT.of ha, rfl, _, _, rfl, _, _, rfl, rfl, .skip (.skip (.keep .nil)), ?_⟩
    refine ⟨_, rfl, _, rfl, d, rfl, .inl ⟨kvs, sc3.rd⟩, _, rfl, pa, _, 0, _, rfl, rfl, SqT.of hpa, at0, o, gv, ?_⟩
    refine ⟨rp, _, 0, _, eo, rfl, hrow, atI_nat (j := 0) rfl, _, _, rfl, rfl, ⟨abs_lt ((hW _ (List.mem_of_getElem? eq)).lt (by decide)), small_lt c9⟩, _, ex, small1000 (by simp; omega), same_set gx hacc, ?_⟩
    rw [upd_same, take_next eq, List.map_append, List.map_append]
    have e1 : (rowF rs tq.kd).getD 0 0 = c0 := by rw [er]; rfl
    simp only [List.map_cons, List.map_nil, e1, Int.natCast_mul]
  rintro H3 ⟨g3, e3⟩
  rw [List.take_of_length_le (by rw [paired_len pL]; exact Nat.le_refl _)] at e3
  refine ⟨acc, _, rfl, e3, ?_⟩
  rw [sum_cast (fun p => p.2 * (rowF rs p.1.kd).getD 0 0)]
  have e : (L.map fun p => p.2 * (rowF rs p.1.kd).getD 0 0).sum = wrt (rowF rs) t := by
    rw [wrt_wB gF t]
    exact hC (own (rowF rs))
  rw [e]
  exact q H3 (gf.trans (g2.trans g3).sf)
end
end K21
set_option Elab.async false
set_option linter.all false
set_option maxRecDepth 100000
set_option maxHeartbeats 4000000
namespace L2
open PySem
theorem atI_in {α : Type} {xs : List α} {i : Int} (h0 : 0 ≤ i) (h1 : i < xs.length) : ∃ v, v ∈ xs ∧ atI xs i = some v := by
  have hl : i.toNat < xs.length := by omega
  have e : ((i.toNat : Nat) : Int) = i := by omega
  refine ⟨xs[i.toNat], List.getElem_mem hl, ?_⟩
  have := atI_nat (xs := xs) (j := i.toNat) (v := xs[i.toNat]) (List.getElem?_eq_getElem hl)
  rwa [e] at this
theorem len_app (x y : Str) : (x ++ y).length = x.length + y.length := strLen_append x y
theorem letter_at {L : Str} (h : L.length = 26) (z : Int) : ∃ c : Nat, atI L.cps.toList (z % 26) = some c := by
  have hl : ((L.cps.toList).length : Int) = 26 := by
    rw [Array.length_toList]
    exact_mod_cast h
  obtain ⟨v, _, e⟩ := atI_in (xs := L.cps.toList) (i := z % 26) (by omega) (by omega)
  exact ⟨v, e⟩
def nm (ws : List Str) (i : Int) : Str := ws.getD i.toNat ⟨#[]⟩
theorem div_ok : ∀ j : Nat, j < 8 → (0 : Int) < 64 * (0 + (j : Int) + 1) * (0 + (j : Int) + 2) ∧ 64 * (0 + (j : Int) + 1) * (0 + (j : Int) + 2) < 1073741824 := by decide +kernel
def sgs : List Kd := [.say, .add, .sub, .mul, .thn, .ite, .lett]
def sgsV : List V := [.str "say", .str "add", .str "sub", .str "mul", .str "then", .str "if", .str "let"]
theorem sgs_at {i : Nat} {x : V} (h : sgsV[i]? = some x) : ∃ k : Kd, sgs[i]? = some k ∧ x = .str k.s ∧ k.leaf = false := by
  have hi : i < 7 := (List.getElem?_eq_some_iff.mp h).1
  have cs : i = 0 ∨ i = 1 ∨ i = 2 ∨ i = 3 ∨ i = 4 ∨ i = 5 ∨ i = 6 := by omega
  rcases cs with rfl | rfl | rfl | rfl | rfl | rfl | rfl <;> (cases h; exact ⟨_, rfl, rfl, rfl⟩)
theorem sgs_nd : sgs.Nodup := by decide
theorem sgs_new {i : Nat} {k : Kd} (h : sgs[i]? = some k) : k ∉ sgs.take i := fun z => by
  obtain ⟨j, hj⟩ := List.getElem?_of_mem z
  have hji : j < i := by
    have := (List.getElem?_eq_some_iff.mp hj).1
    rw [List.length_take] at this
    omega
  rw [List.getElem?_take_of_lt hji] at hj
  have hi : i < sgs.length := (List.getElem?_eq_some_iff.mp h).1
  exact absurd (nodup_at sgs_nd hj h) (by omega)
theorem lookup_new : ∀ {rs : Scl} {k : Kd}, k ∉ rs.map (·.1) → rs.lookup k = none
  | [], _, _ => rfl
  | (k0, r0) :: rs, k, h => by
    rw [List.map_cons, List.mem_cons, not_or] at h
    have z : (k == k0) = false := by simpa using h.1
    rw [List.lookup_cons, z]
    exact lookup_new h.2
theorem natV_snoc (r : List Nat) (z : Int) (h : 0 ≤ z) : natV r ++ [V.int z] = natV (r ++ [z.toNat]) := by
  unfold natV
  rw [List.map_append]
  have : ((z.toNat : Nat) : Int) = z := by omega
  simp [this]
end L2
namespace K21
open PySem PySem.Spec L2 PyProof.Rows
abbrev s_law_cell_at : Stmt := top 21
theorem sc_law_cell_at : FnScope ["_law_script", "_law_k"] ["_law_script", "_law_k"] (defScope s_law_cell_at) := ⟨rfl, rfl, rfl, by decide +kernel, rfl, by decide +kernel, by decide +kernel⟩
abbrev s_law_words : Stmt := top 22
theorem sc_law_words : FnScope ["_law_cell", "_law_many", "_law_letters", "_law_long", "_law_at", "_law_found", "_law_k", "_law_word", "_law_j", "_law_number"] ["_law_cell", "_law_many"] (defScope s_law_words) := ⟨rfl, rfl, rfl, by decide +kernel, rfl, by decide +kernel, by decide +kernel⟩
abbrev s_law_scale : Stmt := top 23
theorem sc_law_scale : FnScope ["_law_cells", "_law_scale_here", "_law_sign", "_law_cell", "_law_many", "_law_row", "_law_rest", "_law_k"] ["_law_cells"] (defScope s_law_scale) := ⟨rfl, rfl, rfl, by decide +kernel, rfl, by decide +kernel, by decide +kernel⟩
section
variable {P : Program} {w : World} {K : PySem.W.Frag} {mg : Str → Option Value} {base : Heap}
def sp_cell_at (K : PySem.W.Frag) : Sp := fun vs H Q _ => ∃ (a : Addr) (ns : List Int) (k : Int), vs = [.ref a, .int k] ∧ SqL K H a (ns.map V.int) ∧ 0 ≤ k ∧ Q (.int (ns.getD k.toNat 0)) H
theorem ok_cell_at {k : Nat} {f : Addr} {fd : FuncData} (F : Fun K "_law_cell_at" "_law_cell_at" s_law_cell_at f fd) (z_len : mg "len" = none) : FnOk P w K mg base CX0 (k + 1) f fd ["_law_script", "_law_k"] (sp_cell_at K) := by
  refine F.ok sc_law_cell_at (fun vs H Q E h => ?_) (fun cdv A outer s H vs Q E hr h => ?_)
  · obtain ⟨a, ns, k, rfl, _⟩ := h
    rfl
  obtain ⟨a, ns, k, rfl, hS, h0, q⟩ := h
  refine ⟨_, (pss_cons (ps_if (pt_cmpR op_lt (pv 1) (pe_callB call_len_seq (by rfl) z_len PySem.boot_len (pa_cons (pv 0) pa_nil)) (nomark _)) (pss_one (ps_ret (pe_ix (r := rIxL K) ix_list (pv 0) (pv 1) (fun _ _ => rfl)))) pss_nil)
    (pss_one (ps_ret pe_int))), ?_⟩
  refine ⟨_, rfl, _, rfl, a, _, rfl, .inl hS, _, _, rfl, rfl, _, rfl, ?_⟩
  refine ite2 (fun c => ?_) (fun c => ?_)
  · have c' : k < ((ns.map V.int).length : Int) := of_decide_eq_true c
    rw [List.length_map] at c'
    have hl : k.toNat < ns.length := by omega
    have e : ((k.toNat : Nat) : Int) = k := by omega
    have at_ := atI_nat (xs := ns.map V.int) (j := k.toNat) (v := .int ns[k.toNat]) (by simp [hl])
    rw [e] at at_
    refine ⟨_, rfl, _, rfl, a, _, k, _, rfl, rfl, hS, at_, ?_⟩
    have e2 : ns.getD k.toNat 0 = ns[k.toNat] := by rw [List.getD_eq_getElem?_getD, List.getElem?_eq_getElem hl, Option.getD_some]
    rw [← e2]
    exact q
  · have c' : ¬ k < ((ns.map V.int).length : Int) := fun z => c (decide_eq_true z)
    rw [List.length_map] at c'
    have e2 : ns.getD k.toNat 0 = 0 := by
      rw [List.getD_eq_getElem?_getD, List.getElem?_eq_none (by omega)]
      rfl
    rw [e2] at q
    exact q
def sp_words : Sp := fun vs H Q _ => ∃ (c : Int) (mw : Nat), vs = [.int c, .int (mw : Int)] ∧ mw ≤ 3 ∧ ∀ (l : Addr) (H' : Hp) (ws : List Str), Same H H' → H' l = some (.lst (ws.map V.str)) → ws.length = mw → Q (.ref l) H'
theorem ok_words {k : Nat} {f : Addr} {fd : FuncData} (F : Fun K "_law_words" "_law_words" s_law_words f fd) (z_range : mg "range" = none) : FnOk P w K mg base CX0 (k + 1) f fd ["_law_cell", "_law_many"] sp_words := by
  refine F.ok sc_law_words (fun vs H Q E h => ?_) (fun cdv A outer s H vs Q E hr h => ?_)
  · obtain ⟨c, mw, rfl, _⟩ := h
    rfl
  obtain ⟨c, mw, rfl, hmw, q⟩ := h
  refine ⟨_, (pss_cons (ps_set (i := 2) sc_law_words.nd rfl (Or.inl rfl) pe_str)
    (pss_cons (ps_set (i := 3) sc_law_words.nd rfl (Or.inl rfl) (pe_op op_add pe_int (pe_op op_mod (pv 0) pe_int)))
    (pss_cons (ps_set (i := 4) sc_law_words.nd rfl (Or.inl rfl) (pe_op op_mod (pe_op op_fdiv (pv 0) pe_int) (pv 3)))
    (pss_cons (ps_set (i := 5) sc_law_words.nd rfl (Or.inl rfl) (pe_lst pa_nil : PE _ _ _))
    (pss_cons (ps_for PassesOwn.never rfl (pi_range1 (by rfl) z_range (pa_cons (pv 1) pa_nil)) (pg_name (i := 6) sc_law_words.nd rfl (Or.inl rfl)) (pss_cons (ps_set (i := 7) sc_law_words.nd rfl (Or.inl rfl) pe_str)
    (pss_cons (ps_for PassesOwn.never rfl (pi_range1 (by rfl) z_range (pa_cons (pv 3) pa_nil)) (pg_name (i := 8) sc_law_words.nd rfl (Or.inl rfl)) (pss_cons (ps_set (i := 9) sc_law_words.nd rfl (Or.inl rfl) (pe_op op_add (pe_op op_fdiv (pv 0) (pe_op op_mul (pe_op op_mul pe_int (pe_op op_add (pv 8) pe_int)) (pe_op op_add (pv 8) pe_int))) (pe_op op_mul (pv 8) (pv 8))))
    (pss_cons (ps_if (pt_cmpR op_eq (pv 8) (pv 4) (nomark _)) (pss_one (ps_set (i := 9) sc_law_words.nd rfl (Or.inl rfl) (pe_op op_add (pv 9) (pe_op op_mul pe_int (pv 6))))) pss_nil)
    (pss_one (ps_set (i := 7) sc_law_words.nd rfl (Or.inl rfl) (pe_op op_add_str (pv 7) (pe_ix ix_str (pv 2) (pe_op op_mod (pv 9) pe_int) (fun _ _ => rfl))))))))
    (pss_cons (ps_if (pt_cmpR (r := rIn K false) op_in_seq (pv 7) (pe_tupR [.str "let", .str "in", .str "if", .str "then", .str "else", .str "say", .str "ask", .str "stop", .str "where", .str "quiet", .str "number"] (by rfl) : PE _ _ _) rfl) (pss_one (ps_set (i := 7) sc_law_words.nd rfl (Or.inl rfl) (pe_op op_add_str (pv 7) pe_str))) pss_nil)
    (pss_one (ps_expr (pe_bm PySem.F.plainAttrs_list PySem.F.slot_list_append PySem.F.type_list_append mt_append (pv 5) (pa_cons (pv 7) pa_nil))))))))
    (pss_one (ps_ret (pv 5)))))))), ?_⟩
  generalize hL : Str.ofString "abcdefghijklmnopqrstuvwxyz" = L
  have hLlen : L.length = 26 := by rw [← hL]; decide +kernel
  have n0 := Int.emod_nonneg c (show (8 : Int) ≠ 0 by decide)
  have n1 := Int.emod_lt_of_pos c (show (0 : Int) < 8 by decide)
  refine ⟨_, rfl, _, _, rfl, rfl, (show (0 : Int) < 8 by decide), _, _, rfl, rfl, ?_⟩
  refine ⟨_, rfl, _, _, rfl, rfl, ⟨(show (0 : Int) < 8 by decide), (show (8 : Int) < 1073741824 by decide)⟩, _, rfl, _, _, rfl, rfl, (show (0 : Int) < 1 + c % 8 by omega), ?_⟩
  dsimp only
  generalize c / 8 % (1 + c % 8) = at_
  generalize hN : 1 + c % 8 = N
  have N1 : 1 ≤ N := by omega
  have N8 : N ≤ 8 := by omega
  refine ⟨(by show 0 ≤ sizeLine; decide), fun lw hlw => ?_⟩
  refine ⟨_, rfl, (mw : Int), rfl, by omega, by omega, ?_⟩
  refine for_range (n := ((mw : Nat) : Int).toNat) (fun i σ' H' => ∃ (ws : List Str) (s6 s7 s8 s9 : Option V), σ' = [some (.int c), some (.int (mw : Int)), some (.str L), some (.int N), some (.int at_), some (.ref lw), s6, s7, s8, s9] ∧ Same H H' ∧ H' lw = some (.lst (ws.map V.str)) ∧ ws.length = i) ⟨[], none, none, none, none, rfl, same_upd hlw, upd_same, rfl⟩ ?_ ?_
  · rintro i σ1 H1 hi ⟨ws, s6, s7, s8, s9, rfl, g1, ew, l1⟩
    have hi3 : i < 3 := by have : i < mw := by simpa using hi
                           omega
    refine ⟨_, rfl, N, rfl, by omega, by omega, ?_⟩
    refine for_range (n := N.toNat) (fun j σ' H' => ∃ (x : Str) (s8 s9 : Option V), σ' = [some (.int c), some (.int (mw : Int)), some (.str L), some (.int N), some (.int at_), some (.ref lw), some (.int (0 + (i : Int))), some (.str x), s8, s9] ∧ H' = H1 ∧ x.length ≤ j) ⟨_, s8, s9, rfl, rfl, by decide +kernel⟩ ?_ ?_
    · rintro j σ2 H2 hj ⟨x, s8, s9, rfl, rfl, hx⟩
      have hj8 : j < 8 := by omega
      obtain ⟨dv1, dv2⟩ := div_ok j hj8
      have s64 : (-(2 ^ 64) : Int) < 64 ∧ (64 : Int) < 2 ^ 64 := ⟨by decide, by decide⟩
      refine ⟨_, rfl, _, rfl, _, _, rfl, rfl, _, _, rfl, rfl, .inl s64, _, rfl, _, _, rfl, rfl, _, _, rfl, rfl, .inr ⟨by omega, by omega⟩, _, _, rfl, rfl, ⟨dv1, dv2⟩, _, rfl, _, rfl, _, _, rfl, rfl, .inl ⟨by omega, by omega⟩, _, _, rfl, rfl, ?_⟩
      refine ⟨_, rfl, _, rfl, rfl, _, rfl, ?_⟩
      refine ite2 (fun _ => ?_) (fun _ => ?_)
      · refine ⟨_, rfl, _, rfl, _, _, rfl, rfl, .inl ⟨by decide, by decide⟩, _, _, rfl, rfl, ?_⟩
        obtain ⟨cc, ec⟩ := letter_at hLlen (c / (64 * (0 + (j : Int) + 1) * (0 + (j : Int) + 2)) + (0 + (j : Int)) * (0 + (j : Int)) + 5 * (0 + (i : Int)))
        refine ⟨_, rfl, _, rfl, _, rfl, _, _, rfl, rfl, (show (0 : Int) < 26 by decide), L, _, _, rfl, rfl, line1000 (by rw [hLlen]; decide), ec, _, _, rfl, rfl, line1000 (by show x.length + 1 ≤ 1000; omega), _, _, _, rfl, rfl, ?_⟩
        rw [len_app]
        show x.length + 1 ≤ j + 1
        omega
      · obtain ⟨cc, ec⟩ := letter_at hLlen (c / (64 * (0 + (j : Int) + 1) * (0 + (j : Int) + 2)) + (0 + (j : Int)) * (0 + (j : Int)))
        refine ⟨_, rfl, _, rfl, _, rfl, _, _, rfl, rfl, (show (0 : Int) < 26 by decide), L, _, _, rfl, rfl, line1000 (by rw [hLlen]; decide), ec, _, _, rfl, rfl, line1000 (by show x.length + 1 ≤ 1000; omega), _, _, _, rfl, rfl, ?_⟩
        rw [len_app]
        show x.length + 1 ≤ j + 1
        omega
    · rintro σ2 H2 ⟨x, s8, s9, rfl, rfl, hx⟩
      refine ⟨_, rfl, (by show 11 ≤ sizeLine; decide), fun p hp => ⟨p, _, rfl, .inr (SqT.of upd_same), rfl, rfl, _, rfl, ?_⟩⟩
      have g2 := same_upd (o := .tup [.str "let", .str "in", .str "if", .str "then", .str "else", .str "say", .str "ask", .str "stop", .str "where", .str "quiet", .str "number"]) hp
      have gA := g1.trans g2
      have ew2 := g2 _ _ ew
      generalize upd H2 p (.tup [.str "let", .str "in", .str "if", .str "then", .str "else", .str "say", .str "ask", .str "stop", .str "where", .str "quiet", .str "number"]) = H3 at gA ew2 ⊢
      refine ite2 (fun _ => ?_) (fun _ => ?_)
      · refine ⟨_, rfl, _, _, rfl, rfl, line1000 (by show x.length + 1 ≤ 1000; omega), ?_⟩
        refine ⟨_, rfl, .inl ⟨rfl, _, SqL.of ew2⟩, _, rfl, lw, _, _, rfl, rfl, ew2, small1000 (by rw [List.length_map]; omega), ?_⟩
        refine ⟨ws ++ [x ++ Str.ofString "z"], _, _, _, _, rfl, same_set gA hlw, ?_, by simp [l1]⟩
        rw [upd_same, List.map_append]
        rfl
      · refine ⟨_, rfl, .inl ⟨rfl, _, SqL.of ew2⟩, _, rfl, lw, _, _, rfl, rfl, ew2, small1000 (by rw [List.length_map]; omega), ?_⟩
        refine ⟨ws ++ [x], _, _, _, _, rfl, same_set gA hlw, ?_, by simp [l1]⟩
        rw [upd_same, List.map_append]
        rfl
  · rintro σ1 H1 ⟨ws, s6, s7, s8, s9, rfl, g1, ew, l1⟩
    exact ⟨_, rfl, q lw H1 ws g1 ew (by rw [l1]; simp)⟩
def sp_scale : Sp := fun vs H Q _ => ∃ (a : Addr) (cs : List Int), vs = [.ref a] ∧ H a = some (.lst (cs.map V.int)) ∧ cs.length = 7 ∧ ∀ (d : Addr) (rs : Scl) (kvs : List (Key × V)) (H' : Hp), Same H H' → H' d = some (.dK kvs) → ScD H' d rs kvs → Q (.ref d) H'
theorem ok_scale {k : Nat} {f : Addr} {fd : FuncData} (F : Fun K "_law_scale" "_law_scale" s_law_scale f fd) (z_range : mg "range" = none) (z_zip : mg "zip" = none) : FnOk P w K mg base CX0 (k + 1) f fd ["_law_cells"] sp_scale := by
  refine F.ok sc_law_scale (fun vs H Q E h => ?_) (fun cdv A outer s H vs Q E hr h => ?_)
  · obtain ⟨a, cs, rfl, _⟩ := h
    rfl
  obtain ⟨a, cs, rfl, ha, hcs, q⟩ := h
  have hu := hu_of hr
  refine ⟨_, (pss_cons (ps_set (i := 1) sc_law_scale.nd rfl (Or.inl rfl) pe_dnewK)
    (pss_cons (ps_for PassesOwn.never rfl (pi_zipL (by rfl) z_zip (pa_cons (pe_lstR [.str "say", .str "add", .str "sub", .str "mul", .str "then", .str "if", .str "let"] (by rfl) : PE _ _ _) (pa_cons (pv 0) pa_nil))) (pg_tup rfl (pgs_cons (pg_name (i := 2) sc_law_scale.nd rfl (Or.inl rfl)) (pgs_cons (pg_name (i := 3) sc_law_scale.nd rfl (Or.inl rfl)) pgs_nil))) (pss_cons (ps_set (i := 4) sc_law_scale.nd rfl (Or.inl rfl) pe_int)
    (pss_cons (ps_if (pt_cmpR op_eq (pv 2) pe_str (nomark _)) (pss_one (ps_set (i := 4) sc_law_scale.nd rfl (Or.inl rfl) pe_int)) pss_nil)
    (pss_cons (ps_if (pt_cmpR op_eq (pv 2) pe_str (nomark _)) (pss_one (ps_set (i := 4) sc_law_scale.nd rfl (Or.inl rfl) pe_int)) pss_nil)
    (pss_one (ps_if (pt_cmpR op_gt (pe_op op_mod (pv 3) pe_int) pe_int (nomark _)) (pss_cons (ps_set (i := 5) sc_law_scale.nd rfl (Or.inl rfl) (pe_tup (pa_cons (pe_op op_add pe_int (pe_op op_mod (pe_op op_fdiv (pv 3) pe_int) pe_int)) pa_nil) : PE _ _ _))
    (pss_cons (ps_set (i := 6) sc_law_scale.nd rfl (Or.inl rfl) (pe_op op_fdiv (pv 3) pe_int))
    (pss_cons (ps_for PassesOwn.never rfl (pi_range1 (by rfl) z_range (pa_cons (pv 4) pa_nil)) (pg_name (i := 7) sc_law_scale.nd rfl (Or.inl rfl)) (pss_cons (ps_set (i := 5) sc_law_scale.nd rfl (Or.inl rfl) (pe_op op_catV (pv 5) (pe_tup (pa_cons (pe_op op_add pe_int (pe_op op_mod (pv 6) pe_int)) pa_nil) : PE _ _ _)))
    (pss_one (ps_set (i := 6) sc_law_scale.nd rfl (Or.inl rfl) (pe_op op_fdiv (pv 6) pe_int)))))
    (pss_one (ps_dput hu (pv 1) (pv 2) (pv 5) rfl))))) pss_nil))))))
    (pss_one (ps_ret (pv 1))))), ?_⟩
  have d1 : 1 ≤ sizeLine := by decide
  refine fun d hd => ⟨(by show 7 ≤ sizeLine; decide), fun ls hls => ⟨_, rfl, ls, a, sgsV, cs.map V.int, rfl, upd_same, ?_, ?_⟩⟩
  · exact same_upd hls _ _ (same_upd hd _ _ ha)
  have g0 := (same_upd (o := .dK []) hd).trans (same_upd (o := .lst [.str "say", .str "add", .str "sub", .str "mul", .str "then", .str "if", .str "let"]) hls)
  have ea0 : (upd (upd H d (.dK [])) ls (.lst [.str "say", .str "add", .str "sub", .str "mul", .str "then", .str "if", .str "let"])) a = some (.lst (cs.map V.int)) := g0 _ _ ha
  have ed0 : (upd (upd H d (.dK [])) ls (.lst [.str "say", .str "add", .str "sub", .str "mul", .str "then", .str "if", .str "let"])) d = some (.dK []) := same_upd (o := .lst [.str "say", .str "add", .str "sub", .str "mul", .str "then", .str "if", .str "let"]) hls _ _ upd_same
  have el0 : (upd (upd H d (.dK [])) ls (.lst [.str "say", .str "add", .str "sub", .str "mul", .str "then", .str "if", .str "let"])) ls = some (.lst sgsV) := upd_same
  have nld : ls ≠ d := Ne.symm (ne_of_none (upd_same (H := H) (a := d) (o := .dK [])) hls)
  have nad : a ≠ d := ne_of_none ha hd
  show ∃ W, _
  generalize upd (upd H d (.dK [])) ls (.lst [.str "say", .str "add", .str "sub", .str "mul", .str "then", .str "if", .str "let"]) = H0 at g0 ea0 ed0 el0 ⊢
  have lcs : min sgsV.length (cs.map V.int).length = 7 := by rw [List.length_map, hcs]; rfl
  refine for_zipL (xs := sgsV) (ys := cs.map V.int) (fun i σ' H' => ∃ (rs : Scl) (kvs : List (Key × V)) (s2 s3 s4 s5 s6 s7 : Option V), σ' = [some (.ref a), some (.ref d), s2, s3, s4, s5, s6, s7] ∧ Same H H' ∧ H' a = some (.lst (cs.map V.int)) ∧ H' ls = some (.lst sgsV) ∧
    H' d = some (.dK kvs) ∧ Paired (RowAt H') rs kvs ∧ (kvs.map (·.1)).Nodup ∧ kvs.length ≤ i ∧ (∀ p ∈ rs, p.1 ∈ sgs.take i)) ⟨[], [], none, none, none, none, none, none, rfl, g0, ea0, el0, ed0, .nil, List.nodup_nil, Nat.le_refl _, by simp⟩ ?_ ?_ ?_
  · rintro i σ' H' _ ⟨rs, kvs, s2, s3, s4, s5, s6, s7, rfl, g, ea, el, ed, ps, nd, le, hin⟩
    exact ⟨el, ea⟩
  · rintro i x y T σ' H' hx hy ⟨rs, kvs, s2, s3, s4, s5, s6, s7, rfl, g, ea, el, ed, ps, nd, le, hin⟩ hT
    obtain ⟨kd, hkd, rfl, hlf⟩ := sgs_at hx
    obtain ⟨c, hc, rfl⟩ : ∃ c, cs[i]? = some c ∧ y = V.int c := by
      rw [List.getElem?_map] at hy
      obtain ⟨c, h1, h2⟩ := Option.map_eq_some_iff.mp hy
      exact ⟨c, h1, h2.symm⟩
    have hi7 : i < 7 := by
      have := (List.getElem?_eq_some_iff.mp hx).1
      exact this
    have gT := same_upd (o := .tup [.str kd.s, .int c]) hT
    have etk := take_next hkd
    have fin0 : ∀ p ∈ rs, p.1 ∈ sgs.take (i + 1) := fun p hp => by
      rw [etk]
      exact List.mem_append.mpr (.inl (hin p hp))
    refine ⟨T, _, rfl, SqT.of upd_same, rfl, _, _, rfl, _, _, rfl, rfl, ?_⟩
    have gA := g.trans gT
    have ea1 := gT _ _ ea
    have el1 := gT _ _ el
    have ed1 := gT _ _ ed
    have ps1 : Paired (RowAt (upd H' T (.tup [.str kd.s, .int c]))) rs kvs := Paired.mapP ps fun _ _ z => z.mono gT.tk
    show tSeq _ _ _ _ (upd H' T (.tup [.str kd.s, .int c]))
    generalize upd H' T (.tup [.str kd.s, .int c]) = H1 at gA ea1 el1 ed1 ps1 ⊢
    refine ⟨_, rfl, rfl, _, rfl, ite2 (fun c1 => ?_) (fun c1 => ?_)⟩
    · have ek : kd = .say := Kd.eq_iff.mp (of_decide_eq_true c1)
      have hm : kd.many = 1 := by rw [ek]; rfl
      refine ⟨_, rfl, rfl, _, rfl, iteN (by rw [ek]; decide +kernel) ?_⟩
      refine ⟨_, rfl, _, _, rfl, rfl, (show (0 : Int) < 3 by decide), _, _, rfl, rfl, _, rfl, ite2 (fun _ => ?_) (fun _ => ?_)⟩
      · have m0 := Int.emod_nonneg (c / 3) (show (9 : Int) ≠ 0 by decide)
        have m1 := Int.emod_lt_of_pos (c / 3) (show (0 : Int) < 9 by decide)
        refine ⟨_, rfl, _, _, rfl, rfl, ⟨(show (0 : Int) < 3 by decide), (show (3 : Int) < 1073741824 by decide)⟩, _, _, rfl, rfl, (show (0 : Int) < 9 by decide), _, _, rfl, rfl, d1, fun p1 hp1 => ?_⟩
        refine ⟨_, rfl, _, _, rfl, rfl, ⟨(show (0 : Int) < 27 by decide), (show (27 : Int) < 1073741824 by decide)⟩, ?_⟩
        dsimp only
        generalize hc1 : 1 + c / 3 % 9 = c1v at hp1 ⊢
        have gp := same_upd (o := .tup [.int c1v]) hp1
        refine ⟨_, rfl, 1, rfl, by decide, by decide, ?_⟩
        refine for_range (n := (1 : Int).toNat) (fun j σ' H' => ∃ (r : List Nat) (p : Addr) (z : Int) (s7 : Option V), σ' = [some (.ref a), some (.ref d), some (.str kd.s), some (.int c), some (.int 1), some (.ref p), some (.int z), s7] ∧ Same H1 H' ∧ H' p = some (.tup (natV r)) ∧ r.length = j + 1 ∧ 1 ≤ r.getD 0 0 ∧ r.getD 0 0 ≤ 9 ∧ ∀ x ∈ r.drop 1, 1 ≤ x ∧ x ≤ 3) ?_ ?_ ?_
        · refine ⟨[c1v.toNat], p1, _, s7, rfl, gp, ?_, rfl, ?_, ?_, by simp⟩
          · rw [upd_same]
            exact congrArg (fun x => some (HO.tup x)) (natV_snoc [] c1v (by omega))
          · show 1 ≤ c1v.toNat
            omega
          · show c1v.toNat ≤ 9
            omega
        · rintro j σ2 H2 hj ⟨r, p, z, s7, rfl, g2, ep, lr, b1, b9, bk⟩
          have hj3 : j < 1 := by simpa using hj
          have z0 := Int.emod_nonneg z (show (3 : Int) ≠ 0 by decide)
          have z1 := Int.emod_lt_of_pos z (show (0 : Int) < 3 by decide)
          refine ⟨_, rfl, _, rfl, _, _, rfl, rfl, (show (0 : Int) < 3 by decide), _, _, rfl, rfl, d1, fun pt hpt => ?_⟩
          have g3 := same_upd (o := .tup [.int (1 + z % 3)]) hpt
          refine ⟨p, pt, _, _, rfl, rfl, g3 _ _ ep, upd_same, line1000 (by rw [natV_len]; simp; omega), fun p' H3 g4 e4 => ?_⟩
          refine ⟨_, rfl, _, _, rfl, rfl, ⟨(show (0 : Int) < 3 by decide), (show (3 : Int) < 1073741824 by decide)⟩, ?_⟩
          rw [natV_snoc r (1 + z % 3) (by omega)] at e4
          obtain ⟨r0, rt, er⟩ : ∃ r0 rt, r = r0 :: rt := by
            cases r with
            | nil => simp at lr
            | cons r0 rt => exact ⟨r0, rt, rfl⟩
          subst er
          refine ⟨(r0 :: rt) ++ [(1 + z % 3).toNat], p', _, _, rfl, g2.trans (g3.trans g4), e4, by simp at lr ⊢; omega, b1, b9, ?_⟩
          intro x hx
          have hx' : x ∈ rt ++ [(1 + z % 3).toNat] := hx
          rcases List.mem_append.mp hx' with h | h
          · exact bk x h
          · have := List.mem_singleton.mp h
            omega
        · rintro σ2 H2 ⟨r, p, z, s7, rfl, g2, ep, lr, b1, b9, bk⟩
          have ed2 := g2 _ _ ed1
          have nv : valV kvs (Sum.inr kd.s : Key) = none := by
            rcases val_row ps1 kd with ⟨_, h⟩ | ⟨r', b, h, _⟩
            · exact h
            · rw [lookup_new (rs := rs) (k := kd) ?_] at h
              · cases h
              · intro z
                obtain ⟨p0, hp0, ez⟩ := List.mem_map.mp z
                exact sgs_new hkd (ez ▸ hin p0 hp0)
          refine ⟨_, rfl, _, rfl, _, rfl, d, _, rfl, DPut.k (k := Sum.inr kd.s) ed2 (small1000 (by omega)), ?_⟩
          have tkd : Tk H2 (upd H2 d (.dK (putK kvs (Sum.inr kd.s : Key) (.ref p)))) := Tk.dk ed2
          refine ⟨rs ++ [(kd, r)], putK kvs (Sum.inr kd.s : Key) (.ref p), _, _, _, _, _, _, rfl, same_set (gA.trans g2) hd, by rw [upd_ne nad]; exact g2 _ _ ea1, by rw [upd_ne nld]; exact g2 _ _ el1, upd_same, ?_, nd_putK _ nd nv, ?_, ?_⟩
          · have pz : Paired (RowAt (upd H2 d (.dK (putK kvs (Sum.inr kd.s : Key) (.ref p))))) (rs ++ [(kd, r)]) (kvs ++ [((Sum.inr kd.s : Key), V.ref p)]) := paired_appP (Paired.mapP ps1 fun _ _ z => z.mono (g2.tk.trans tkd)) (.cons ⟨⟨hlf, by rw [lr, hm]; rfl, b1, b9, bk⟩, rfl, p, rfl, tkd _ _ ep⟩ .nil)
            rw [← putK_new (V.ref p) nv] at pz
            exact pz
          · rw [putK_new _ nv, List.length_append]
            show kvs.length + 1 ≤ i + 1
            omega
          · intro p0 hp0
            rcases List.mem_append.mp hp0 with h | h
            · exact fin0 p0 h
            · rw [List.mem_singleton.mp h, etk]
              exact List.mem_append.mpr (.inr (by simp))
      · exact ⟨rs, kvs, _, _, _, _, _, _, rfl, gA, ea1, el1, ed1, ps1, nd, by omega, fin0⟩
    · refine ⟨_, rfl, rfl, _, rfl, ite2 (fun c2 => ?_) (fun c2 => ?_)⟩
      · have ek : kd = .ite := Kd.eq_iff.mp (of_decide_eq_true c2)
        have hm : kd.many = 3 := by rw [ek]; rfl
        refine ⟨_, rfl, _, _, rfl, rfl, (show (0 : Int) < 3 by decide), _, _, rfl, rfl, _, rfl, ite2 (fun _ => ?_) (fun _ => ?_)⟩
        · have m0 := Int.emod_nonneg (c / 3) (show (9 : Int) ≠ 0 by decide)
          have m1 := Int.emod_lt_of_pos (c / 3) (show (0 : Int) < 9 by decide)
          refine ⟨_, rfl, _, _, rfl, rfl, ⟨(show (0 : Int) < 3 by decide), (show (3 : Int) < 1073741824 by decide)⟩, _, _, rfl, rfl, (show (0 : Int) < 9 by decide), _, _, rfl, rfl, d1, fun p1 hp1 => ?_⟩
          refine ⟨_, rfl, _, _, rfl, rfl, ⟨(show (0 : Int) < 27 by decide), (show (27 : Int) < 1073741824 by decide)⟩, ?_⟩
          dsimp only
          generalize hc1 : 1 + c / 3 % 9 = c1v at hp1 ⊢
          have gp := same_upd (o := .tup [.int c1v]) hp1
          refine ⟨_, rfl, 3, rfl, by decide, by decide, ?_⟩
          refine for_range (n := (3 : Int).toNat) (fun j σ' H' => ∃ (r : List Nat) (p : Addr) (z : Int) (s7 : Option V), σ' = [some (.ref a), some (.ref d), some (.str kd.s), some (.int c), some (.int 3), some (.ref p), some (.int z), s7] ∧ Same H1 H' ∧ H' p = some (.tup (natV r)) ∧ r.length = j + 1 ∧ 1 ≤ r.getD 0 0 ∧ r.getD 0 0 ≤ 9 ∧ ∀ x ∈ r.drop 1, 1 ≤ x ∧ x ≤ 3) ?_ ?_ ?_
          · refine ⟨[c1v.toNat], p1, _, s7, rfl, gp, ?_, rfl, ?_, ?_, by simp⟩
            · rw [upd_same]
              exact congrArg (fun x => some (HO.tup x)) (natV_snoc [] c1v (by omega))
            · show 1 ≤ c1v.toNat
              omega
            · show c1v.toNat ≤ 9
              omega
          · rintro j σ2 H2 hj ⟨r, p, z, s7, rfl, g2, ep, lr, b1, b9, bk⟩
            have hj3 : j < 3 := by simpa using hj
            have z0 := Int.emod_nonneg z (show (3 : Int) ≠ 0 by decide)
            have z1 := Int.emod_lt_of_pos z (show (0 : Int) < 3 by decide)
            refine ⟨_, rfl, _, rfl, _, _, rfl, rfl, (show (0 : Int) < 3 by decide), _, _, rfl, rfl, d1, fun pt hpt => ?_⟩
            have g3 := same_upd (o := .tup [.int (1 + z % 3)]) hpt
            refine ⟨p, pt, _, _, rfl, rfl, g3 _ _ ep, upd_same, line1000 (by rw [natV_len]; simp; omega), fun p' H3 g4 e4 => ?_⟩
            refine ⟨_, rfl, _, _, rfl, rfl, ⟨(show (0 : Int) < 3 by decide), (show (3 : Int) < 1073741824 by decide)⟩, ?_⟩
            rw [natV_snoc r (1 + z % 3) (by omega)] at e4
            obtain ⟨r0, rt, er⟩ : ∃ r0 rt, r = r0 :: rt := by
              cases r with
              | nil => simp at lr
              | cons r0 rt => exact ⟨r0, rt, rfl⟩
            subst er
            refine ⟨(r0 :: rt) ++ [(1 + z % 3).toNat], p', _, _, rfl, g2.trans (g3.trans g4), e4, by simp at lr ⊢; omega, b1, b9, ?_⟩
            intro x hx
            have hx' : x ∈ rt ++ [(1 + z % 3).toNat] := hx
            rcases List.mem_append.mp hx' with h | h
            · exact bk x h
            · have := List.mem_singleton.mp h
              omega
          · rintro σ2 H2 ⟨r, p, z, s7, rfl, g2, ep, lr, b1, b9, bk⟩
            have ed2 := g2 _ _ ed1
            have nv : valV kvs (Sum.inr kd.s : Key) = none := by
              rcases val_row ps1 kd with ⟨_, h⟩ | ⟨r', b, h, _⟩
              · exact h
              · rw [lookup_new (rs := rs) (k := kd) ?_] at h
                · cases h
                · intro z
                  obtain ⟨p0, hp0, ez⟩ := List.mem_map.mp z
                  exact sgs_new hkd (ez ▸ hin p0 hp0)
            refine ⟨_, rfl, _, rfl, _, rfl, d, _, rfl, DPut.k (k := Sum.inr kd.s) ed2 (small1000 (by omega)), ?_⟩
            have tkd : Tk H2 (upd H2 d (.dK (putK kvs (Sum.inr kd.s : Key) (.ref p)))) := Tk.dk ed2
            refine ⟨rs ++ [(kd, r)], putK kvs (Sum.inr kd.s : Key) (.ref p), _, _, _, _, _, _, rfl, same_set (gA.trans g2) hd, by rw [upd_ne nad]; exact g2 _ _ ea1, by rw [upd_ne nld]; exact g2 _ _ el1, upd_same, ?_, nd_putK _ nd nv, ?_, ?_⟩
            · have pz : Paired (RowAt (upd H2 d (.dK (putK kvs (Sum.inr kd.s : Key) (.ref p))))) (rs ++ [(kd, r)]) (kvs ++ [((Sum.inr kd.s : Key), V.ref p)]) := paired_appP (Paired.mapP ps1 fun _ _ z => z.mono (g2.tk.trans tkd)) (.cons ⟨⟨hlf, by rw [lr, hm]; rfl, b1, b9, bk⟩, rfl, p, rfl, tkd _ _ ep⟩ .nil)
              rw [← putK_new (V.ref p) nv] at pz
              exact pz
            · rw [putK_new _ nv, List.length_append]
              show kvs.length + 1 ≤ i + 1
              omega
            · intro p0 hp0
              rcases List.mem_append.mp hp0 with h | h
              · exact fin0 p0 h
              · rw [List.mem_singleton.mp h, etk]
                exact List.mem_append.mpr (.inr (by simp))
        · exact ⟨rs, kvs, _, _, _, _, _, _, rfl, gA, ea1, el1, ed1, ps1, nd, by omega, fin0⟩
      · have hm : kd.many = 2 := by
          cases kd with
          | say => exact absurd rfl c1
          | ite => exact absurd rfl c2
          | num => cases hlf
          | name => cases hlf
          | ask => cases hlf
          | stop => cases hlf
          | gap => cases hlf
          | _ => rfl
        refine ⟨_, rfl, _, _, rfl, rfl, (show (0 : Int) < 3 by decide), _, _, rfl, rfl, _, rfl, ite2 (fun _ => ?_) (fun _ => ?_)⟩
        · have m0 := Int.emod_nonneg (c / 3) (show (9 : Int) ≠ 0 by decide)
          have m1 := Int.emod_lt_of_pos (c / 3) (show (0 : Int) < 9 by decide)
          refine ⟨_, rfl, _, _, rfl, rfl, ⟨(show (0 : Int) < 3 by decide), (show (3 : Int) < 1073741824 by decide)⟩, _, _, rfl, rfl, (show (0 : Int) < 9 by decide), _, _, rfl, rfl, d1, fun p1 hp1 => ?_⟩
          refine ⟨_, rfl, _, _, rfl, rfl, ⟨(show (0 : Int) < 27 by decide), (show (27 : Int) < 1073741824 by decide)⟩, ?_⟩
          dsimp only
          generalize hc1 : 1 + c / 3 % 9 = c1v at hp1 ⊢
          have gp := same_upd (o := .tup [.int c1v]) hp1
          refine ⟨_, rfl, 2, rfl, by decide, by decide, ?_⟩
          refine for_range (n := (2 : Int).toNat) (fun j σ' H' => ∃ (r : List Nat) (p : Addr) (z : Int) (s7 : Option V), σ' = [some (.ref a), some (.ref d), some (.str kd.s), some (.int c), some (.int 2), some (.ref p), some (.int z), s7] ∧ Same H1 H' ∧ H' p = some (.tup (natV r)) ∧ r.length = j + 1 ∧ 1 ≤ r.getD 0 0 ∧ r.getD 0 0 ≤ 9 ∧ ∀ x ∈ r.drop 1, 1 ≤ x ∧ x ≤ 3) ?_ ?_ ?_
          · refine ⟨[c1v.toNat], p1, _, s7, rfl, gp, ?_, rfl, ?_, ?_, by simp⟩
            · rw [upd_same]
              exact congrArg (fun x => some (HO.tup x)) (natV_snoc [] c1v (by omega))
            · show 1 ≤ c1v.toNat
              omega
            · show c1v.toNat ≤ 9
              omega
          · rintro j σ2 H2 hj ⟨r, p, z, s7, rfl, g2, ep, lr, b1, b9, bk⟩
            have hj3 : j < 2 := by simpa using hj
            have z0 := Int.emod_nonneg z (show (3 : Int) ≠ 0 by decide)
            have z1 := Int.emod_lt_of_pos z (show (0 : Int) < 3 by decide)
            refine ⟨_, rfl, _, rfl, _, _, rfl, rfl, (show (0 : Int) < 3 by decide), _, _, rfl, rfl, d1, fun pt hpt => ?_⟩
            have g3 := same_upd (o := .tup [.int (1 + z % 3)]) hpt
            refine ⟨p, pt, _, _, rfl, rfl, g3 _ _ ep, upd_same, line1000 (by rw [natV_len]; simp; omega), fun p' H3 g4 e4 => ?_⟩
            refine ⟨_, rfl, _, _, rfl, rfl, ⟨(show (0 : Int) < 3 by decide), (show (3 : Int) < 1073741824 by decide)⟩, ?_⟩
            rw [natV_snoc r (1 + z % 3) (by omega)] at e4
            obtain ⟨r0, rt, er⟩ : ∃ r0 rt, r = r0 :: rt := by
              cases r with
              | nil => simp at lr
              | cons r0 rt => exact ⟨r0, rt, rfl⟩
            subst er
            refine ⟨(r0 :: rt) ++ [(1 + z % 3).toNat], p', _, _, rfl, g2.trans (g3.trans g4), e4, by simp at lr ⊢; omega, b1, b9, ?_⟩
            intro x hx
            have hx' : x ∈ rt ++ [(1 + z % 3).toNat] := hx
            rcases List.mem_append.mp hx' with h | h
            · exact bk x h
            · have := List.mem_singleton.mp h
              omega
          · rintro σ2 H2 ⟨r, p, z, s7, rfl, g2, ep, lr, b1, b9, bk⟩
            have ed2 := g2 _ _ ed1
            have nv : valV kvs (Sum.inr kd.s : Key) = none := by
              rcases val_row ps1 kd with ⟨_, h⟩ | ⟨r', b, h, _⟩
              · exact h
              · rw [lookup_new (rs := rs) (k := kd) ?_] at h
                · cases h
                · intro z
                  obtain ⟨p0, hp0, ez⟩ := List.mem_map.mp z
                  exact sgs_new hkd (ez ▸ hin p0 hp0)
            refine ⟨_, rfl, _, rfl, _, rfl, d, _, rfl, DPut.k (k := Sum.inr kd.s) ed2 (small1000 (by omega)), ?_⟩
            have tkd : Tk H2 (upd H2 d (.dK (putK kvs (Sum.inr kd.s : Key) (.ref p)))) := Tk.dk ed2
            refine ⟨rs ++ [(kd, r)], putK kvs (Sum.inr kd.s : Key) (.ref p), _, _, _, _, _, _, rfl, same_set (gA.trans g2) hd, by rw [upd_ne nad]; exact g2 _ _ ea1, by rw [upd_ne nld]; exact g2 _ _ el1, upd_same, ?_, nd_putK _ nd nv, ?_, ?_⟩
            · have pz : Paired (RowAt (upd H2 d (.dK (putK kvs (Sum.inr kd.s : Key) (.ref p))))) (rs ++ [(kd, r)]) (kvs ++ [((Sum.inr kd.s : Key), V.ref p)]) := paired_appP (Paired.mapP ps1 fun _ _ z => z.mono (g2.tk.trans tkd)) (.cons ⟨⟨hlf, by rw [lr, hm]; rfl, b1, b9, bk⟩, rfl, p, rfl, tkd _ _ ep⟩ .nil)
              rw [← putK_new (V.ref p) nv] at pz
              exact pz
            · rw [putK_new _ nv, List.length_append]
              show kvs.length + 1 ≤ i + 1
              omega
            · intro p0 hp0
              rcases List.mem_append.mp hp0 with h | h
              · exact fin0 p0 h
              · rw [List.mem_singleton.mp h, etk]
                exact List.mem_append.mpr (.inr (by simp))
        · exact ⟨rs, kvs, _, _, _, _, _, _, rfl, gA, ea1, el1, ed1, ps1, nd, by omega, fin0⟩
  · rintro σ' H' ⟨rs, kvs, s2, s3, s4, s5, s6, s7, rfl, g, ea, el, ed, ps, nd, le, hin⟩
    rw [lcs] at le
    exact ⟨_, rfl, q d rs kvs H' g ed ⟨.inl ed, ps, nd, le⟩⟩
end
end K21
set_option Elab.async false
set_option linter.all false
set_option maxRecDepth 100000
set_option maxHeartbeats 4000000
namespace L2
open PySem PySem.Spec PyProof.Rows
section
variable {prog : Program} {w : World} {A : Around} {E : Value → Shared → Prop} {s : Shared}
abbrev ZipF (h : Heap) (z TI TO : Addr) (f0 : Value) (f1 : Bool) : Prop := h.get? z = some { cls := .type "zip", data := .fields #[f0, .bool f1, .bool false, .ref TI, .ref TO] }
def ZipS (h : Heap) (z TI TO : Addr) : Prop := ∃ f0 f1, ZipF h z TI TO f0 f1 ∧ (f0 = .none ∨ ∃ n : Nat, f0 = rawInt n)
end
def Itez (a b : Addr) : It :=
  ⟨fun i H => ∃ xs ys x y, H a = some (.tup xs) ∧ H b = some (.tup ys) ∧ xs[i]? = some x ∧ ys[i]? = some y,
   fun i H v H' => ∃ T U x y, H U = none ∧ (upd H U (.tup [x, y])) T = none ∧ v = .ref T ∧ H' = upd (upd H U (.tup [x, y])) T (.tup [.int i, .ref U]) ∧ (∀ xs, H a = some (.tup xs) → xs[i]? = some x) ∧ ∀ ys, H b = some (.tup ys) → ys[i]? = some y,
   fun i H => ∃ xs ys, H a = some (.tup xs) ∧ H b = some (.tup ys) ∧ (xs.length ≤ i ∨ ys.length ≤ i)⟩
abbrev EnZ (a b e z TI TO i1 i2 : Addr) (i : Nat) (h : Heap) : Prop := (∃ old, IsEnum h e z i old) ∧ ZipS h z TI TO ∧ IsPair h TI (.ref i1) (.ref i2) ∧ (∃ p q, IsPair h TO p q) ∧ h.IsTupleIter i1 a i ∧ h.IsTupleIter i2 b i
def iEnumZip (ta : TA) : TI := fun σ H R => ta σ H fun vs H1 => ∃ a b xs ys, vs = [.ref a, .ref b] ∧ H1 a = some (.tup xs) ∧ H1 b = some (.tup ys) ∧ R (Itez a b) H1
end L2
set_option Elab.async false
set_option linter.all false
namespace L2
open PySem PySem.Spec PyProof.Rows
section
variable {X : Cx}
def rMulT : R2 := fun x y H Q => ∃ (a : Addr) (v : V), x = .ref a ∧ H a = some (.tup [v]) ∧ ((y = .int 1 ∧ Q (.ref a) H) ∨ (y = .int 0 ∧ ∀ p, H p = none → Q (.ref p) (upd H p (.tup []))))
end
section
variable {prog : Program} {w : World} {A : Around} {E : Value → Shared → Prop} {s : Shared}
end
def tTupRev (ta : TA) : TE := fun σ H Q => ta σ H fun vs H1 => ∃ a xs, vs = [.ref a] ∧ H1 a = some (.tup xs) ∧ xs.length ≤ 8 ∧ ∀ p, H1 p = none → Q (.ref p) (upd H1 p (.tup xs.reverse))
end L2
set_option Elab.async false
set_option linter.all false
set_option maxRecDepth 100000
set_option maxHeartbeats 4000000
namespace L2
open PySem PySem.Spec PyProof.Rows
section
variable {X : Cx}
end
end L2
set_option Elab.async false
set_option linter.all false
set_option maxRecDepth 100000
set_option maxHeartbeats 4000000
namespace L2
open PySem PySem.Spec PyProof.Rows
section
variable {X : Cx}
def rInD (X : Cx) (neg : Bool) : R2 := fun x y H Q => ∃ (p : Addr) (xs : List V) (ds : List Dt) (dx : Dt), y = .ref p ∧ SqT X.K H p xs ∧ DRs H ds xs ∧ DR H dx x ∧ Dt.deeps ds ≤ 100 ∧ Q (.bl (if neg then !ds.any (fun d => Dt.beq d dx) else ds.any (fun d => Dt.beq d dx))) H
theorem relV_inj {x y : V} {u : Value} {H : Hp} {d e : Dt} (rx : RelV x u) (ry : RelV y u) (hx : DR H d x) (hy : DR H e y) : d = e := by
  have : x = y := by
    cases hx with
    | int i => obtain ⟨t, rfl⟩ := rx; cases hy with
      | int j => obtain ⟨t', h⟩ := ry; cases h; rfl
      | str j => obtain ⟨t', h⟩ := ry; cases h
      | tup h _ => cases ry
    | str i => obtain ⟨t, rfl⟩ := rx; cases hy with
      | int j => obtain ⟨t', h⟩ := ry; cases h
      | str j => obtain ⟨t', h⟩ := ry; cases h; rfl
      | tup h _ => cases ry
    | tup h r => cases rx; cases hy with
      | int j => obtain ⟨t', h⟩ := ry; cases h
      | str j => obtain ⟨t', h⟩ := ry; cases h
      | tup h' _ => cases ry; rfl
  subst this
  exact DR.inj hx hy
open Classical in
noncomputable def eqW (H : Hp) (dx : Dt) (w : Value) : Bool := decide (∃ x d, RelV x w ∧ DR H d x ∧ Dt.beq d dx = true)
theorem eqW_of {H : Hp} {dx d : Dt} {x : V} {w : Value} (r : RelV x w) (h : DR H d x) : eqW H dx w = Dt.beq d dx := by
  unfold eqW
  rw [Bool.eq_iff_iff, @decide_eq_true_iff _ (Classical.propDecidable _)]
  constructor
  · rintro ⟨y, e, ry, he, hb⟩
    rw [relV_inj r ry h he]
    exact hb
  · intro hb
    exact ⟨x, d, r, h, hb⟩
theorem any_eqW {H : Hp} {dx : Dt} : ∀ {ds : List Dt} {xs : List V} {us : List Value}, DRs H ds xs → Vals xs us → us.any (eqW H dx) = ds.any fun d => Dt.beq d dx
  | _, _, _, .nil, .nil => rfl
  | _, _, _, .cons h t, .cons r rs => by
    rw [List.any_cons, List.any_cons, eqW_of r h, any_eqW t rs]
theorem mem_eqW {pins : List (Addr × Obj)} {σ : L2.St} {H : Hp} {s : Shared} {A : Around} {dx : Dt} {x : V} {v : Value} (I : Inv X pins σ H s) (rx : RelV x v) (hx : DR H dx x) (hu : A.units + 100 < cLine) : ∀ {ds : List Dt} {xs : List V} {us : List Value}, DRs H ds xs → Vals xs us → Dt.deeps ds ≤ 100 → ∀ u ∈ us, SeqAt.EqAt A s u v (eqW H dx u)
  | _, _, _, .nil, .nil, _ => fun u hu => by cases hu
  | d :: ds, _, _, .cons h t, .cons r rs, hd => fun u' hu' => by
    simp only [Dt.deeps] at hd
    rcases List.mem_cons.mp hu' with rfl | hu'
    · rw [eqW_of r h]
      exact eqAt_DR I 100 A (by omega) h hx r rx hu
    · exact mem_eqW I rx hx hu t rs (by omega) u' hu'
theorem op_notInTD (hu : X.A.units + 150 < cLine) : OpR X (compareOp .NotIn) (rInD X true) := by
  intro pins s σ H x y v u Q I rx ry h
  obtain ⟨p, xs, ds, dx, rfl, hp, hds, hx, hd, q⟩ := h
  cases ry
  obtain ⟨its, r, pl, hz⟩ := I.tuple hp
  refine SeqAt.notIn_tupleAt (eqW H dx) pl (fun w hw => mem_eqW I rx hx (by first | (show X.A.in1.units + 100 < cLine; rw [show X.A.in1.units = X.A.units + 1 from rfl]; omega) | (show X.A.in1.in1.units + 100 < cLine; rw [show X.A.in1.in1.units = X.A.units + 2 from rfl]; omega) | omega) hds r hd w (by simpa using hw)) ⟨.bl _, H, I, rfl, ?_⟩
  rw [show its.toArray.any (eqW H dx) = its.any (eqW H dx) by simp, any_eqW hds r]
  exact q
end
end L2
set_option linter.all false
set_option maxRecDepth 100000
set_option maxHeartbeats 4000000
namespace PySem
open Sem (wp)
namespace F
theorem dul_entry : entryFor table "dict.update.loop" = some Builtin.«dict.update.loop» := entryFor_of_tree (by kernel_rfl)
theorem dul_plain : plainId "dict.update.loop" = true := by decide +kernel
theorem tuple_no_keys : typeLookup (.type "tuple") "keys" = pure none := am_miss_of_fast (by decide +kernel)
end F
theorem askAttr_miss_tuple {prog : Program} {w : World} {A : Around} {E : Value → Shared → Prop} {s : Shared} {a : Addr} {o : Obj} {xs : Array Value} {k : Nat} {name : Str} {Q : Option Value → Shared → Prop}
    (hx : s.heap.get? a = some o) (hc : o.cls = .type "tuple") (hdat : o.data = .seq xs k) (hd : o.dict = none) (hmiss : typeLookup (.type "tuple") name = pure none)
    (hname : (["__module__", "__name__", "__qualname__", "__doc__", "__annotations__"] : List Str).contains name = false) (hA : A.handled = none) (hsz : name.length + 100 ≤ sizeLine)
    (h : ∀ h' tk, (∀ b ob, s.heap.get? b = some ob → h'.get? b = some ob) → Q none { s with heap := h', toks := tk }) : wpAny (model prog w) A (getAttr? (.ref a) name) Q E s := by
  obtain ⟨c, dct, dat, sl⟩ := o
  simp only at hc hdat hd
  subst hc hdat hd
  obtain ⟨hp, g, d, tk, os⟩ := s
  have hT : ∀ tk', (⟨hp, g, d, tk', os⟩ : Shared).TypeIs (.ref a) "tuple" := fun _ => ⟨_, hx, rfl⟩
  have f1 := sub_AttributeError
  have f3 := F.slot_tuple_getattribute.lookup
  have f4 := F.slot_tuple_getattribute.bind (.ref a)
  have f5 := am_tuple_getattr_none
  unfold getAttr? getAttrBy? getAttrBy
  repeat (any_goals (first | assumption | exact hT _ | ((with_reducible show wpAny _ _ (call (Value.builtin "tuple.__getattribute__") _ _) _ _ _); refine call_meets F.slot_tuple_getattribute (hT _) am_entry_tuple_getattribute (F.args_tuple_getattribute_2 _ _) (meets_getattribute_miss_tuple a xs k sl name _ hmiss hname hsz) ⟨hx, hA, fun h' tk' e hx' => ?_⟩) | wp_step))
  obtain ⟨t', u', he⟩ := hx'.there
  show wpAny _ _ (getattributeRaised _ _ _ _ _ _ _) _ _ _
  unfold getattributeRaised
  repeat (any_goals (first | assumption | wp_step))
  all_goals first
    | exact h _ _ hx'.keeps
    | skip
section
variable {prog : Program} {w : World} {K : Type} [DecidableEq K] {knd : KeyKind prog w K} {A : Around} {R : Result → Shared → Prop} {E : Value → Shared → Prop}
def PairsIn (knd : KeyKind prog w K) (h : Heap) (its : List Value) (prs : List (K × Value)) : Prop :=
  its.length = prs.length ∧ ∀ (i : Nat) (x : Value), its[i]? = some x → ∃ (pa : Addr) (key : Value) (kv : K × Value), x = Value.ref pa ∧ prs[i]? = some kv ∧ h.IsTuple pa #[key, kv.2] ∧ knd.is kv.1 key = true
theorem Heap.IsTuple.kept {h h' : Heap} {a : Addr} {xs : Array Value} (x : h.IsTuple a xs) (k : ∀ b o, h.get? b = some o → h'.get? b = some o) : h'.IsTuple a xs :=
  let ⟨o, ho, r⟩ := x; ⟨o, k a o ho, r⟩
theorem dul_code {h0 : Heap} {d it t : Addr} {items : Array Value} {prs : List (K × Value)} (hA : A.handled = none) (hld : h0.objs.size ≤ d) (hli : h0.objs.size ≤ it) (hne : d ≠ it)
    (ht : h0.IsTuple t items) (hp : PairsIn knd h0 items.toList prs) (hsz : prs.length ≤ sizeLine) :
    ∀ (n i : Nat) (s : Shared), items.size - i = n → i ≤ items.size → (∀ b o, h0.get? b = some o → s.heap.get? b = some o) → s.heap.IsTupleIter it t i → s.heap.DictOf knd d (merged [] (prs.take i)) →
      (∀ h' tk, (∀ b o, h0.get? b = some o → h'.get? b = some o) → h'.DictOf knd d (merged [] prs) → R (.ok (.ret .none)) { s with heap := h', toks := tk }) →
      codeAny (model prog w) A (.builtin "dict.update.loop" ⟨[.ref d, .ref it, .int (i : Int) 0, .none], []⟩) R s := by
  have hlen : items.size = prs.length := by rw [← hp.1]; simp
  intro n
  induction n with
  | zero =>
    intro i s hn hi kp hit hd hR
    have e : i = items.size := by omega
    subst e
    refine codeAny_builtin F.dul_entry ?_
    rw [Around.under_plainId F.dul_plain _]
    refine wpAny_bind (wpAny_pyNext_tuple_end (show A.in1.handled = none from hA) hit (ht.kept kp) (by simp) fun h' he => ?_)
    show wpAny _ _ (Builtin.Dict.addKeywords d [] >>= _) _ _ _
    refine wpAny_bind (wpAny_pure (wpAny_pure (hR h' s.toks (fun b o hb => he b o (Nat.ne_of_lt (Nat.lt_of_lt_of_le (Heap.lt_size hb) hli)) (kp b o hb)) ?_)))
    rw [hlen, List.take_length] at hd
    obtain ⟨o, es, ep, ho, rest⟩ := hd
    exact ⟨o, es, ep, he d o hne ho, rest⟩
  | succ n ih =>
    intro i s hn hi kp hit hd hR
    have hlt : i < items.size := by omega
    obtain ⟨pa, key, kv, ex, ekv, htp, hkey⟩ := hp.2 i items[i] (by simp [hlt])
    refine codeAny_builtin F.dul_entry ?_
    rw [Around.under_plainId F.dul_plain _]
    refine wpAny_bind (wpAny_pyNext_tuple_item hit (ht.kept kp) (x := items[i]) (by simp [hlt]) fun h1 hit1 hs1 => ?_)
    have kp1 : ∀ b o, h0.get? b = some o → h1.get? b = some o := fun b o hb => hs1.extBut b o (Nat.ne_of_lt (Nat.lt_of_lt_of_le (Heap.lt_size hb) hli)) (kp b o hb)
    rw [ex]
    have htp1 := htp.kept kp1
    refine wpAny_bind (wpAny_holding (wpAny_bind (wpAny_tryCatch ?_)))
    unfold Builtin.Dict.pairItems
    refine wpAny_bind (wpAny_typeOf (s := { s with heap := h1 }) (v := .ref pa) (T := "tuple") htp1.typeIs ?_)
    rw [if_pos (by decide)]
    obtain ⟨o2, ho2, hc2, n2, hd2⟩ := htp1
    refine wpAny_bind (wpAny_seqItems ho2 hd2 (wpAny_pure ?_))
    have hd1 : h1.DictOf knd d (merged [] (prs.take i)) := by
      obtain ⟨o, es, ep, ho, rest⟩ := hd
      exact ⟨o, es, ep, hs1.extBut d o hne ho, rest⟩
    have hml : (merged [] (prs.take i)).length ≤ sizeLine := by
      have e1 := merged_length_le ([] : List (K × Value)) (prs.take i)
      rw [List.length_nil, List.length_take] at e1
      omega
    show wpAny _ _ (holding [key, kv.2] (dictSet d key kv.2)) _ _ _
    refine wpAny_holding (wpAny_dictSet_pairs (hsz := hml) hkey hd1 fun h2 hd2 hs2 => ?_)
    refine wpAny_pure ⟨plainId_quiet F.dul_plain _, ?_⟩
    refine ih (i + 1) _ (by omega) hlt (fun b o hb => hs2.extBut b o (Nat.ne_of_lt (Nat.lt_of_lt_of_le (Heap.lt_size hb) hld)) (kp1 b o hb)) (hit1.extBut hs2.extBut (Ne.symm hne)) ?_ fun h' tk k' d' => hR h' tk k' d'
    rw [merged_take_succ [] prs i kv ekv]
    exact hd2
theorem call_dict_tuple {s : Shared} {t : Addr} {o : Obj} {items : Array Value} {n : Nat} {prs : List (K × Value)} {Q : Value → Shared → Prop} (hA : A.handled = none) (hx : s.heap.get? t = some o) (hc : o.cls = .type "tuple") (hdat : o.data = .seq items n) (hdn : o.dict = none)
    (hp : PairsIn knd s.heap items.toList prs) (hsz : prs.length ≤ sizeLine)
    (h : ∀ h' tk, (∀ b o, s.heap.get? b = some o → h'.get? b = some o) → h'.DictOf knd s.heap.objs.size (merged [] prs) → Q (.ref s.heap.objs.size) { s with heap := h', toks := tk }) :
    wpAny (model prog w) A (call (.type "dict") [.ref t]) Q E s := by
  refine callType_codes (Q₁ := fun obj s₁ => obj = .ref s.heap.objs.size ∧ s₁ = { s with heap := s.heap.push { cls := .type "dict", data := .dict #[] } }) F.kt_called_dict (F.kt_typeCall_dict_1 _) F.entry_dict_init (kt_code_dict_new _ ⟨rfl, rfl⟩) ?_
  rintro obj s₁ ⟨rfl, rfl⟩
  have hnew : (s.heap.push { cls := .type "dict", data := .dict #[] }).DictOf knd s.heap.objs.size [] := Heap.DictOf.new s.heap
  have kp0 : ∀ b o, s.heap.get? b = some o → (s.heap.push { cls := .type "dict", data := .dict #[] }).get? b = some o := fun b o hb => Heap.get?_push_of_some _ hb
  have ht0 : s.heap.IsTuple t items := ⟨o, hx, hc, n, hdat⟩
  refine ⟨hnew.typeIs, F.args_dict_init_2 _ _, ?_⟩
  unfold Builtin.«dict.__init__»
  refine wpAny_bind ?_
  unfold Builtin.Dict.selfAndRest
  refine wpAny_bind (wpAny_notOrdered_dict hnew.typeIs ?_)
  show wpAny _ _ (pure (s.heap.objs.size, [Value.ref t])) _ _ _
  refine wpAny_pure ?_
  show wpAny _ _ (Builtin.Dict.updateFrom "dict.__init__" s.heap.objs.size (.ref t) [] .none) _ _ _
  unfold Builtin.Dict.updateFrom
  refine wpAny_bind (wpAny_typeOf (v := .ref t) (T := "tuple") (ht0.kept kp0).typeIs ?_)
  rw [if_pos (by decide)]
  refine wpAny_bind (askAttr_miss_tuple (kp0 _ _ hx) hc hdat hdn F.tuple_no_keys (by decide +kernel) hA (by size_fits) fun h1 tk kp1 => ?_)
  rw [if_pos (show (Option.none : Option Value).isNone = true from rfl)]
  have kp01 : ∀ b o, s.heap.get? b = some o → h1.get? b = some o := fun b o hb => kp1 b o (kp0 b o hb)
  refine wpAny_bind (wpAny_rule ?_)
  refine wpAny_bind (wpAny_pyIter_tuple (ht0.kept kp01) ?_)
  have hd1 : h1.DictOf knd s.heap.objs.size [] := by
    obtain ⟨o, es, ep, ho, rest⟩ := hnew
    exact ⟨o, es, ep, kp1 _ _ ho, rest⟩
  have hsd : s.heap.objs.size < h1.objs.size := let ⟨_, _, _, ho, _⟩ := hd1; Heap.lt_size ho
  refine wpAny_pure ⟨plainId_quiet F.dul_plain _, ?_⟩
  refine dul_code (h0 := s.heap) (knd := knd) (A := A.in1) hA (Nat.le_refl _) (Nat.le_of_lt hsd) (Nat.ne_of_lt hsd) ht0 hp hsz items.size 0 _ (by omega) (Nat.zero_le _) (fun b o hb => Heap.get?_push_of_some _ (kp01 b o hb)) ⟨_, Heap.get?_push_size _ rfl, rfl, rfl⟩ (hd1.push _) fun h' tk' k' d' => ?_
  exact ⟨rfl, h h' tk' k' d'⟩
end
end PySem
set_option Elab.async false
set_option linter.all false
set_option maxRecDepth 100000
set_option maxHeartbeats 4000000
namespace L2
open PySem PySem.Spec PyProof.Rows
section
variable {X : Cx}
theorem op_neLE (hu : X.A.units < cLine) : OpR X (compareOp .NotEq) (fun x y H Q => ∃ (a b : Addr) (xs : List V), x = .ref a ∧ y = .ref b ∧ H a = some (.lst xs) ∧ H b = some (.lst []) ∧ Q (.bl (!(xs.length == 0))) H) := by
  intro pins s σ H x y v u Q I rx ry h
  obtain ⟨a, b, xs, rfl, rfl, ha, hb, q⟩ := h
  cases rx
  cases ry
  obtain ⟨_, its, n, r1, l1, e1⟩ := I.lstM ha
  obtain ⟨_, its2, n2, r2, l2, e2⟩ := I.lstM hb
  have L1 : s.heap.IsList a its.toArray := ⟨_, e1, rfl, _, rfl⟩
  have L2 : s.heap.IsList b its2.toArray := ⟨_, e2, rfl, _, rfl⟩
  have z2 : its2.toArray.size = 0 := by rw [List.size_toArray]; exact l2.symm
  by_cases hl : xs.length = 0
  · have e0 : its.toArray.size = 0 := by rw [List.size_toArray]; omega
    refine SeqAt.RcNeAt.lists (e := fun _ => true) L1 L2 (by omega) hu (fun j _ h2 => absurd h2 (by omega)) _ _ _ _ ?_
    rw [e0]
    rw [hl] at q
    exact ⟨.bl false, H, I, rfl, q⟩
  · have e : (xs.length == 0) = false := by simpa using hl
    rw [e] at q
    exact SeqAt.RcNeAt.lists_lengths L1 L2 (by rw [z2, List.size_toArray, bne_iff_ne]; omega) hu _ _ _ _ ⟨.bl true, H, I, rfl, q⟩
def rDUpd : V → List V → Hp → VK → Prop := fun x vs H Q => ∃ (a b : Addr) (ka kb : List (Key × V)), x = .ref a ∧ vs = [.ref b] ∧ a ≠ b ∧ H a = some (.dK ka) ∧ H b = some (.dK kb) ∧ ka.length + kb.length ≤ sizeLine ∧ Q .non (upd H a (.dK (mergeK ka kb)))
theorem mt_dupdate : MtM X "dict.update" rDUpd := by
  intro pins s σ H x vs v us Q I rx rv h
  obtain ⟨a, b, ka, kb, rfl, rfl, hne, ha, hb, hz, q⟩ := h
  cases rx
  obtain ⟨u, rfl, ru⟩ := rv.one
  cases ru
  obtain ⟨z1, sa, va, ra, da⟩ := dk_of I.hok ha
  obtain ⟨z2, sb, vb, rb, db⟩ := dk_of I.hok hb
  have hl : va.length + vb.length ≤ sizeLine := by rw [← ra.length, ← rb.length]; exact hz
  refine call_meetsIn PySem.F.slot_dict_update da.typeIs PySem.F.entry_dict_update (PySem.F.args_dict_update_2 _ _) (meets_dict_update (mixKind X.prog X.w) a b hne sb) ⟨va, vb, da, db, hl, fun h' d1 d2 hs => ?_⟩
  have he : ∃ q, h'.get? a = some q := let ⟨q, _, _, hq, _⟩ := d1; ⟨q, hq⟩
  have hm : (mergeK ka kb).length ≤ sizeLine := by have := length_mergeK kb ka; omega
  exact ⟨.non, _, d_write (t' := s.toks) I (by rw [ha]; exact True.intro) hs he (dk_new hm sa (rb.merge ra) d1), rfl, q⟩
theorem call_tupleF : CallR X (.type "tuple") (fun xs H Q => ∃ p ys, xs = [.ref p] ∧ SqL X.K H p ys ∧ ∀ (l : Addr) (o : Obj), H l = none → o.dict = none → Q (.ref l) (upd H l (.frz o (.tup ys)))) := by
  intro pins s σ H xs us Q I r h
  obtain ⟨p, ys, rfl, hq, q⟩ := h
  obtain ⟨u, rfl, rx⟩ := vals1 r
  cases rx
  obtain ⟨its, r', pl, hz⟩ := I.list hq
  have hlen := r'.length
  refine call_tuple_list pl.isList (fun h' kp => ?_) (by simp only [List.size_toArray] <;> omega)
  have I1 : Inv X pins σ H { s with heap := h' } := I.kept (t' := s.toks) kp
  have I2 := I1.laid (o := .frz { cls := .type "tuple", data := .seq its.toArray } (.tup ys)) (t' := s.toks) (h' := h'.push { cls := .type "tuple", data := .seq its.toArray }) (fun b o e => Heap.get?_push_of_some _ e) (Nat.le_refl h'.objs.size) ⟨Heap.get?_push_size _ rfl, hz, its, r', IsTup.new _ _⟩
  exact ⟨.ref h'.objs.size, _, I2, rfl, q _ _ (I1.hok.fresh (Nat.le_refl _)) rfl⟩
def PrV (H : Hp) (y : V) (kv : Key × V) : Prop := ∃ b, y = .ref b ∧ H b = some (.tup [kV kv.1, kv.2])
theorem prs_of {P : Program} {w : World} {H : Hp} {h : Heap} (ok : HOk P w H h) : ∀ {ys : List V} {kvs : List (Key × V)}, Paired (PrV H) ys kvs → ∀ {its : List Value}, Vals ys its → ∃ prs, PairsIn (mixKind P w) h its prs ∧ KV kvs prs
  | _, _, .nil, its, r => by
    cases r
    exact ⟨[], ⟨rfl, fun i x hx => by simp at hx⟩, .nil⟩
  | _, _, .cons (b := kv) hy hr, its, r => by
    cases r with
    | cons r1 r2 =>
      obtain ⟨prs, ⟨pl, pp⟩, k⟩ := prs_of ok hr r2
      obtain ⟨b, rfl, hb⟩ := hy
      cases r1
      obtain ⟨_, its2, rv, tp⟩ := (show ObjOk P w H h b (.tup [kV kv.1, kv.2]) from ok b _ hb)
      cases rv with
      | cons q1 rv => cases rv with
        | cons q2 rv =>
          cases rv
          rename_i key val
          refine ⟨(kv.1, val) :: prs, ⟨by simp [pl], fun i x hx => ?_⟩, .cons ⟨rfl, q2⟩ k⟩
          cases i with
          | zero =>
            simp at hx
            exact ⟨b, key, (kv.1, val), hx.symm, rfl, tp, kV_is q1⟩
          | succ i =>
            simp at hx
            obtain ⟨pa, key', kv', h1, h2, h3, h4⟩ := pp i x hx
            exact ⟨pa, key', kv', h1, by simpa using h2, h3, h4⟩
def rDictP : List V → Hp → VK → Prop := fun xs H Q => ∃ (a : Addr) (o : Obj) (ys : List V) (kvs : List (Key × V)), xs = [.ref a] ∧ H a = some (.frz o (.tup ys)) ∧ o.dict = none ∧ Paired (PrV H) ys kvs ∧ kvs.length ≤ 1000 ∧ ∀ p, H p = none → Q (.ref p) (upd H p (.dK (mergeK [] kvs)))
theorem call_dictP (hc : X.calm = true) : CallR X (.type "dict") rDictP := by
  intro pins s σ H xs us Q I r h
  obtain ⟨a, o, ys, kvs, rfl, ha, hdn, hp, hl, q⟩ := h
  obtain ⟨u, rfl, ru⟩ := vals1 r
  cases ru
  obtain ⟨hx, hz, its, rv, o', ho', hcl, n, hdat⟩ := (show ObjOk X.prog X.w H s.heap a (.frz o (.tup ys)) from I.hok a _ ha)
  rw [hx] at ho'
  cases ho'
  obtain ⟨prs, hpi, k⟩ := prs_of I.hok hp rv
  have hkl : prs.length ≤ sizeLine := by rw [← k.length]; exact line1000 hl
  have hm : (mergeK [] kvs).length ≤ sizeLine := by
    have := length_mergeK kvs []
    rw [List.length_nil] at this
    exact line1000 (by omega)
  refine call_dict_tuple (knd := mixKind X.prog X.w) (I.ok.hd hc) hx hcl hdat hdn (by simpa using hpi) hkl fun h' tk kp d' => ?_
  have hn := I.hok.fresh (Nat.le_refl s.heap.objs.size)
  refine ⟨.ref s.heap.objs.size, _, I.laid (a := s.heap.objs.size) (o := .dK (mergeK [] kvs)) (t' := tk) kp (Nat.le_refl _) (dk_new hm (beq_eq_false_iff_ne.mpr (Ne.symm (Nat.ne_of_lt I.big))) (k.merge .nil) d'), rfl, q _ hn⟩
end
theorem comp_dictR {o : Obj} {a : Addr} {kvs : List (Key × V)} {acc : Addr} {g : TG} {tt : TT} {te : TE} {σ : L2.St} {H : Hp} {R : Hp → Prop} (Pv : Nat → Hp → Prop) (h0 : Pv 0 (upd H acc (.lst []))) (hl : ∀ i H, i ≤ kvs.length → Pv i H → H a = some (.frz o (.dK kvs)))
    (hs : ∀ i p H, kvs[i]? = some p → Pv i H → g (kV p.1) σ H fun σ2 H4 => Ext σ σ2 ∧ tt σ2 H4 fun b H5 =>
      if b = true then te σ2 H5 fun y H6 => ∃ zs, H6 acc = some (.lst zs) ∧ zs.length < sizeLine ∧ Pv (i + 1) (upd H6 acc (.lst (zs ++ [y]))) else Pv (i + 1) H5) (hd : ∀ H, Pv kvs.length H → R H) :
    ∃ W : Nat → Nat → Hp → Prop, (∃ m, W 0 m (upd H acc (.lst []))) ∧ ∀ i m H2, W i m H2 →
      ((Itd o a kvs).stop i H2 ∧ R H2) ∨ ((Itd o a kvs).go i H2 ∧ ∃ N : Hp → Prop, (∀ H', N H' → ∃ m', m' < m ∧ W (i + 1) m' H') ∧ ∀ x H3, (Itd o a kvs).yld i H2 x H3 → g x σ H3 fun σ2 H4 => Ext σ σ2 ∧ tt σ2 H4 fun b H5 =>
        if b = true then te σ2 H5 fun y H6 => ∃ zs, H6 acc = some (.lst zs) ∧ zs.length < sizeLine ∧ N (upd H6 acc (.lst (zs ++ [y])))
        else N H5) := by
  refine ⟨fun i m H => m = kvs.length - i ∧ i ≤ kvs.length ∧ Pv i H, ⟨kvs.length, by simp, Nat.zero_le _, h0⟩, ?_⟩
  rintro i m H2 ⟨rfl, hi, p⟩
  have q := hl i H2 hi p
  by_cases hlt : i < kvs.length
  · refine .inr ⟨⟨q, hlt⟩, Pv (i + 1), fun H' p' => ⟨kvs.length - (i + 1), by omega, rfl, hlt, p'⟩, fun x H' y => ?_⟩
    obtain ⟨e, p', hp', ex⟩ := y
    subst e ex
    exact hs i p' _ hp' p
  · have e : i = kvs.length := by omega
    subst e
    exact .inl ⟨⟨q, Nat.le_refl _⟩, hd H2 p⟩
theorem valV_merge : ∀ (more kvs : List (Key × V)) (k : Key), valV (mergeK kvs more) k = match valV more.reverse k with | some v => some v | none => valV kvs k
  | [], kvs, k => rfl
  | p :: more, kvs, k => by
    show valV (mergeK (putK kvs p.1 p.2) more) k = _
    rw [valV_merge more, valV_put, List.reverse_cons]
    unfold valV
    rw [List.find?_append]
    cases e : List.find? (fun kv : Key × V => decide (kv.1 = k)) more.reverse with
    | some z => simp
    | none =>
      by_cases h : k = p.1
      · simp [h]
      · have h' : ¬ p.1 = k := fun z => h z.symm
        simp [h, h']
end L2
set_option Elab.async false
set_option linter.all false
set_option maxRecDepth 100000
set_option maxHeartbeats 4000000
namespace L2
open PySem
def szT (ts : List Tr) : Nat := (ts.map Tr.size).sum
theorem szT_app (a b : List Tr) : szT (a ++ b) = szT a + szT b := by simp [szT]
theorem szT_cons (a : Tr) (b : List Tr) : szT (a :: b) = a.size + szT b := by simp [szT]
theorem szT_nil : szT [] = 0 := rfl
theorem szT_len : ∀ ts : List Tr, ts.length ≤ szT ts
  | [] => Nat.le_refl _
  | t :: ts => by
    rw [szT_cons, List.length_cons]
    have := szT_len ts
    have := size_pos20 t
    omega
theorem cut_back (us vs : List V) (n : Nat) (h0 : 0 < n) (hn : vs.length = n) : cutV (us ++ vs) none (some (-(n : Int))) = us := by
  have e : HT.sIx (us ++ vs).length 0 none = 0 := rfl
  unfold cutV
  rw [sIx_neg h0 (by simp; omega), e]
  simp [hn]
theorem atI_back (us vs : List V) {n j : Nat} {v : V} (h0 : 0 < n) (hn : n ≤ vs.length) (e : vs[vs.length - n]? = some v) : atI (us ++ vs) (-(n : Int)) = some v := by
  have e1 : ixN (us ++ vs).length (-(n : Int)) = some (us.length + (vs.length - n)) := by
    unfold ixN
    rw [List.length_append, if_neg (by omega), if_pos (by omega)]
    congr 1
    omega
  unfold atI
  rw [e1]
  show (us ++ vs)[us.length + (vs.length - n)]? = some v
  rw [List.getElem?_append_right (by omega), Nat.add_sub_cancel_left]
  exact e
theorem ixN_last (us : List V) (x : V) : ixN (us ++ [x]).length (-1) = some us.length := by
  unfold ixN
  rw [List.length_append, if_neg (by decide), if_pos (by simp; omega)]
  congr 1
  simp
  omega
theorem paired_snoc {α : Type} {F : α → V → Prop} : ∀ {as : List α} {us : List V}, Paired F as us → 0 < us.length → ∃ as0 us0 a u, as = as0 ++ [a] ∧ us = us0 ++ [u] ∧ Paired F as0 us0 ∧ F a u
  | _, _, .nil, h => by simp at h
  | _, _, .cons r .nil, _ => ⟨[], [], _, _, rfl, rfl, .nil, r⟩
  | _, _, .cons r (.cons r2 q), _ => by
    obtain ⟨as0, us0, a, u, e1, e2, p, f⟩ := paired_snoc (.cons r2 q) (by simp)
    exact ⟨_ :: as0, _ :: us0, a, u, by rw [e1]; rfl, by rw [e2]; rfl, .cons r p, f⟩
def GS (S : List Str) (ts : List Tr) : Prop := ∀ t ∈ ts, ∀ g ∈ t.gps, g ∈ S
theorem GS.app {S : List Str} {a b : List Tr} (h : GS S a) (k : GS S b) : GS S (a ++ b) := fun t ht => by
  rcases List.mem_append.mp ht with z | z
  · exact h t z
  · exact k t z
theorem GS.left {S : List Str} {a b : List Tr} (h : GS S (a ++ b)) : GS S a := fun t ht => h t (List.mem_append.mpr (.inl ht))
theorem GS.right {S : List Str} {a b : List Tr} (h : GS S (a ++ b)) : GS S b := fun t ht => h t (List.mem_append.mpr (.inr ht))
theorem GS.one {S : List Str} {t : Tr} (h : ∀ g ∈ t.gps, g ∈ S) : GS S [t] := fun u hu => by rw [List.mem_singleton.mp hu]; exact h
theorem via {G : Prop} {E : Hp → Prop} {H1 : Hp} (h : (∀ H2, Same H1 H2 → E H2) → G) (r : ∀ H2, Same H1 H2 → E H2) : G := h r
theorem binPick (z : Int) : ∃ o : Bin, atI [V.str "add", .str "sub", .str "mul", .str "then"] (z % 4) = some (.str o.s) := by
  have h0 := Int.emod_nonneg z (show (4 : Int) ≠ 0 by decide)
  have h1 := Int.emod_lt_of_pos z (show (0 : Int) < 4 by decide)
  have h : z % 4 = 0 ∨ z % 4 = 1 ∨ z % 4 = 2 ∨ z % 4 = 3 := by omega
  rcases h with h | h | h | h <;> rw [h]
  · exact ⟨.add, rfl⟩
  · exact ⟨.sub, rfl⟩
  · exact ⟨.mul, rfl⟩
  · exact ⟨.thn, rfl⟩
end L2
namespace K21
open PySem PySem.Spec L2 PyProof.Rows
abbrev s_law_shape : Stmt := top 24
theorem sc_law_shape : FnScope ["_law_cells", "_law_leaves", "_law_loud", "_law_stack", "_law_cell", "_law_way", "_law_number"] ["_law_cells", "_law_leaves", "_law_loud"] (defScope s_law_shape) := ⟨rfl, rfl, rfl, by decide +kernel, rfl, by decide +kernel, by decide +kernel⟩
section
variable {P : Program} {w : World} {K : PySem.W.Frag} {mg : Str → Option Value} {base : Heap}
def sp_shape (K : PySem.W.Frag) : Sp := fun vs H Q _ => ∃ (a b : Addr) (lo : Bool) (cs : List Int) (us : List V) (lv : List Tr) (S : List Str), vs = [.ref a, .ref b, .bl lo] ∧ SqL K H a (cs.map V.int) ∧ cs.length ≤ 20 ∧ H b = some (.lst us) ∧ Paired (Rep H) lv us ∧ 1 ≤ lv.length ∧ lv.length ≤ 100 ∧ (∀ t ∈ lv, t.size = 1) ∧ GS S lv ∧
  ∀ (t : Tr) (v : V) (H' : Hp), Same H H' → Rep H' t v → t.size ≤ 2 * cs.length + 1 → (∀ g ∈ t.gps, g ∈ S) → Q v H'
def Ws (H0 : Hp) (S : List Str) (n : Nat) (av bv lv : V) (m : Nat) (σ : L2.St) (H : Hp) : Prop := ∃ (r : Addr) (us : List V) (ts : List Tr) (s4 s5 s6 : Option V), σ = [some av, some bv, some lv, some (.ref r), s4, s5, s6] ∧ Same H0 H ∧ H r = some (.lst us) ∧ Paired (Rep H) ts us ∧ ts.length = m ∧ szT ts + ts.length ≤ 2 * n ∧ GS S ts
set_option pp.all false in
theorem ok_shape {k : Nat} {f : Addr} {fd : FuncData} (F : Fun K "_law_shape" "_law_shape" s_law_shape f fd) (z_len : mg "len" = none) : FnOk P w K mg base CX0 (k + 1) f fd ["_law_cells", "_law_leaves", "_law_loud"] (sp_shape K) := by
  refine F.ok sc_law_shape (fun vs H Q E h => ?_) (fun cdv A outer s H vs Q E hr h => ?_)
  · obtain ⟨a, b, lo, cs, us, lv, S, rfl, _⟩ := h
    rfl
  obtain ⟨a, b, lo, cs, lus, lv, S, rfl, hS, hcs, hb, pl, hl1, hl2, hlf, hgs, q⟩ := h
  have hu0 := Nat.lt_of_succ_lt (hu_of hr)
  refine ⟨_, (Sd.un (pss_consS (ps_setS (i := 3) sc_law_shape.nd rfl (Or.inl rfl) (pe_lstS ⟨pa_nil⟩))
    (pss_consS ⟨ps_for PassesOwn.never rfl (pi_list (pv 0)) (pg_name (i := 4) sc_law_shape.nd rfl (Or.inl rfl)) (pss_cons (ps_set (i := 5) sc_law_shape.nd rfl (Or.inl rfl) (pe_op op_mod (pv 4) pe_int))
    (pss_cons (ps_set (i := 6) sc_law_shape.nd rfl (Or.inl rfl) (pe_op op_fdiv (pv 4) pe_int))
    (pss_one (ps_if (pw_and (pt_cmpR op_eq (pv 5) pe_int (nomark _)) (pw_and (pt_truth (pv 2) (fun _ => rfl)) (pw_and1 (pt_cmpR (op_neLE hu0) (pv 3) (pe_lst pa_nil : PE _ _ _) (nomark _))))).pt (pss_one (ps_asg (pe_tup (pa_cons pe_str (pa_cons (pe_ix (r := rIxL K) ix_list (pv 3) (pe_un un_neg pe_int) (fun _ _ => rfl)) pa_nil)) : PE _ _ _) (pg_sub (pv 3) (pe_un un_neg pe_int) set_list))) (pss_one (ps_if (pw_and (pt_cmpR op_eq (pv 5) pe_int (nomark _)) (pw_and1 (pt_cmpR op_gt (pe_callB call_len_seq (by rfl) z_len PySem.boot_len (pa_cons (pv 3) pa_nil)) pe_int (nomark _)))).pt (pss_one (ps_set (i := 3) sc_law_shape.nd rfl (Or.inl rfl) (pe_op op_cat (pe_slice (r := rSlL K) sl_list (pv 3) po_none (po_some (pe_un un_neg pe_int))) (pe_lst (pa_cons (pe_tup (pa_cons pe_str (pa_cons (pe_ix (r := rIxL K) ix_list (pv 3) (pe_un un_neg pe_int) (fun _ _ => rfl)) (pa_cons (pe_ix (r := rIxL K) ix_list (pv 3) (pe_un un_neg pe_int) (fun _ _ => rfl)) (pa_cons (pe_ix (r := rIxL K) ix_list (pv 3) (pe_un un_neg pe_int) (fun _ _ => rfl)) pa_nil)))) : PE _ _ _) pa_nil) : PE _ _ _)))) (pss_one (ps_if (pw_and (pt_cmpR (r := rIn K false) op_in_seq (pv 5) (pe_tup (pa_cons pe_int (pa_cons pe_int pa_nil)) : PE _ _ _) rfl) (pw_and1 (pt_cmpR op_gt (pe_callB call_len_seq (by rfl) z_len PySem.boot_len (pa_cons (pv 3) pa_nil)) pe_int (nomark _)))).pt (pss_one (ps_set (i := 3) sc_law_shape.nd rfl (Or.inl rfl) (pe_op op_cat (pe_slice (r := rSlL K) sl_list (pv 3) po_none (po_some (pe_un un_neg pe_int))) (pe_lst (pa_cons (pe_tup (pa_cons (pe_ix (r := rIxL K) ix_list (pe_lstR [.str "add", .str "sub", .str "mul", .str "then"] (by rfl) : PE _ _ _) (pe_op op_mod (pv 6) pe_int) (fun _ _ => rfl)) (pa_cons (pe_ix (r := rIxL K) ix_list (pv 3) (pe_un un_neg pe_int) (fun _ _ => rfl)) (pa_cons (pe_ix (r := rIxL K) ix_list (pv 3) (pe_un un_neg pe_int) (fun _ _ => rfl)) pa_nil))) : PE _ _ _) pa_nil) : PE _ _ _)))) (pss_one (ps_if (pt_cmpR op_eq (pe_op op_mod (pv 6) (pe_op op_add (pe_callB call_len_seq (by rfl) z_len PySem.boot_len (pa_cons (pv 1) pa_nil)) pe_int)) (pe_callB call_len_seq (by rfl) z_len PySem.boot_len (pa_cons (pv 1) pa_nil)) (nomark _)) (pss_one (ps_expr (pe_bm PySem.F.plainAttrs_list PySem.F.slot_list_append PySem.F.type_list_append mt_append (pv 3) (pa_cons (pe_tup (pa_cons pe_str (pa_cons (pe_op op_mod (pe_op op_fdiv (pv 6) (pe_op op_add (pe_callB call_len_seq (by rfl) z_len PySem.boot_len (pa_cons (pv 1) pa_nil)) pe_int)) (pe_op op_pow pe_int pe_int)) pa_nil)) : PE _ _ _) pa_nil)))) (pss_one (ps_expr (pe_bm PySem.F.plainAttrs_list PySem.F.slot_list_append PySem.F.type_list_append mt_append (pv 3) (pa_cons (pe_ix (r := rIxL K) ix_list (pv 1) (pe_op op_mod (pv 6) (pe_op op_add (pe_callB call_len_seq (by rfl) z_len PySem.boot_len (pa_cons (pv 1) pa_nil)) pe_int)) (fun _ _ => rfl)) pa_nil))))))))))))))⟩
    (pss_consS ⟨ps_while PassesOwn.never (pt_cmpR op_gt (pe_callB call_len_seq (by rfl) z_len PySem.boot_len (pa_cons (pv 3) pa_nil)) pe_int (nomark _)) (pss_one (ps_set (i := 3) sc_law_shape.nd rfl (Or.inl rfl) (pe_op op_cat (pe_slice (r := rSlL K) sl_list (pv 3) po_none (po_some (pe_un un_neg pe_int))) (pe_lst (pa_cons (pe_tup (pa_cons pe_str (pa_cons (pe_ix (r := rIxL K) ix_list (pv 3) (pe_un un_neg pe_int) (fun _ _ => rfl)) (pa_cons (pe_ix (r := rIxL K) ix_list (pv 3) (pe_un un_neg pe_int) (fun _ _ => rfl)) pa_nil))) : PE _ _ _) pa_nil) : PE _ _ _))))⟩
    (pss_consS (ps_ifS ⟨pt_cmpR (op_eqLE hu0) (pv 3) (pe_lst pa_nil : PE _ _ _) (nomark _)⟩ (pss_oneS (ps_retS (pe_ixS (r := rIxL K) ix_list ⟨pv 1⟩ ⟨pe_int⟩ (fun _ _ => rfl)))) ⟨pss_nil⟩)
    (pss_oneS (ps_retS (pe_ixS (r := rIxL K) ix_list ⟨pv 3⟩ ⟨pe_int⟩ (fun _ _ => rfl))))))))), ?_⟩
  have d1 : 1 ≤ sizeLine := by decide
  have d2 : 2 ≤ sizeLine := by decide
  have d3 : 3 ≤ sizeLine := by decide
  have d4 : 4 ≤ sizeLine := by decide
  have llu : lus.length = lv.length := paired_len pl
  refine ⟨(by show 0 ≤ sizeLine; decide), fun r0 hr0 => ?_⟩
  have g0 := same_upd (o := .lst []) hr0
  refine ⟨_, rfl, a, rfl, ⟨_, g0.seq hS⟩, ?_⟩
  refine for_list (xs := cs.map V.int) (fun i σ' H' => ∃ (r : Addr) (us : List V) (ts : List Tr) (s4 s5 s6 : Option V), σ' = [some (.ref a), some (.ref b), some (.bl lo), some (.ref r), s4, s5, s6] ∧ Same H H' ∧ H r = none ∧ H' r = some (.lst us) ∧ Paired (Rep H') ts us ∧ szT ts ≤ i ∧ GS S ts) ?_ ?_ ?_ ?_
  · exact ⟨r0, [], [], none, none, none, rfl, g0, hr0, upd_same, .nil, Nat.le_refl _, fun t ht => by cases ht⟩
  · rintro i σ1 H1 _ ⟨r, us, ts, s4, s5, s6, rfl, g1, _⟩
    exact g1.seq hS
  · rintro i x σ1 H1 hx ⟨r, us, ts, s4, s5, s6, rfl, g1, hrn, er, pr, sz, gs⟩
    rw [List.getElem?_map] at hx
    obtain ⟨c, hc, rfl⟩ := Option.map_eq_some_iff.mp hx
    have hi : i < cs.length := (List.getElem?_eq_some_iff.mp hc).1
    have lu : us.length = ts.length := paired_len pr
    have lt := szT_len ts
    refine ⟨_, rfl, _, _, rfl, rfl, (show (0 : Int) < 8 by decide), ?_⟩
    refine ⟨_, rfl, _, _, rfl, rfl, ⟨(show (0 : Int) < 8 by decide), (show (8 : Int) < 1073741824 by decide)⟩, ?_⟩
    dsimp only
    generalize c % 8 = way
    generalize c / 8 = num
    apply via (H1 := H1)
    · intro rest
      refine ⟨_, rfl, rfl, _, rfl, ite2 (fun _ => ⟨_, rfl, _, rfl, ite2 (fun _ => ?_) (fun _ => iteF (rest H1 (.refl _)))⟩) (fun _ => iteF (rest H1 (.refl _)))⟩
      refine ⟨_, rfl, (by show 0 ≤ sizeLine; decide), fun pe hpe => ⟨r, pe, us, rfl, rfl, same_upd hpe _ _ er, upd_same, _, rfl, ite2 (fun c3 => ?_) (fun _ => rest _ (same_upd hpe))⟩⟩
      have hne : 0 < us.length := by
        rcases Nat.eq_zero_or_pos us.length with h | h
        · rw [h] at c3; simp at c3
        · exact h
      obtain ⟨ts0, us0, t, u, rfl, rfl, p0, rt⟩ := paired_snoc pr hne
      have g2 := same_upd (o := .lst []) hpe
      have at1 : atI (us0 ++ [u]) (-1) = some u := atI_last _ _
      refine ⟨_, rfl, _, rfl, r, _, _, _, rfl, rfl, SqL.of (g2 _ _ er), at1, d2, fun pt hpt => ?_⟩
      have g3 := same_upd (o := .tup [.str "say", u]) hpt
      have er3 := g3 _ _ (g2 _ _ er)
      refine ⟨_, rfl, _, rfl, r, _, _, us0.length, rfl, rfl, er3, ixN_last us0 u, ?_⟩
      have es : (us0 ++ [u]).set us0.length (.ref pt) = us0 ++ [.ref pt] := by simp
      rw [es]
      have tk : Tk H1 _ := (g2.trans g3).tk.trans (Tk.lst (o := .lst (us0 ++ [.ref pt])) er3)
      refine ⟨r, us0 ++ [.ref pt], ts0 ++ [.say t], _, _, _, rfl, same_set (g1.trans (g2.trans g3)) hrn, hrn, upd_same, paired_append (Paired.mapP p0 fun _ _ z => z.mono tk) (.cons (show Rep _ (.say t) (.ref pt) from ⟨pt, u, rfl, (Tk.lst (o := .lst (us0 ++ [.ref pt])) er3) _ _ upd_same, rt.mono tk⟩) .nil), ?_, gs.left.app (.one ?_)⟩
      · rw [szT_app, szT_cons, szT_nil] at sz ⊢
        show szT ts0 + (t.size + 1 + 0) ≤ i + 1
        omega
      · exact gs.right t (List.mem_singleton.mpr rfl)
    intro H2 g2
    apply via (H1 := H2)
    · intro rest
      refine ⟨_, rfl, rfl, _, rfl, ite2 (fun _ => ?_) (fun _ => iteF (rest H2 (.refl _)))⟩
      refine ⟨_, rfl, r, _, rfl, .inl (SqL.of (g2 _ _ er)), _, _, rfl, rfl, _, rfl, ite2 (fun c3 => ?_) (fun _ => rest H2 (.refl _))⟩
      have c3' : (2 : Int) < (us.length : Int) := of_decide_eq_true c3
      obtain ⟨ts1, us1, t3, u3, rfl, rfl, p1, r3⟩ := paired_snoc pr (by omega)
      obtain ⟨ts2, us2, t2, u2, rfl, rfl, p2, r2⟩ := paired_snoc p1 (by simp at c3'; omega)
      obtain ⟨ts3, us3, t1, u1, rfl, rfl, p3, r1⟩ := paired_snoc p2 (by simp at c3'; omega)
      have eu : us3 ++ [u1] ++ [u2] ++ [u3] = us3 ++ [u1, u2, u3] := by simp
      have et : ts3 ++ [t1] ++ [t2] ++ [t3] = ts3 ++ [t1, t2, t3] := by simp
      rw [eu] at er lu
      rw [et] at gs sz lt lu
      have a1 : atI (us3 ++ [u1, u2, u3]) (-1) = some u3 := atI_back us3 [u1, u2, u3] (n := 1) (j := 0) (by decide) (by simp) rfl
      have a2 : atI (us3 ++ [u1, u2, u3]) (-2) = some u2 := atI_back us3 [u1, u2, u3] (n := 2) (j := 0) (by decide) (by simp) rfl
      have a3 : atI (us3 ++ [u1, u2, u3]) (-3) = some u1 := atI_back us3 [u1, u2, u3] (n := 3) (j := 0) (by decide) (by simp) rfl
      have cb : cutV (us3 ++ [u1, u2, u3]) none (some (-3)) = us3 := cut_back us3 [u1, u2, u3] 3 (by decide) rfl
      refine ⟨_, rfl, _, rfl, _, rfl, r, _, rfl, SqL.of (g2 _ _ er), fun ps hps => ?_⟩
      rw [cb]
      have g3 := same_upd (o := .lst us3) hps
      have e3 : (upd H2 ps (.lst us3)) ps = some (.lst us3) := upd_same
      have er3 := g3 _ _ (g2 _ _ er)
      generalize upd H2 ps (.lst us3) = H3 at g3 e3 er3 ⊢
      refine ⟨_, rfl, _, rfl, r, _, _, _, rfl, rfl, SqL.of er3, a3, _, rfl, _, rfl, r, _, _, _, rfl, rfl, SqL.of er3, a2, _, rfl, _, rfl, r, _, _, _, rfl, rfl, SqL.of er3, a1, d4, fun pt hpt => ⟨d1, fun pb hpb => ?_⟩⟩
      have g4 := same_upd (o := .tup [.str "if", u1, u2, u3]) hpt
      have g5 := same_upd (o := .lst [.ref pt]) hpb
      refine ⟨ps, pb, us3, [.ref pt], rfl, rfl, g5 _ _ (g4 _ _ e3), upd_same, line1000 (by have h9 := lt; have h8 := paired_len p3; rw [List.length_append] at h9; simp; omega), fun px hpx => ?_⟩
      have g6 := same_upd (o := .lst (us3 ++ [.ref pt])) hpx
      have G := g2.trans (g3.trans (g4.trans (g5.trans g6)))
      refine ⟨px, us3 ++ [.ref pt], ts3 ++ [.ite t1 t2 t3], _, _, _, rfl, g1.trans G, (g1.trans (g2.trans (g3.trans (g4.trans g5)))).free hpx, upd_same, paired_append (Paired.mapP p3 fun _ _ z => z.mono G.tk) (.cons (show Rep _ (.ite t1 t2 t3) (.ref pt) from ⟨pt, u1, u2, u3, rfl, g6 _ _ (g5 _ _ upd_same), r1.mono G.tk, r2.mono G.tk, r3.mono G.tk⟩) .nil), ?_, gs.left.app (.one fun g hg => ?_)⟩
      · rw [szT_app, szT_cons, szT_cons, szT_cons, szT_nil] at sz
        rw [szT_app, szT_cons, szT_nil]
        show szT ts3 + (t1.size + t2.size + t3.size + 1 + 0) ≤ i + 1
        omega
      · rcases List.mem_append.mp hg with h | h
        · exact gs.right t1 (by simp) g h
        · rcases List.mem_append.mp h with h | h
          · exact gs.right t2 (by simp) g h
          · exact gs.right t3 (by simp) g h
    intro H3 g3
    have g13 := g2.trans g3
    apply via (H1 := H3)
    · intro rest
      refine ⟨_, rfl, d2, fun pq hpq => ⟨pq, _, rfl, .inr (SqT.of upd_same), rfl, rfl, _, rfl, ite2 (fun _ => ?_) (fun _ => iteF (rest _ (same_upd hpq)))⟩⟩
      have g4 := g13.trans (same_upd (o := .tup [.int 4, .int 5]) hpq)
      refine ⟨_, rfl, r, _, rfl, .inl (SqL.of (g4 _ _ er)), _, _, rfl, rfl, _, rfl, ite2 (fun c3 => ?_) (fun _ => rest _ (same_upd hpq))⟩
      have c3' : (1 : Int) < (us.length : Int) := of_decide_eq_true c3
      obtain ⟨ts1, us1, t2, u2, rfl, rfl, p1, r2⟩ := paired_snoc pr (by omega)
      obtain ⟨ts2, us2, t1, u1, rfl, rfl, p2, r1⟩ := paired_snoc p1 (by simp at c3'; omega)
      have eu : us2 ++ [u1] ++ [u2] = us2 ++ [u1, u2] := by simp
      have et : ts2 ++ [t1] ++ [t2] = ts2 ++ [t1, t2] := by simp
      rw [eu] at er lu
      rw [et] at gs sz lt lu
      have a1 : atI (us2 ++ [u1, u2]) (-1) = some u2 := atI_back us2 [u1, u2] (n := 1) (j := 0) (by decide) (by simp) rfl
      have a2 : atI (us2 ++ [u1, u2]) (-2) = some u1 := atI_back us2 [u1, u2] (n := 2) (j := 0) (by decide) (by simp) rfl
      have cb : cutV (us2 ++ [u1, u2]) none (some (-2)) = us2 := cut_back us2 [u1, u2] 2 (by decide) rfl
      obtain ⟨o, eo⟩ := binPick num
      have er4 := g4 _ _ er
      generalize upd H3 pq (.tup [.int 4, .int 5]) = H4 at g4 er4 ⊢
      refine ⟨_, rfl, _, rfl, _, rfl, r, _, rfl, SqL.of er4, fun ps hps => ?_⟩
      rw [cb]
      have g5 := same_upd (o := .lst us2) hps
      have e5 : (upd H4 ps (.lst us2)) ps = some (.lst us2) := upd_same
      have er5 := g5 _ _ er4
      generalize upd H4 ps (.lst us2) = H5 at g5 e5 er5 ⊢
      refine ⟨(by show 4 ≤ sizeLine; decide), fun pw hpw => ?_⟩
      have g6 := same_upd (o := .lst [.str "add", .str "sub", .str "mul", .str "then"]) hpw
      have e6 := g6 _ _ e5
      have er6 := g6 _ _ er5
      have ew : (upd H5 pw (.lst [.str "add", .str "sub", .str "mul", .str "then"])) pw = some (.lst [.str "add", .str "sub", .str "mul", .str "then"]) := upd_same
      generalize upd H5 pw (.lst [.str "add", .str "sub", .str "mul", .str "then"]) = H6 at g6 e6 er6 ew ⊢
      refine ⟨_, rfl, _, _, rfl, rfl, (show (0 : Int) < 4 by decide), pw, _, _, _, rfl, rfl, SqL.of ew, eo, ?_⟩
      refine ⟨_, rfl, _, rfl, r, _, _, _, rfl, rfl, SqL.of er6, a2, _, rfl, _, rfl, r, _, _, _, rfl, rfl, SqL.of er6, a1, d3, fun pt hpt => ⟨d1, fun pb hpb => ?_⟩⟩
      have g7 := same_upd (o := .tup [.str o.s, u1, u2]) hpt
      have g8 := same_upd (o := .lst [.ref pt]) hpb
      refine ⟨ps, pb, us2, [.ref pt], rfl, rfl, g8 _ _ (g7 _ _ e6), upd_same, line1000 (by have h9 := lt; have h8 := paired_len p2; rw [List.length_append] at h9; simp; omega), fun px hpx => ?_⟩
      have g9 := same_upd (o := .lst (us2 ++ [.ref pt])) hpx
      have G8 := g4.trans (g5.trans (g6.trans (g7.trans g8)))
      have G := G8.trans g9
      refine ⟨px, us2 ++ [.ref pt], ts2 ++ [.bin o t1 t2], _, _, _, rfl, g1.trans G, (g1.trans G8).free hpx, upd_same, paired_append (Paired.mapP p2 fun _ _ z => z.mono G.tk) (.cons (show Rep _ (.bin o t1 t2) (.ref pt) from ⟨pt, u1, u2, rfl, g9 _ _ (g8 _ _ upd_same), r1.mono G.tk, r2.mono G.tk⟩) .nil), ?_, gs.left.app (.one fun g hg => ?_)⟩
      · rw [szT_app, szT_cons, szT_cons, szT_nil] at sz
        rw [szT_app, szT_cons, szT_nil]
        show szT ts2 + (t1.size + t2.size + 1 + 0) ≤ i + 1
        omega
      · rcases List.mem_append.mp hg with h | h
        · exact gs.right t1 (by simp) g h
        · exact gs.right t2 (by simp) g h
    intro H4 g4
    have g14 := g13.trans g4
    have hb4 : H4 b = some (.lst lus) := (g1.trans g14) _ _ hb
    have er4 := g14 _ _ er
    have m0 := Int.emod_nonneg num (show ((lus.length : Int) + 1) ≠ 0 by omega)
    have m1 := Int.emod_lt_of_pos num (show (0 : Int) < (lus.length : Int) + 1 by omega)
    refine ⟨_, rfl, _, rfl, b, _, rfl, .inl (SqL.of hb4), _, _, rfl, rfl, _, _, rfl, rfl, (show (0 : Int) < (lus.length : Int) + 1 by omega), _, rfl, b, _, rfl, .inl (SqL.of hb4), rfl, _, rfl, ite2 (fun c4 => ?_) (fun c4 => ?_)⟩
    · refine ⟨_, rfl, .inl ⟨rfl, _, SqL.of er4⟩, _, rfl, _, rfl, b, _, rfl, .inl (SqL.of hb4), _, _, rfl, rfl, _, _, rfl, rfl, ⟨(show (0 : Int) < (lus.length : Int) + 1 by omega), (show (lus.length : Int) + 1 < 1073741824 by omega)⟩, _, _, rfl, rfl, ⟨by decide, by decide, by decide⟩, _, _, rfl, rfl, (show (0 : Int) < 10 ^ 30 by decide), d2, fun pt hpt => ?_⟩
      have g5 := same_upd (o := .tup [.str "num", .int (num / ((lus.length : Int) + 1) % 10 ^ (30 : Int).toNat)]) hpt
      have er5 := g5 _ _ er4
      have ep : (upd H4 pt (.tup [.str "num", .int (num / ((lus.length : Int) + 1) % 10 ^ (30 : Int).toNat)])) pt = some (.tup [.str "num", .int (num / ((lus.length : Int) + 1) % 10 ^ (30 : Int).toNat)]) := upd_same
      refine ⟨r, us, .ref pt, rfl, rfl, er5, small1000 (by omega), ?_⟩
      generalize upd H4 pt (.tup [.str "num", .int (num / ((lus.length : Int) + 1) % 10 ^ (30 : Int).toNat)]) = H5 at g5 er5 ep ⊢
      have tk : Tk H5 (upd H5 r (.lst (us ++ [.ref pt]))) := Tk.lst er5
      have tk1 : Tk H1 (upd H5 r (.lst (us ++ [.ref pt]))) := (g14.trans g5).tk.trans tk
      refine ⟨r, us ++ [.ref pt], ts ++ [.num (num / ((lus.length : Int) + 1) % 10 ^ (30 : Int).toNat)], _, _, _, rfl, same_set (g1.trans (g14.trans g5)) hrn, hrn, upd_same, paired_append (Paired.mapP pr fun _ _ z => z.mono tk1) (.cons (show Rep _ (.num _) (.ref pt) from ⟨pt, rfl, tk _ _ ep⟩) .nil), ?_, gs.app (.one fun g hg => by cases hg)⟩
      rw [szT_app, szT_cons, szT_nil]
      show szT ts + (1 + 0) ≤ i + 1
      omega
    · have c4' : ¬ num % ((lus.length : Int) + 1) = (lus.length : Int) := fun z => c4 (decide_eq_true (by show V.int _ = V.int _; rw [z]))
      obtain ⟨kx, ekx⟩ : ∃ kx : Nat, (kx : Int) = num % ((lus.length : Int) + 1) := ⟨(num % ((lus.length : Int) + 1)).toNat, by omega⟩
      have hkx : kx < lus.length := by omega
      obtain ⟨u, hu⟩ : ∃ u, lus[kx]? = some u := ⟨_, List.getElem?_eq_getElem hkx⟩
      obtain ⟨t, ht, rt⟩ := paired_get pl hu
      have hmem := List.mem_of_getElem? ht
      have atk : atI lus (num % ((lus.length : Int) + 1)) = some u := by rw [← ekx]; exact atI_nat hu
      refine ⟨_, rfl, .inl ⟨rfl, _, SqL.of er4⟩, _, rfl, _, rfl, _, rfl, b, _, rfl, .inl (SqL.of hb4), _, _, rfl, rfl, _, _, rfl, rfl, (show (0 : Int) < (lus.length : Int) + 1 by omega), b, _, _, _, rfl, rfl, SqL.of hb4, atk, ?_⟩
      refine ⟨r, us, u, rfl, rfl, er4, small1000 (by omega), ?_⟩
      have tk : Tk H4 (upd H4 r (.lst (us ++ [u]))) := Tk.lst er4
      have tk1 : Tk H1 (upd H4 r (.lst (us ++ [u]))) := g14.tk.trans tk
      refine ⟨r, us ++ [u], ts ++ [t], _, _, _, rfl, same_set (g1.trans g14) hrn, hrn, upd_same, paired_append (Paired.mapP pr fun _ _ z => z.mono tk1) (.cons (rt.mono (g1.tk.trans tk1)) .nil), ?_, gs.app (.one fun g hg => hgs t hmem g hg)⟩
      rw [szT_app, szT_cons, szT_nil, hlf t hmem]
      omega
  rintro σ1 H1 ⟨r, us, ts, s4, s5, s6, rfl, g1, hrn, er, pr, sz, gs⟩
  rw [List.length_map] at sz
  have lt := szT_len ts
  refine ⟨Ws H S cs.length (.ref a) (.ref b) (.bl lo), ⟨_, r, us, ts, _, _, _, rfl, g1, er, pr, rfl, by omega, gs⟩, ?_⟩
  clear pr er gs sz lt hrn g1
  rintro m σ2 H2 ⟨r, us, ts, s4, s5, s6, rfl, g2, er, pr, lm, bd, gs⟩
  have lu : us.length = ts.length := paired_len pr
  have lt := szT_len ts
  refine ⟨_, rfl, r, _, rfl, .inl (SqL.of er), _, _, rfl, rfl, _, rfl, ite2 (fun c1 => ?_) (fun c1 => ?_)⟩
  · have c1' : (1 : Int) < (us.length : Int) := of_decide_eq_true c1
    refine ⟨fun σ' H' => ∃ m', m' < m ∧ Ws H S cs.length (.ref a) (.ref b) (.bl lo) m' σ' H', fun σ' H' z => z, ?_⟩
    obtain ⟨ts1, us1, t2, u2, rfl, rfl, p1, r2⟩ := paired_snoc pr (by omega)
    obtain ⟨ts2, us2, t1, u1, rfl, rfl, p2, r1⟩ := paired_snoc p1 (by simp at c1'; omega)
    have eu : us2 ++ [u1] ++ [u2] = us2 ++ [u1, u2] := by simp
    have et : ts2 ++ [t1] ++ [t2] = ts2 ++ [t1, t2] := by simp
    rw [eu] at er lu
    rw [et] at gs bd lt lu lm
    have a1 : atI (us2 ++ [u1, u2]) (-1) = some u2 := atI_back us2 [u1, u2] (n := 1) (j := 0) (by decide) (by simp) rfl
    have a2 : atI (us2 ++ [u1, u2]) (-2) = some u1 := atI_back us2 [u1, u2] (n := 2) (j := 0) (by decide) (by simp) rfl
    have cb : cutV (us2 ++ [u1, u2]) none (some (-2)) = us2 := cut_back us2 [u1, u2] 2 (by decide) rfl
    refine ⟨_, rfl, _, rfl, _, rfl, r, _, rfl, SqL.of er, fun ps hps => ?_⟩
    rw [cb]
    have g5 := same_upd (o := .lst us2) hps
    have e5 : (upd H2 ps (.lst us2)) ps = some (.lst us2) := upd_same
    have er5 := g5 _ _ er
    generalize upd H2 ps (.lst us2) = H5 at g5 e5 er5 ⊢
    refine ⟨_, rfl, _, rfl, r, _, _, _, rfl, rfl, SqL.of er5, a2, _, rfl, _, rfl, r, _, _, _, rfl, rfl, SqL.of er5, a1, d3, fun pt hpt => ⟨d1, fun pb hpb => ?_⟩⟩
    have g7 := same_upd (o := .tup [.str "add", u1, u2]) hpt
    have g8 := same_upd (o := .lst [.ref pt]) hpb
    refine ⟨ps, pb, us2, [.ref pt], rfl, rfl, g8 _ _ (g7 _ _ e5), upd_same, line1000 (by have h9 := lt; have h8 := paired_len p2; rw [List.length_append] at h9; simp; omega), fun px hpx => ?_⟩
    have g9 := same_upd (o := .lst (us2 ++ [.ref pt])) hpx
    have G := g5.trans (g7.trans (g8.trans g9))
    refine ⟨ts2.length + 1, by simp at lm; omega, px, us2 ++ [.ref pt], ts2 ++ [.bin .add t1 t2], _, _, _, rfl, g2.trans G, upd_same, paired_append (Paired.mapP p2 fun _ _ z => z.mono G.tk) (.cons (show Rep _ (.bin .add t1 t2) (.ref pt) from ⟨pt, u1, u2, rfl, g9 _ _ (g8 _ _ upd_same), r1.mono G.tk, r2.mono G.tk⟩) .nil), by simp, ?_, gs.left.app (.one fun g hg => ?_)⟩
    · rw [szT_app, szT_cons, szT_cons, szT_nil, List.length_append] at bd
      rw [szT_app, szT_cons, szT_nil, List.length_append]
      simp only [List.length_cons, List.length_nil] at bd ⊢
      show szT ts2 + (t1.size + t2.size + 1 + 0) + _ ≤ _
      omega
    · rcases List.mem_append.mp hg with h | h
      · exact gs.right t1 (by simp) g h
      · exact gs.right t2 (by simp) g h
  · have c1' : ¬ (1 : Int) < (us.length : Int) := fun z => c1 (decide_eq_true z)
    refine ⟨_, rfl, (by show 0 ≤ sizeLine; decide), fun pe hpe => ⟨r, pe, us, rfl, rfl, same_upd hpe _ _ er, upd_same, _, rfl, ite2 (fun c3 => ?_) (fun c3 => ?_)⟩⟩
    · have gp := same_upd (o := .lst []) hpe
      obtain ⟨u, hu⟩ : ∃ u, lus[0]? = some u := ⟨_, List.getElem?_eq_getElem (by omega)⟩
      obtain ⟨t, ht, rt⟩ := paired_get pl hu
      have hmem := List.mem_of_getElem? ht
      exact ⟨_, rfl, b, _, 0, u, rfl, rfl, SqL.of ((g2.trans gp) _ _ hb), atI_nat (j := 0) hu, q t u _ (g2.trans gp) (rt.mono (g2.trans gp).tk) (by rw [hlf t hmem]; omega) fun g hg => hgs t hmem g hg⟩
    · have c3' : us.length ≠ 0 := fun z => c3 (by rw [z]; rfl)
      obtain ⟨x, hx⟩ : ∃ x, us[0]? = some x := ⟨_, List.getElem?_eq_getElem (by omega)⟩
      obtain ⟨tx, ex, rx⟩ := paired_get pr hx
      have hmem := List.mem_of_getElem? ex
      have sx : tx.size ≤ szT ts := by
        match ts, ex with
        | t :: r, ex =>
          have : t = tx := Option.some.inj ex
          rw [szT_cons, this]
          omega
      have gp := same_upd (o := .lst []) hpe
      exact ⟨_, rfl, r, _, 0, x, rfl, rfl, SqL.of (gp _ _ er), atI_nat (j := 0) hx, q tx x _ (g2.trans gp) (rx.mono gp.tk) (by omega) fun g hg => gs tx hmem g hg⟩
end
end K21
set_option Elab.async false
set_option linter.all false
set_option maxRecDepth 100000
set_option maxHeartbeats 4000000
namespace L2
open PySem
theorem viaP {G : Prop} {E : Hp → Prop} (A : Hp → Prop) (h : (∀ H2, A H2 → E H2) → G) (r : ∀ H2, A H2 → E H2) : G := h r
theorem viaS {G : Prop} {E : L2.St → Hp → Prop} (A : L2.St → Hp → Prop) (h : (∀ σ H2, A σ H2 → E σ H2) → G) (r : ∀ σ H2, A σ H2 → E σ H2) : G := h r
theorem parts_many (t : Tr) : t.parts.length = t.kd.many := by
  cases t with
  | bin o a b => cases o <;> rfl
  | _ => rfl
theorem in_putK {kvs : List (Key × V)} {k : Key} {v : V} {p : Key × V} (h : p ∈ putK kvs k v) : p = (k, v) ∨ p ∈ kvs := by
  unfold putK at h
  split at h
  · obtain ⟨q, hq, e⟩ := List.mem_map.mp h
    by_cases z : q.1 = k
    · rw [if_pos z, z] at e
      exact .inl e.symm
    · rw [if_neg z] at e
      exact .inr (e ▸ hq)
  · rcases List.mem_append.mp h with h | h
    · exact .inr h
    · exact .inl (List.mem_singleton.mp h)
theorem nd_put {kvs : List (Key × V)} (k : Key) (v : V) (nd : (kvs.map (·.1)).Nodup) : ((putK kvs k v).map (·.1)).Nodup := by
  unfold putK
  split
  · have e : (kvs.map fun kv => if kv.1 = k then (kv.1, v) else kv).map (·.1) = kvs.map (·.1) := by
      rw [List.map_map]
      refine List.map_congr_left fun q _ => ?_
      show (if q.1 = k then (q.1, v) else q).1 = q.1
      split <;> rfl
    rw [e]; exact nd
  · rename_i h
    rw [List.map_append, List.nodup_append]
    refine ⟨nd, by simp, fun a ha b hb e => h ?_⟩
    obtain ⟨q, hq, rfl⟩ := List.mem_map.mp ha
    simp at hb
    rw [List.any_eq_true]
    exact ⟨q, hq, decide_eq_true (e.trans hb)⟩
theorem some_val {kvs : List (Key × V)} {k : Key} : (valV kvs k).isSome = true ↔ ∃ p ∈ kvs, p.1 = k := by
  unfold valV
  rw [Option.isSome_map, List.find?_isSome]
  exact ⟨fun ⟨p, h, e⟩ => ⟨p, h, of_decide_eq_true e⟩, fun ⟨p, h, e⟩ => ⟨p, h, decide_eq_true e⟩⟩
theorem some_merge : ∀ (more kvs : List (Key × V)) (k : Key), (valV (mergeK kvs more) k).isSome = true ↔ (valV kvs k).isSome = true ∨ (valV more k).isSome = true
  | [], kvs, k => ⟨fun h => .inl h, fun h => h.elim id fun z => by cases z⟩
  | p :: more, kvs, k => by
    show (valV (mergeK (putK kvs p.1 p.2) more) k).isSome = true ↔ _
    rw [some_merge more, valV_put]
    rw [some_val (kvs := p :: more), some_val (kvs := more)]
    by_cases h : k = p.1
    · rw [if_pos h]
      exact ⟨fun _ => .inr ⟨p, List.mem_cons_self, h.symm⟩, fun _ => .inl rfl⟩
    · rw [if_neg h]
      constructor
      · rintro (z | ⟨q, hq, e⟩)
        · exact .inl z
        · exact .inr ⟨q, List.mem_cons_of_mem _ hq, e⟩
      · rintro (z | ⟨q, hq, e⟩)
        · exact .inl z
        · rcases List.mem_cons.mp hq with rfl | hq
          · exact absurd e.symm h
          · exact .inr ⟨q, hq, e⟩
structure GD (S : List Str) (kvs : List (Key × V)) : Prop where
  nm : ∀ p ∈ kvs, ∃ (g : Str) (n : Int), p = ((Sum.inr g : Key), V.int n)
  vl : ∀ g : Str, (valV kvs (Sum.inr g : Key)).isSome = true ↔ g ∈ S
  nd : (kvs.map (·.1)).Nodup
theorem GD.nil : GD [] [] := ⟨by simp, fun g => ⟨(fun z => nomatch z), (fun z => nomatch z)⟩, List.nodup_nil⟩
theorem GD.put {S : List Str} {kvs : List (Key × V)} (h : GD S kvs) (x : Str) (n : Int) : GD (x :: S) (putK kvs (Sum.inr x : Key) (.int n)) := by
  refine ⟨fun p hp => ?_, fun g => ?_, nd_put _ _ h.nd⟩
  · rcases in_putK hp with z | z
    · exact ⟨x, n, z⟩
    · exact h.nm p z
  · rw [valV_put]
    by_cases z : g = x
    · subst z
      rw [if_pos rfl]
      exact ⟨fun _ => List.mem_cons_self, fun _ => rfl⟩
    · have z' : ¬ (Sum.inr g : Key) = Sum.inr x := fun w => z (Sum.inr.inj w)
      rw [if_neg z', h.vl g, List.mem_cons]
      exact ⟨.inr, fun w => w.resolve_left z⟩
theorem GD.merge {S T : List Str} {more : List (Key × V)} (k : GD T more) : ∀ {kvs : List (Key × V)}, GD S kvs → GD (S ++ T) (mergeK kvs more) := by
  intro kvs h
  have key : ∀ (m : List (Key × V)) (kvs : List (Key × V)), (∀ p ∈ m, ∃ (g : Str) (n : Int), p = ((Sum.inr g : Key), V.int n)) → (∀ p ∈ kvs, ∃ (g : Str) (n : Int), p = ((Sum.inr g : Key), V.int n)) → (kvs.map (·.1)).Nodup →
      (∀ p ∈ mergeK kvs m, ∃ (g : Str) (n : Int), p = ((Sum.inr g : Key), V.int n)) ∧ ((mergeK kvs m).map (·.1)).Nodup := by
    intro m
    induction m with
    | nil => exact fun kvs _ b c => ⟨b, c⟩
    | cons q m ih =>
      intro kvs a b c
      refine ih (putK kvs q.1 q.2) (fun p hp => a p (List.mem_cons_of_mem _ hp)) (fun p hp => ?_) (nd_put _ _ c)
      rcases in_putK hp with z | z
      · rw [z]; exact a q List.mem_cons_self
      · exact b p z
  obtain ⟨r1, r2⟩ := key more kvs k.nm h.nm h.nd
  refine ⟨r1, fun g => ?_, r2⟩
  rw [some_merge, h.vl, k.vl, List.mem_append]
def ownS : Tr → List Str
  | .gap g _ => [g]
  | _ => []
theorem gps_parts (t : Tr) : ∀ g, g ∈ t.gps ↔ g ∈ ownS t ++ t.parts.flatMap Tr.gps := fun g => by
  cases t <;> simp [Tr.gps, ownS, Tr.parts]
theorem GD.congr {S T : List Str} {kvs : List (Key × V)} (h : GD S kvs) (e : ∀ g, g ∈ T ↔ g ∈ S) : GD T kvs := ⟨h.nm, fun g => (h.vl g).trans (e g).symm, h.nd⟩
def ownW (ρ : Kd → List Nat) (ω : Str → Nat) : Tr → Nat
  | .gap g _ => ω g
  | t => own ρ t
theorem dot_mono : ∀ (ks : List Nat) {xs ys : List Nat}, xs.length = ys.length → (∀ (i x y : Nat), xs[i]? = some x → ys[i]? = some y → x ≤ y) → dot ks xs ≤ dot ks ys
  | [], _, _, _, _ => Nat.le_refl _
  | _ :: _, [], [], _, _ => Nat.le_refl _
  | k :: ks, x :: xs, y :: ys, h, l => by
    have h0 := l 0 x y rfl rfl
    have ih := dot_mono ks (xs := xs) (ys := ys) (by simpa using h) (fun i a b ha hb => l (i + 1) a b (by simpa using ha) (by simpa using hb))
    rw [dot, dot]
    have := Nat.mul_le_mul_left k h0
    omega
theorem wB_mono (ρ : Kd → List Nat) {β γ : Tr → Nat} (h : ∀ t, β t ≤ γ t) : ∀ t : Tr, wB ρ β t ≤ wB ρ γ t
  | .say a => by
    have e1 := wB_mono ρ h a
    have := dot_mono ((ρ .say).drop 1) (xs := [wB ρ β a]) (ys := [wB ρ γ a]) rfl (fun i x y hx hy => by
      match i with
      | 0 => cases hx; cases hy; exact e1
      | _ + 1 => simp at hx)
    have := h (.say a)
    rw [wB, wB]; omega
  | .bin o a b => by
    have e1 := wB_mono ρ h a
    have e2 := wB_mono ρ h b
    have := dot_mono ((ρ o.kd).drop 1) (xs := [wB ρ β a, wB ρ β b]) (ys := [wB ρ γ a, wB ρ γ b]) rfl (fun i x y hx hy => by
      match i with
      | 0 => cases hx; cases hy; exact e1
      | 1 => cases hx; cases hy; exact e2
      | _ + 2 => simp at hx)
    have := h (.bin o a b)
    rw [wB, wB]; omega
  | .ite a b c => by
    have e1 := wB_mono ρ h a
    have e2 := wB_mono ρ h b
    have e3 := wB_mono ρ h c
    have := dot_mono ((ρ .ite).drop 1) (xs := [wB ρ β a, wB ρ β b, wB ρ β c]) (ys := [wB ρ γ a, wB ρ γ b, wB ρ γ c]) rfl (fun i x y hx hy => by
      match i with
      | 0 => cases hx; cases hy; exact e1
      | 1 => cases hx; cases hy; exact e2
      | 2 => cases hx; cases hy; exact e3
      | _ + 3 => simp at hx)
    have := h (.ite a b c)
    rw [wB, wB]; omega
  | .lett s a b => by
    have e1 := wB_mono ρ h a
    have e2 := wB_mono ρ h b
    have := dot_mono ((ρ .lett).drop 1) (xs := [wB ρ β a, wB ρ β b]) (ys := [wB ρ γ a, wB ρ γ b]) rfl (fun i x y hx hy => by
      match i with
      | 0 => cases hx; cases hy; exact e1
      | 1 => cases hx; cases hy; exact e2
      | _ + 2 => simp at hx)
    have := h (.lett s a b)
    rw [wB, wB]; omega
  | .num n => h (.num n)
  | .name n => h (.name n)
  | .ask n => h (.ask n)
  | .stop n => h (.stop n)
  | .gap n as => h (.gap n as)
theorem wW_le {ρ : Kd → List Nat} (g : GoodF ρ) {ω : Str → Nat} (hω : ∀ x, ω x ≤ 2) (t : Tr) : wB ρ (ownW ρ ω) t ≤ 2 * wrt ρ t := by
  have h1 := wB_mono ρ (β := ownW ρ ω) (γ := fun t => own ρ t + own ρ t) (fun t => by
    cases t with
    | gap x as =>
      show ω x ≤ (ρ .gap).getD 0 0 + (ρ .gap).getD 0 0
      rw [g.one .gap rfl]
      exact hω x
    | _ => exact Nat.le_add_right _ _) t
  rw [wB_add, ← wrt_wB g] at h1
  omega
theorem wW_lt {ρ : Kd → List Nat} (g : GoodF ρ) {ω : Str → Nat} (hω : ∀ x, ω x ≤ 2) {t : Tr} (h : t.size ≤ 122) : wB ρ (ownW ρ ω) t < 2 ^ 500 := by
  have h0 := wW_le g hω t
  have h1 := wrt_le g t
  have h2 : 16 ^ t.size ≤ 16 ^ 122 := Nat.pow_le_pow_right (by decide) h
  have h3 : 2 * 16 ^ 122 < 2 ^ 500 := by decide +kernel
  omega
theorem wW_one {ρ : Kd → List Nat} (g : GoodF ρ) (t : Tr) : wB ρ (ownW ρ fun _ => 1) t = wrt ρ t := by
  rw [wrt_wB g]
  congr 1
  funext t
  cases t with
  | gap x as =>
    show 1 = (ρ .gap).getD 0 0
    rw [g.one .gap rfl]; rfl
  | _ => rfl
theorem wW_two {ρ : Kd → List Nat} (g : GoodF ρ) (x : Str) (t : Tr) : wB ρ (ownW ρ fun y => if y = x then 2 else 1) t = wrt ρ t + gw ρ x t := by
  rw [wrt_wB g, ← wB_add]
  congr 1
  funext t
  cases t with
  | gap y as =>
    show (if y = x then 2 else 1) = (ρ .gap).getD 0 0 + (if y = x then 1 else 0)
    rw [g.one .gap rfl]
    split <;> rfl
  | _ => rfl
theorem own_leaf {ρ : Kd → List Nat} (g : GoodF ρ) {t : Tr} (h : t.parts.length = 0) (hg : ¬ t.kd = .gap) (ω : Str → Nat) : wB ρ (ownW ρ ω) t = 1 := by
  cases t with
  | num n => show (ρ .num).getD 0 0 = 1; rw [g.one .num rfl]; rfl
  | name n => show (ρ .name).getD 0 0 = 1; rw [g.one .name rfl]; rfl
  | ask n => show (ρ .ask).getD 0 0 = 1; rw [g.one .ask rfl]; rfl
  | stop n => show (ρ .stop).getD 0 0 = 1; rw [g.one .stop rfl]; rfl
  | gap n as => exact absurd rfl hg
  | _ => simp [Tr.parts] at h
theorem ownW_not {ρ : Kd → List Nat} {t : Tr} (hg : ¬ t.kd = .gap) (ω : Str → Nat) : ownW ρ ω t = own ρ t := by
  cases t with
  | gap n as => exact absurd rfl hg
  | _ => rfl
end L2
namespace K21
open PySem PySem.Spec L2 PyProof.Rows
abbrev s_law_parts : Stmt := top 25
theorem sc_law_parts : FnScope ["_law_tree"] ["_law_tree"] (defScope s_law_parts) := ⟨rfl, rfl, rfl, by decide +kernel, rfl, by decide +kernel, by decide +kernel⟩
abbrev s_law_gaps : Stmt := top 26
theorem sc_law_gaps : FnScope ["_law_shape_here", "_law_found", "_law_part"] ["_law_shape_here"] (defScope s_law_gaps) := ⟨rfl, rfl, rfl, by decide +kernel, rfl, by decide +kernel, by decide +kernel⟩
abbrev s_law_is_loud : Stmt := top 27
theorem sc_law_is_loud : FnScope ["_law_shape_here", "_law_part"] ["_law_shape_here"] (defScope s_law_is_loud) := ⟨rfl, rfl, rfl, by decide +kernel, rfl, by decide +kernel, by decide +kernel⟩
abbrev s_law_worth : Stmt := top 32
theorem sc_law_worth : FnScope ["_law_tree", "_law_scale_here", "_law_worths", "_law_some", "_law_row", "_law_found", "_law_k"] ["_law_tree", "_law_scale_here", "_law_worths"] (defScope s_law_worth) := ⟨rfl, rfl, rfl, by decide +kernel, rfl, by decide +kernel, by decide +kernel⟩
section
variable {P : Program} {w : World} {K : PySem.W.Frag} {mg : Str → Option Value} {base : Heap}
theorem ok_lparts {k : Nat} {f : Addr} {fd : FuncData} (F : Fun K "_law_parts" "_law_parts" s_law_parts f fd) : FnOk P w K mg base CX0 (k + 1) f fd ["_law_tree"] sp_parts := by
  refine F.ok sc_law_parts (fun vs H Q E h => ?_) (fun cdv A outer s H vs Q E hr h => ?_)
  · obtain ⟨t, v, rfl, _⟩ := h
    rfl
  obtain ⟨t, v, rfl, hR, q⟩ := h
  refine ⟨_, (pss_cons (ps_if (pt_cmpR (r := rIn K false) op_in_seq (pe_ix (r := rIxT K) ix_tup (pv 0) pe_int (fun _ _ => rfl)) (pe_tupR [.str "num", .str "name", .str "ask", .str "stop", .str "gap"] (by rfl) : PE _ _ _) rfl) (pss_one (ps_ret (pe_tup pa_nil : PE _ _ _))) pss_nil)
    (pss_cons (ps_if (pt_cmpR op_eq (pe_ix (r := rIxT K) ix_tup (pv 0) pe_int (fun _ _ => rfl)) pe_str (nomark _)) (pss_one (ps_ret (pe_slice sl_tupV (pv 0) (po_some pe_int) po_none))) pss_nil)
    (pss_one (ps_ret (pe_slice sl_tupV (pv 0) (po_some pe_int) po_none))))), ?_⟩
  have hR0 := hR
  obtain ⟨a, hs, us, rfl, ha, hl, hp⟩ := hR.all
  have h0 : atI (V.str t.kd.s :: hs ++ us) 0 = some (.str t.kd.s) := atI_nat (j := 0) rfl
  refine ⟨_, rfl, a, _, 0, _, rfl, rfl, SqT.of ha, h0, (by show 5 ≤ sizeLine; decide), fun pl hpl => ⟨pl, signsV, rfl, .inr (SqT.of upd_same), rfl, rfl, _, rfl, ?_⟩⟩
  have g1 := same_upd (o := .tup signsV) hpl
  have ha1 := g1 _ _ ha
  have hR1 := hR0.mono g1.tk
  show if inV (.str t.kd.s) signsV = true then _ else _
  rw [in_signs]
  show if t.kd.leaf = true then tRet _ _ _ (upd H pl (.tup signsV)) else tNext _ _ (upd H pl (.tup signsV))
  generalize upd H pl (.tup signsV) = H1 at g1 ha1 hR1 ⊢
  refine ite2 (fun c => ?_) (fun c => ?_)
  · refine ⟨(by show 0 ≤ sizeLine; decide), fun p hp => q p _ [] (g1.trans (same_upd hp)) upd_same ?_⟩
    have e : t.parts = [] := by
      cases t with
      | bin o a b => cases o <;> cases c
      | _ => first | rfl | cases c
    rw [e]
    exact .nil
  · refine ⟨_, rfl, a, _, 0, _, rfl, rfl, SqT.of ha1, h0, rfl, _, rfl, ?_⟩
    refine ite2 (fun d => ?_) (fun d => ?_)
    · have z : t.kd = .lett := Kd.eq_iff.mp (of_decide_eq_true d)
      cases t with
      | lett x s b =>
        obtain ⟨a', u, w', e, ha', r1, r2⟩ := hR1
        cases e
        refine ⟨_, rfl, 2, rfl, a, _, rfl, ha', fun z => absurd z.1 (show ¬ (2 : Nat) = 0 by decide), fun p H' g e => ?_⟩
        exact q p H' [u, w'] (g1.trans g) e (.cons (r1.mono g.tk) (.cons (r2.mono g.tk) .nil))
      | bin o a b => cases o <;> cases z
      | _ => cases z
    · cases t with
      | say s =>
        obtain ⟨a', u, e, ha', r1⟩ := hR1
        cases e
        refine ⟨_, rfl, 1, rfl, a, _, rfl, ha', fun z => absurd z.1 (show ¬ (1 : Nat) = 0 by decide), fun p H' g e => ?_⟩
        exact q p H' [u] (g1.trans g) e (.cons (r1.mono g.tk) .nil)
      | bin o s b =>
        obtain ⟨a', u, w', e, ha', r1, r2⟩ := hR1
        cases e
        refine ⟨_, rfl, 1, rfl, a, _, rfl, ha', fun z => absurd z.1 (show ¬ (1 : Nat) = 0 by decide), fun p H' g e => ?_⟩
        exact q p H' [u, w'] (g1.trans g) e (.cons (r1.mono g.tk) (.cons (r2.mono g.tk) .nil))
      | ite c s b =>
        obtain ⟨a', u, w', z', e, ha', r1, r2, r3⟩ := hR1
        cases e
        refine ⟨_, rfl, 1, rfl, a, _, rfl, ha', fun z => absurd z.1 (show ¬ (1 : Nat) = 0 by decide), fun p H' g e => ?_⟩
        exact q p H' [u, w', z'] (g1.trans g) e (.cons (r1.mono g.tk) (.cons (r2.mono g.tk) (.cons (r3.mono g.tk) .nil)))
      | lett x s b => exact absurd rfl d
      | num n => exact absurd rfl c
      | name n => exact absurd rfl c
      | ask n => exact absurd rfl c
      | stop n => exact absurd rfl c
      | gap n as => exact absurd rfl c
def sp_gaps (n : Nat) : Sp := fun vs H Q _ => ∃ (t : Tr) (v : V), vs = [v] ∧ t.size ≤ n ∧ t.size ≤ 122 ∧ Rep H t v ∧ ∀ (d : Addr) (kvs : List (Key × V)) (H' : Hp), Same H H' → H d = none → H' d = some (.dK kvs) → GD t.gps kvs → kvs.length ≤ t.size → Q (.ref d) H'
theorem ok_gaps {k n : Nat} {f g1 : Addr} {fd gd1 : FuncData} (F : Fun K "_law_gaps" "_law_gaps" s_law_gaps f fd) (z_len : mg "len" = none) (G_law_parts : FnB P w K mg base k "_law_parts" g1 gd1 ["_law_tree"] sp_parts)
    (G_law_gaps : FnB P w K mg base k "_law_gaps" f fd ["_law_shape_here"] (sp_gaps n)) : FnOk P w K mg base CX0 (k + 1) f fd ["_law_shape_here"] (sp_gaps (n + 1)) := by
  refine F.ok sc_law_gaps (fun vs H Q E h => ?_) (fun cdv A outer s H vs Q E hr h => ?_)
  · obtain ⟨t, v, rfl, _⟩ := h
    rfl
  obtain ⟨t, v, rfl, hn, h122, hR, q⟩ := h
  have hu := hu_of hr
  refine ⟨_, (pss_cons (ps_set (i := 1) sc_law_gaps.nd rfl (Or.inl rfl) pe_dnewK)
    (pss_cons (ps_if (pt_cmpR op_eq (pe_ix (r := rIxT K) ix_tup (pv 0) pe_int (fun _ _ => rfl)) pe_str (nomark _)) (pss_one (ps_dput hu (pv 1) (pe_ix (r := rIxT K) ix_tup (pv 0) pe_int (fun _ _ => rfl)) (pe_callB call_len_seq (by rfl) z_len PySem.boot_len (pa_cons (pe_ix (r := rIxT K) ix_tup (pv 0) pe_int (fun _ _ => rfl)) pa_nil)) rfl)) pss_nil)
    (pss_cons (ps_for PassesOwn.never rfl (pi_tup (pe_call G_law_parts.ok hr (by rfl) G_law_parts.gl G_law_parts.kp G_law_parts.bd .nil pass0 (pa_cons (pv 0) pa_nil))) (pg_name (i := 2) sc_law_gaps.nd rfl (Or.inl rfl)) (pss_one (ps_expr (pe_bm PySem.F.plainAttrs_dict PySem.F.slot_dict_update PySem.F.type_dict_update mt_dupdate (pv 1) (pa_cons (pe_call G_law_gaps.ok hr (by rfl) G_law_gaps.gl G_law_gaps.kp G_law_gaps.bd .nil pass0 (pa_cons (pv 2) pa_nil)) pa_nil)))))
    (pss_one (ps_ret (pv 1)))))), ?_⟩
  refine fun d0 hd0 => ?_
  have g0 := same_upd (o := .dK []) hd0
  have ed0 : (upd H d0 (.dK [])) d0 = some (.dK []) := upd_same
  have hR0 := hR.mono g0.tk
  show tSeq _ _ _ _ (upd H d0 (.dK []))
  generalize upd H d0 (.dK []) = H0 at g0 ed0 hR0 ⊢
  have hR00 := hR0
  obtain ⟨pa, hs, us', rfl, hpa, hhl, hparts⟩ := hR0.all
  have at0 : atI (V.str t.kd.s :: hs ++ us') 0 = some (.str t.kd.s) := atI_nat (j := 0) rfl
  apply viaP (fun H1 => ∃ kvs : List (Key × V), Same H H1 ∧ Tk H0 H1 ∧ H1 d0 = some (.dK kvs) ∧ GD (ownS t) kvs ∧ kvs.length ≤ 1)
  · intro rest
    refine ⟨_, rfl, pa, _, 0, _, rfl, rfl, SqT.of hpa, at0, rfl, _, rfl, ite2 (fun c => ?_) (fun c => rest H0 ⟨[], g0, .refl _, ed0, ?_, Nat.zero_le _⟩)⟩
    · have z : t.kd = .gap := Kd.eq_iff.mp (of_decide_eq_true c)
      cases t with
      | gap x as =>
        obtain ⟨a', b', us2, e, ha', hb', hl2, _⟩ := hR00
        cases e
        have at1 : atI [V.str "gap", .str x, .ref b'] 1 = some (.str x) := atI_nat (j := 1) rfl
        have at2 : atI [V.str "gap", .str x, .ref b'] 2 = some (.ref b') := atI_nat (j := 2) rfl
        refine ⟨_, rfl, pa, _, 2, _, rfl, rfl, SqT.of ha', at2, b', us2, rfl, .inr (SqT.of hb'), _, rfl, _, rfl, pa, _, 1, _, rfl, rfl, SqT.of ha', at1, d0, _, rfl, DPut.k (k := Sum.inr x) ed0 (small1000 (by decide)), ?_⟩
        refine rest _ ⟨_, same_set g0 hd0, Tk.dk ed0, upd_same, GD.nil.put x _, ?_⟩
        exact length_putK [] (Sum.inr x : Key) _
      | bin o a b => cases o <;> cases z
      | _ => cases z
    · have z : ¬ t.kd = .gap := fun z => c (decide_eq_true (by rw [z]; rfl))
      cases t with
      | gap x as => exact absurd rfl z
      | _ => exact GD.nil
  rintro H1 ⟨kvs, g1, tk1, ed1, gd1', le1⟩
  refine ⟨_, rfl, t, _, rfl, hR00.mono tk1, fun pp H2 us g2 ep hus => ⟨pp, rfl, ⟨us, SqT.of ep⟩, ?_⟩⟩
  have lus : us.length = t.parts.length := paired_len hus
  refine for_tup (xs := us) (fun i σ' H' => ∃ (kvs : List (Key × V)) (s2 : Option V), σ' = [some (.ref pa), some (.ref d0), s2] ∧ Same H H' ∧ Tk H2 H' ∧ H' d0 = some (.dK kvs) ∧ GD (ownS t ++ (t.parts.take i).flatMap Tr.gps) kvs ∧ kvs.length ≤ 1 + ((t.parts.take i).map Tr.size).sum) ?_ ?_ ?_ ?_
  · exact ⟨kvs, none, rfl, g1.trans g2, .refl _, g2 _ _ ed1, by simpa using gd1', by simpa using le1⟩
  · rintro i σ1 H3 _ ⟨kvs, s2, rfl, g3, tk3, ed3, gd3, le3⟩
    exact SqT.of (tk3 _ _ ep)
  · rintro i x σ1 H3 hx ⟨kvs, s2, rfl, g3, tk3, ed3, gd3, le3⟩
    obtain ⟨ti, eti, rti⟩ := paired_get hus hx
    have hsz := part_size (List.mem_of_getElem? eti)
    have hsum : ((t.parts.take (i + 1)).map Tr.size).sum = ((t.parts.take i).map Tr.size).sum + ti.size := by
      rw [take_next eti, List.map_append, List.sum_append]
      simp
    have hall : ((t.parts.take (i + 1)).map Tr.size).sum ≤ (t.parts.map Tr.size).sum := by
      have e : (t.parts.map Tr.size).sum = ((t.parts.take (i + 1)).map Tr.size).sum + ((t.parts.drop (i + 1)).map Tr.size).sum := by rw [← List.sum_append, ← List.map_append, List.take_append_drop]
      omega
    have hps := parts_size t
    refine ⟨_, rfl, .inr (.inr (.inl ⟨rfl, .inl ⟨kvs, ed3⟩⟩)), _, rfl, ti, x, rfl, by omega, by omega, rti.mono tk3, fun d' kvs' H5 g5 hd' ed' gd' le' => ?_⟩
    have hne : d0 ≠ d' := fun z => by rw [← z, ed3] at hd'; cases hd'
    refine ⟨d0, d', kvs, kvs', rfl, rfl, hne, g5 _ _ ed3, ed', line1000 (by omega), ?_⟩
    refine ⟨mergeK kvs kvs', _, rfl, same_set (g3.trans g5) hd0, tk3.trans (g5.tk.trans (Tk.dk (g5 _ _ ed3))), upd_same, ?_, ?_⟩
    · refine (gd'.merge gd3).congr fun g => ?_
      rw [take_next eti, List.flatMap_append]
      simp [or_assoc]
    · have := length_mergeK kvs' kvs
      omega
  · rintro σ1 H3 ⟨kvs, s2, rfl, g3, tk3, ed3, gd3, le3⟩
    rw [List.take_of_length_le (by omega)] at gd3 le3
    have hps := parts_size t
    exact ⟨_, rfl, q d0 kvs H3 g3 hd0 ed3 (gd3.congr (gps_parts t)) (by omega)⟩
theorem none_gaps {k : Nat} {f : Addr} {fd : FuncData} : FnOk P w K mg base CX0 k f fd ["_law_shape_here"] (sp_gaps 0) := by
  have no : ∀ vs H Q E, ¬ sp_gaps 0 vs H Q E := fun vs H Q E h => by
    obtain ⟨t, v, _, hn, _⟩ := h
    have := size_pos20 t
    omega
  exact ⟨fun vs H Q E h => absurd h (no vs H Q E), fun A outer s H args us vs Q E _ _ _ _ h => absurd h (no vs H Q E)⟩
theorem all_gaps {k : Nat} {f g1 : Addr} {fd gd1 : FuncData} (F : Fun K "_law_gaps" "_law_gaps" s_law_gaps f fd) (b : Binds K fd ["_law_shape_here"] []) (m : mg "_law_gaps" = some (.ref f)) (z_len : mg "len" = none)
    (G : FnB P w K mg base k "_law_parts" g1 gd1 ["_law_tree"] sp_parts) : ∀ n : Nat, FnB P w K mg base (k + n) "_law_gaps" f fd ["_law_shape_here"] (sp_gaps n)
  | 0 => ⟨none_gaps, b, F.kp, m⟩
  | n + 1 => ⟨ok_gaps F z_len (G.up (Nat.le_add_right _ _)) (all_gaps F b m z_len G n), b, F.kp, m⟩
def sp_loud (n : Nat) : Sp := fun vs H Q _ => ∃ (t : Tr) (v : V), vs = [v] ∧ t.size ≤ n ∧ Rep H t v ∧ ∀ (b : Bool) (H' : Hp), Same H H' → Q (.bl b) H'
theorem ok_loud {k n : Nat} {f g1 : Addr} {fd gd1 : FuncData} (F : Fun K "_law_is_loud" "_law_is_loud" s_law_is_loud f fd) (G_law_parts : FnB P w K mg base k "_law_parts" g1 gd1 ["_law_tree"] sp_parts)
    (G_law_is_loud : FnB P w K mg base k "_law_is_loud" f fd ["_law_shape_here"] (sp_loud n)) : FnOk P w K mg base CX0 (k + 1) f fd ["_law_shape_here"] (sp_loud (n + 1)) := by
  refine F.ok sc_law_is_loud (fun vs H Q E h => ?_) (fun cdv A outer s H vs Q E hr h => ?_)
  · obtain ⟨t, v, rfl, _⟩ := h
    rfl
  obtain ⟨t, v, rfl, hn, hR, q⟩ := h
  refine ⟨_, (pss_cons (ps_if (pt_cmpR (r := rIn K false) op_in_seq (pe_ix (r := rIxT K) ix_tup (pv 0) pe_int (fun _ _ => rfl)) (pe_tupR [.str "say", .str "ask", .str "stop"] (by rfl) : PE _ _ _) rfl) (pss_one (ps_ret pe_bl)) pss_nil)
    (pss_cons (ps_for PassesOwn.never rfl (pi_tup (pe_call G_law_parts.ok hr (by rfl) G_law_parts.gl G_law_parts.kp G_law_parts.bd .nil pass0 (pa_cons (pv 0) pa_nil))) (pg_name (i := 1) sc_law_is_loud.nd rfl (Or.inl rfl)) (pss_one (ps_if (pt_val (pe_call G_law_is_loud.ok hr (by rfl) G_law_is_loud.gl G_law_is_loud.kp G_law_is_loud.bd .nil pass0 (pa_cons (pv 1) pa_nil))) (pss_one (ps_ret pe_bl)) pss_nil)))
    (pss_one (ps_ret pe_bl)))), ?_⟩
  have hR00 := hR
  obtain ⟨pa, hs, us', rfl, hpa, hhl, hparts⟩ := hR.all
  have at0 : atI (V.str t.kd.s :: hs ++ us') 0 = some (.str t.kd.s) := atI_nat (j := 0) rfl
  refine ⟨_, rfl, pa, _, 0, _, rfl, rfl, SqT.of hpa, at0, (by show 3 ≤ sizeLine; decide), fun pl hpl => ⟨pl, _, rfl, .inr (SqT.of upd_same), rfl, rfl, _, rfl, ite2 (fun _ => ?_) (fun _ => ?_)⟩⟩
  · exact q true _ (same_upd hpl)
  have g1 := same_upd (o := .tup [.str "say", .str "ask", .str "stop"]) hpl
  refine ⟨_, rfl, t, _, rfl, hR00.mono g1.tk, fun pp H2 us g2 ep hus => ⟨pp, rfl, ⟨us, SqT.of ep⟩, ?_⟩⟩
  have lus : us.length = t.parts.length := paired_len hus
  refine for_tup (xs := us) (fun i σ' H' => ∃ (s1 : Option V), σ' = [some (.ref pa), s1] ∧ Same H H' ∧ Same H2 H') ?_ ?_ ?_ ?_
  · exact ⟨none, rfl, g1.trans g2, .refl _⟩
  · rintro i σ1 H3 _ ⟨s1, rfl, g3, g4⟩
    exact SqT.of (g4 _ _ ep)
  · rintro i x σ1 H3 hx ⟨s1, rfl, g3, g4⟩
    obtain ⟨ti, eti, rti⟩ := paired_get hus hx
    have hsz := part_size (List.mem_of_getElem? eti)
    refine ⟨_, rfl, ti, x, rfl, by omega, rti.mono g4.tk, fun b H5 g5 => ⟨b, rfl, ite2 (fun _ => ?_) (fun _ => ?_)⟩⟩
    · exact q true _ (g3.trans g5)
    · exact ⟨_, rfl, g3.trans g5, g4.trans g5⟩
  · rintro σ1 H3 ⟨s1, rfl, g3, g4⟩
    exact q false _ g3
theorem none_loud {k : Nat} {f : Addr} {fd : FuncData} : FnOk P w K mg base CX0 k f fd ["_law_shape_here"] (sp_loud 0) := by
  have no : ∀ vs H Q E, ¬ sp_loud 0 vs H Q E := fun vs H Q E h => by
    obtain ⟨t, v, _, hn, _⟩ := h
    have := size_pos20 t
    omega
  exact ⟨fun vs H Q E h => absurd h (no vs H Q E), fun A outer s H args us vs Q E _ _ _ _ h => absurd h (no vs H Q E)⟩
theorem all_loud {k : Nat} {f g1 : Addr} {fd gd1 : FuncData} (F : Fun K "_law_is_loud" "_law_is_loud" s_law_is_loud f fd) (b : Binds K fd ["_law_shape_here"] []) (m : mg "_law_is_loud" = some (.ref f))
    (G : FnB P w K mg base k "_law_parts" g1 gd1 ["_law_tree"] sp_parts) : ∀ n : Nat, FnB P w K mg base (k + n) "_law_is_loud" f fd ["_law_shape_here"] (sp_loud n)
  | 0 => ⟨none_loud, b, F.kp, m⟩
  | n + 1 => ⟨ok_loud F (G.up (Nat.le_add_right _ _)) (all_loud F b m G n), b, F.kp, m⟩
def sp_lworth (n : Nat) : Sp := fun vs H Q _ => ∃ (t : Tr) (v : V) (d e : Addr) (rs : Scl) (we : List (Key × V)) (ω : Str → Nat), vs = [v, .ref d, .ref e] ∧ t.size ≤ n ∧ t.size ≤ 122 ∧ Rep H t v ∧ ScAt H d rs ∧ H e = some (.dK we) ∧ (∀ g, (valV we (Sum.inr g : Key)).getD (.int 1) = .int ((ω g : Nat) : Int)) ∧ (∀ g, ω g ≤ 2) ∧
  ∀ H', Same H H' → Q (.int ((wB (rowF rs) (ownW (rowF rs) ω) t : Nat) : Int)) H'
theorem ok_lworth {k n : Nat} {f g1 : Addr} {fd gd1 : FuncData} (F : Fun K "_law_worth" "_law_worth" s_law_worth f fd) (z_len : mg "len" = none) (z_range : mg "range" = none) (G_law_parts : FnB P w K mg base k "_law_parts" g1 gd1 ["_law_tree"] sp_parts)
    (G_law_worth : FnB P w K mg base k "_law_worth" f fd ["_law_tree", "_law_scale_here", "_law_worths"] (sp_lworth n)) : FnOk P w K mg base CX0 (k + 1) f fd ["_law_tree", "_law_scale_here", "_law_worths"] (sp_lworth (n + 1)) := by
  refine F.ok sc_law_worth (fun vs H Q E h => ?_) (fun cdv A outer s H vs Q E hr h => ?_)
  · obtain ⟨t, v, d, e, rs, we, ω, rfl, _⟩ := h
    rfl
  obtain ⟨t, v, d, e, rs, we, ω, rfl, hn, h122, hR, ⟨kvs, sc⟩, he, hwe, hω, q⟩ := h
  have hu := hu_of hr
  have hu0 := Nat.lt_of_succ_lt (hu_of hr)
  have gF : GoodF (rowF rs) := rowF_good (good_of sc.ps)
  refine ⟨_, (pss_cons (ps_if (pt_cmpR op_eq (pe_ix (r := rIxT K) ix_tup (pv 0) pe_int (fun _ _ => rfl)) pe_str (nomark _)) (pss_one (ps_ret (pe_dget2 hu (pv 2) (pe_ix (r := rIxT K) ix_tup (pv 0) pe_int (fun _ _ => rfl)) pe_int ⟨rfl, rfl, rfl, rfl⟩))) pss_nil)
    (pss_cons (ps_set (i := 3) sc_law_worth.nd rfl (Or.inl rfl) (pe_call G_law_parts.ok hr (by rfl) G_law_parts.gl G_law_parts.kp G_law_parts.bd .nil pass0 (pa_cons (pv 0) pa_nil)))
    (pss_cons (ps_if (pt_cmpR (op_eqE hu0) (pv 3) (pe_tup pa_nil : PE _ _ _) (nomark _)) (pss_one (ps_ret pe_int)) pss_nil)
    (pss_cons (ps_set (i := 4) sc_law_worth.nd rfl (Or.inl rfl) (pe_tupR [.int 1, .int 1, .int 1, .int 1] (by rfl) : PE _ _ _))
    (pss_cons (ps_if (pt_cmpR (op_inD hu) (pe_ix (r := rIxT K) ix_tup (pv 0) pe_int (fun _ _ => rfl)) (pv 1) rfl) (pss_one (ps_set (i := 4) sc_law_worth.nd rfl (Or.inl rfl) (pe_dget hu (pv 1) (pe_ix (r := rIxT K) ix_tup (pv 0) pe_int (fun _ _ => rfl)) (fun _ _ => rfl)))) pss_nil)
    (pss_cons (ps_set (i := 5) sc_law_worth.nd rfl (Or.inl rfl) (pe_ix (r := rIxT K) ix_tup (pv 4) pe_int (fun _ _ => rfl)))
    (pss_cons (ps_for PassesOwn.never rfl (pi_range1 (by rfl) z_range (pa_cons (pe_callB call_len_seq (by rfl) z_len PySem.boot_len (pa_cons (pv 3) pa_nil)) pa_nil)) (pg_name (i := 6) sc_law_worth.nd rfl (Or.inl rfl)) (pss_one (ps_set (i := 5) sc_law_worth.nd rfl (Or.inl rfl) (pe_op op_add (pv 5) (pe_op op_mulC (pe_ix (r := rIxT K) ix_tup (pv 4) (pe_op op_add (pv 6) pe_int) (fun _ _ => rfl)) (pe_call G_law_worth.ok hr (by rfl) G_law_worth.gl G_law_worth.kp G_law_worth.bd .nil pass0 (pa_cons (pe_ix (r := rIxT K) ix_tup (pv 3) (pv 6) (fun _ _ => rfl)) (pa_cons (pv 1) (pa_cons (pv 2) pa_nil)))))))))
    (pss_one (ps_ret (pv 5)))))))))), ?_⟩
  have hR0 := hR
  obtain ⟨a, hs, us', rfl, ha, hl, hp⟩ := hR.all
  have h0 : atI (V.str t.kd.s :: hs ++ us') 0 = some (.str t.kd.s) := atI_nat (j := 0) rfl
  refine ⟨_, rfl, a, _, 0, _, rfl, rfl, SqT.of ha, h0, rfl, _, rfl, ite2 (fun c => ?_) (fun c => ?_)⟩
  · have z : t.kd = .gap := Kd.eq_iff.mp (of_decide_eq_true c)
    cases t with
    | gap x as =>
      obtain ⟨a', b', us2, e', ha', _⟩ := hR0
      cases e'
      have at1 : atI [V.str "gap", .str x, .ref b'] 1 = some (.str x) := atI_nat (j := 1) rfl
      refine ⟨_, rfl, e, rfl, .inl ⟨we, .inl he⟩, _, rfl, a, _, 1, _, rfl, rfl, SqT.of ha', at1, _, .inl ⟨we, Sum.inr x, .inl he, rfl, rfl⟩, ?_⟩
      rw [hwe x]
      exact q H (.refl _)
    | bin o a b => cases o <;> cases z
    | _ => cases z
  have hng : ¬ t.kd = .gap := fun z => c (decide_eq_true (by rw [z]; rfl))
  refine ⟨_, rfl, t, _, rfl, hR0, fun pp H1 us g1 ep hus => ?_⟩
  have lus : us.length = t.parts.length := paired_len hus
  refine ⟨_, rfl, (by show 0 ≤ sizeLine; decide), fun pe hpe => ⟨pp, pe, us, rfl, rfl, same_upd hpe _ _ ep, upd_same, _, rfl, ite2 (fun c => ?_) (fun c => ?_)⟩⟩
  · have e0 : us.length = 0 := by simpa using c
    rw [own_leaf gF (by omega) hng ω] at q
    exact q _ (g1.trans (same_upd hpe))
  have g2 := same_upd (o := .tup []) hpe
  refine ⟨(by show 4 ≤ sizeLine; decide), fun po hpo => ?_⟩
  have g3 := same_upd (o := .tup onesV) hpo
  have gQ := g1.trans (g2.trans g3)
  have eo : (upd (upd H1 pe (.tup [])) po (.tup onesV)) po = some (.tup onesV) := upd_same
  have epQ := g3 _ _ (g2 _ _ ep)
  have husQ : Paired (Rep (upd (upd H1 pe (.tup [])) po (.tup onesV))) t.parts us := Paired.mapP hus fun _ _ z => z.mono (g2.trans g3).tk
  have scQ' := sc.mono gQ.sf
  have haQ := gQ _ _ ha
  show tSeq _ _ _ _ (upd (upd H1 pe (.tup [])) po (.tup onesV))
  generalize upd (upd H1 pe (.tup [])) po (.tup onesV) = HQ at gQ eo epQ husQ scQ' haQ ⊢
  have scQ : ScAt HQ d rs := ⟨kvs, scQ'⟩
  have gv : DGet HQ d (.str t.kd.s) (valV kvs (Sum.inr t.kd.s : Key)) := .inl ⟨kvs, Sum.inr t.kd.s, scQ'.rd, rfl, rfl⟩
  have row : ∃ rp : Addr, HQ rp = some (.tup (natV (rowF rs t.kd))) ∧ ((rp = po ∧ valV kvs (Sum.inr t.kd.s : Key) = none) ∨ valV kvs (Sum.inr t.kd.s : Key) = some (.ref rp)) := by
    rcases val_row scQ'.ps t.kd with ⟨h1, h2⟩ | ⟨r, b, h1, h2, h3⟩
    · refine ⟨po, ?_, .inl ⟨rfl, h2⟩⟩
      rw [eo]
      unfold rowF
      rw [h1]
      rfl
    · refine ⟨b, ?_, .inr h2⟩
      rw [h3]
      unfold rowF
      rw [h1]
      rfl
  obtain ⟨rp, hrow, way⟩ := row
  apply viaS (fun σ' H' => H' = HQ ∧ σ' = [some (.ref a), some (.ref d), some (.ref e), some (.ref pp), some (.ref rp), none, none])
  · intro rest
    refine ⟨_, rfl, a, _, 0, _, rfl, rfl, SqT.of haQ, h0, _, rfl, d, _, rfl, gv, _, rfl, ?_⟩
    rcases way with ⟨rfl, h2⟩ | h2
    · rw [h2]
      exact iteF (rest _ HQ ⟨rfl, rfl⟩)
    · rw [h2]
      rw [h2] at gv
      refine iteT ?_
      exact ⟨_, rfl, _, rfl, a, _, 0, _, rfl, rfl, SqT.of haQ, h0, d, _, rfl, gv, rest _ HQ ⟨rfl, rfl⟩⟩
  rintro σ' H' ⟨eH, eσ⟩
  subst eH eσ
  obtain ⟨c0, ks, er⟩ := row_cons gF t.kd
  have hp3 := parts_le3 t
  have hrow' : H' rp = some (.tup (V.int (c0 : Int) :: natV ks)) := by rw [hrow, er]; rfl
  refine ⟨_, rfl, rp, _, 0, _, rfl, rfl, SqT.of hrow', atI_nat (j := 0) rfl, ?_⟩
  refine ⟨_, rfl, pp, _, rfl, .inr (SqT.of epQ), (us.length : Int), rfl, by omega, by omega, ?_⟩
  have hk3 : ks.length ≤ 3 := by have h9 := (gF.ln t.kd).2; rw [er, List.length_cons] at h9; omega
  have hks : ∀ x ∈ ks, 1 ≤ x ∧ x ≤ 3 := fun x hx => gF.ks t.kd x (by rw [er]; exact hx)
  have hmk : t.parts.length ≤ ks.length := by have h9 := (gF.ln t.kd).1; rw [er, List.length_cons] at h9; have h8 := parts_many t; omega
  obtain ⟨wf, hwf⟩ : ∃ wf, wf = wB (rowF rs) (ownW (rowF rs) ω) := ⟨_, rfl⟩
  rw [← hwf] at q
  refine for_range (n := ((us.length : Nat) : Int).toNat) (fun i σ' H2 => ∃ (s5 : Option V), σ' = [some (.ref a), some (.ref d), some (.ref e), some (.ref pp), some (.ref rp), some (.int ((c0 + dot (ks.take i) ((t.parts.map wf).take i) : Nat) : Int)), s5] ∧ Same H' H2) ?_ ?_ ?_
  · exact ⟨none, rfl, .refl _⟩
  · rintro i σ1 H5 hi ⟨s5, rfl, g5⟩
    have hi' : i < us.length := by simpa using hi
    obtain ⟨ui, eui⟩ : ∃ ui, us[i]? = some ui := ⟨_, List.getElem?_eq_getElem hi'⟩
    obtain ⟨ti, eti, rti⟩ := paired_get husQ eui
    obtain ⟨kn, ekn⟩ : ∃ kn, ks[i]? = some kn := ⟨_, List.getElem?_eq_getElem (by omega)⟩
    have hsz := part_size (List.mem_of_getElem? eti)
    have i0 : (0 : Int) + (i : Int) = ((i : Nat) : Int) := by omega
    have i1 : (0 : Int) + (i : Int) + 1 = ((i + 1 : Nat) : Int) := by omega
    have atk : atI (V.int (c0 : Int) :: natV ks) (0 + (i : Int) + 1) = some (.int (kn : Int)) := by rw [i1]; exact atI_nat (j := i + 1) (natV_get ekn)
    have atu : atI us (0 + (i : Int)) = some ui := by rw [i0]; exact atI_nat eui
    have kb := hks kn (List.mem_of_getElem? ekn)
    refine ⟨_, rfl, _, rfl, _, rfl, _, _, rfl, rfl, rp, _, _, _, rfl, rfl, SqT.of (g5 _ _ hrow'), atk, _, rfl, _, rfl, pp, _, _, _, rfl, rfl, SqT.of (g5 _ _ epQ), atu, _, rfl, _, rfl, ti, ui, d, e, rs, we, ω, rfl, by omega, by omega, rti.mono g5.tk, scQ.mono g5.sf, g5 _ _ (gQ _ _ he), hwe, hω, fun H6 g6 => ?_⟩
    rw [← hwf]
    have hlt : wf ti < 2 ^ 500 := by rw [hwf]; exact wW_lt gF hω (by omega)
    refine ⟨_, _, rfl, rfl, ⟨small_lt (by omega), abs_lt hlt⟩, _, _, rfl, rfl, some (.int (0 + (i : Int))), ?_, g5.trans g6⟩
    have ex : (t.parts.map wf)[i]? = some (wf ti) := by rw [List.getElem?_map, eti]; rfl
    have e2 : ((c0 + dot (ks.take i) ((t.parts.map wf).take i) : Nat) : Int) + (kn : Int) * ((wf ti : Nat) : Int) = ((c0 + dot (ks.take (i + 1)) ((t.parts.map wf).take (i + 1)) : Nat) : Int) := by
      rw [dot_take ekn ex, ← Nat.add_assoc, Int.natCast_add _ (kn * _), Int.natCast_mul]
    rw [← e2]
    rfl
  · rintro σ1 H5 ⟨s5, rfl, g5⟩
    have e3 : wf t = c0 + dot (ks.take us.length) ((t.parts.map wf).take us.length) := by
      have e4 : (t.parts.map wf).take t.parts.length = t.parts.map wf := List.take_of_length_le (by simp)
      have e5 := dot_cut ks (t.parts.map wf)
      rw [List.length_map] at e5
      rw [lus, e4, e5, hwf, wB_eq, ownW_not hng]
      unfold own
      rw [er]
      rfl
    refine ⟨_, rfl, ?_⟩
    rw [show ((us.length : Nat) : Int).toNat = us.length from Int.toNat_natCast _, ← e3]
    exact q H5 (gQ.trans g5)
theorem none_lworth {k : Nat} {f : Addr} {fd : FuncData} : FnOk P w K mg base CX0 k f fd ["_law_tree", "_law_scale_here", "_law_worths"] (sp_lworth 0) := by
  have no : ∀ vs H Q E, ¬ sp_lworth 0 vs H Q E := fun vs H Q E h => by
    obtain ⟨t, v, d, e, rs, we, ω, _, hn, _⟩ := h
    have := size_pos20 t
    omega
  exact ⟨fun vs H Q E h => absurd h (no vs H Q E), fun A outer s H args us vs Q E _ _ _ _ h => absurd h (no vs H Q E)⟩
theorem all_lworth {k : Nat} {f g1 : Addr} {fd gd1 : FuncData} (F : Fun K "_law_worth" "_law_worth" s_law_worth f fd) (b : Binds K fd ["_law_tree", "_law_scale_here", "_law_worths"] []) (m : mg "_law_worth" = some (.ref f)) (z_len : mg "len" = none) (z_range : mg "range" = none)
    (G : FnB P w K mg base k "_law_parts" g1 gd1 ["_law_tree"] sp_parts) : ∀ n : Nat, FnB P w K mg base (k + n) "_law_worth" f fd ["_law_tree", "_law_scale_here", "_law_worths"] (sp_lworth n)
  | 0 => ⟨none_lworth, b, F.kp, m⟩
  | n + 1 => ⟨ok_lworth F z_len z_range (G.up (Nat.le_add_right _ _)) (all_lworth F b m z_len z_range G n), b, F.kp, m⟩
end
end K21
set_option Elab.async false
set_option linter.all false
set_option maxRecDepth 100000
set_option maxHeartbeats 4000000
namespace L2
open PySem
structure GWt (f : Str → Nat) (kvs : List (Key × V)) : Prop where
  ks : ∀ p ∈ kvs, ∃ g : Str, p.1 = (Sum.inr g : Key)
  vl : ∀ g : Str, valV kvs (Sum.inr g : Key) = some (.int ((f g : Nat) : Int)) ∨ (valV kvs (Sum.inr g : Key) = none ∧ f g = 0)
theorem GWt.get {f : Str → Nat} {kvs : List (Key × V)} (h : GWt f kvs) (g : Str) : (valV kvs (Sum.inr g : Key)).getD (.int 0) = .int ((f g : Nat) : Int) := by
  rcases h.vl g with e | ⟨e, z⟩
  · rw [e]; rfl
  · rw [e, z]; rfl
theorem GWt.congr {f f' : Str → Nat} {kvs : List (Key × V)} (h : GWt f kvs) (e : ∀ g, f' g = f g) : GWt f' kvs := by
  have : f' = f := funext e
  rw [this]; exact h
theorem mem_putK {kvs : List (Key × V)} {k : Key} {v : V} {p : Key × V} (h : p ∈ putK kvs k v) : p.1 = k ∨ ∃ q ∈ kvs, q.1 = p.1 := by
  unfold putK at h
  split at h
  · obtain ⟨q, hq, e⟩ := List.mem_map.mp h
    by_cases z : q.1 = k
    · rw [if_pos z] at e
      exact .inl (by rw [← e]; exact z)
    · rw [if_neg z] at e
      exact .inr ⟨q, hq, by rw [e]⟩
  · rcases List.mem_append.mp h with h | h
    · exact .inr ⟨p, h, rfl⟩
    · exact .inl (by rw [List.mem_singleton.mp h])
theorem GWt.put {f f' : Str → Nat} {kvs : List (Key × V)} (h : GWt f kvs) {x : Str} (e : ∀ g, g ≠ x → f' g = f g) : GWt f' (putK kvs (Sum.inr x : Key) (.int ((f' x : Nat) : Int))) := by
  refine ⟨fun p hp => ?_, fun g => ?_⟩
  · rcases mem_putK hp with z | ⟨q, hq, z⟩
    · exact ⟨x, z⟩
    · rw [← z]; exact h.ks q hq
  · rw [valV_put]
    by_cases z : g = x
    · subst z
      rw [if_pos rfl]; exact .inl rfl
    · have z' : ¬ (Sum.inr g : Key) = Sum.inr x := fun w => z (Sum.inr.inj w)
      rw [if_neg z', e g z]; exact h.vl g
def kdV (kds : List (Str × Str)) : List (Key × V) := kds.map fun p => ((Sum.inr p.1 : Key), V.str p.2)
theorem kd_val : ∀ {kds : List (Str × Str)}, (kds.map (·.1)).Nodup → ∀ (g : Str) (v : V), valV (kdV kds).reverse (Sum.inr g : Key) = some v ↔ ∃ k, v = .str k ∧ (g, k) ∈ kds := by
  intro kds nd g v
  have mem : ∀ p : Key × V, p ∈ (kdV kds).reverse ↔ ∃ q ∈ kds, p = ((Sum.inr q.1 : Key), V.str q.2) := fun p => by
    rw [List.mem_reverse]; unfold kdV
    rw [List.mem_map]
    exact ⟨fun ⟨q, h, e⟩ => ⟨q, h, e.symm⟩, fun ⟨q, h, e⟩ => ⟨q, h, e.symm⟩⟩
  unfold valV
  rw [Option.map_eq_some_iff]
  constructor
  · rintro ⟨p, hp, rfl⟩
    have h1 := List.mem_of_find?_eq_some hp
    have h2 := List.find?_some hp
    obtain ⟨q, hq, rfl⟩ := (mem p).mp h1
    have e : q.1 = g := Sum.inr.inj (of_decide_eq_true h2)
    exact ⟨q.2, rfl, by rw [← e]; exact hq⟩
  · rintro ⟨k, rfl, hk⟩
    cases e : (kdV kds).reverse.find? fun kv => decide (kv.1 = (Sum.inr g : Key)) with
    | none =>
      have := List.find?_eq_none.mp e _ ((mem _).mpr ⟨(g, k), hk, rfl⟩)
      simp at this
    | some p =>
      refine ⟨p, rfl, ?_⟩
      have h1 := List.mem_of_find?_eq_some e
      have h2 := List.find?_some e
      obtain ⟨q, hq, rfl⟩ := (mem p).mp h1
      have e1 : q.1 = g := Sum.inr.inj (of_decide_eq_true h2)
      have e2 : q = (g, k) := by
        obtain ⟨i, hi⟩ := List.getElem?_of_mem hq
        obtain ⟨j, hj⟩ := List.getElem?_of_mem hk
        have hi' : (kds.map (·.1))[i]? = some g := by rw [List.getElem?_map, hi, ← e1]; rfl
        have hj' : (kds.map (·.1))[j]? = some g := by rw [List.getElem?_map, hj]; rfl
        have : i = j := nodup_at nd hi' hj'
        subst this
        exact Option.some.inj (hi.symm.trans hj)
      rw [e2]
theorem kd_get {kds : List (Str × Str)} (nd : (kds.map (·.1)).Nodup) (g : Str) : ∃ z : V, (valV (mergeK [] (kdV kds)) (Sum.inr g : Key)).getD .non = z ∧ scal z (.str "number") = true ∧ (z = .str "number" ↔ (g, ("number" : Str)) ∈ kds) := by
  rw [valV_merge]
  have K := kd_val nd g
  cases e : valV (kdV kds).reverse (Sum.inr g : Key) with
  | none =>
    refine ⟨.non, rfl, rfl, (fun z => nomatch z), fun z => ?_⟩
    have := (K (.str "number")).mpr ⟨_, rfl, z⟩
    rw [e] at this
    cases this
  | some v =>
    obtain ⟨k, rfl, hk⟩ := (K v).mp e
    refine ⟨.str k, rfl, rfl, fun z => ?_, fun z => ?_⟩
    · rw [← V.str.inj z]; exact hk
    · have := (K (.str "number")).mpr ⟨_, rfl, z⟩
      rw [e] at this
      exact Option.some.inj this
def fallP (ρ : Kd → List Nat) (t1 t2 : Tr) (kds : List (Str × Str)) : Prop := wrt ρ t2 < wrt ρ t1 ∧ ∀ g, (g, ("number" : Str)) ∉ kds → gw ρ g t2 ≤ gw ρ g t1
theorem sumCB_snoc (β : Tr → Nat) {L : List TW} {i : Nat} {p : TW} (h : L[i]? = some p) : sumCB β (L.take (i + 1)) = sumCB β (L.take i) + p.2 * β p.1 := by
  rw [take_next h, sumCB_app]
  simp [sumCB]
theorem isG_not {g : Str} {t : Tr} (h : ¬ t.kd = .gap) : isG g t = 0 := by
  cases t with
  | gap x as => exact absurd rfl h
  | _ => rfl
end L2
namespace K21
open PySem PySem.Spec L2 PyProof.Rows
abbrev s_gap_weights : Stmt := top 18
theorem sc_gap_weights : FnScope ["shape", "scale", "weights", "part", "weight"] ["shape", "scale"] (defScope s_gap_weights) := ⟨rfl, rfl, rfl, by decide +kernel, rfl, by decide +kernel, by decide +kernel⟩
abbrev s_falls : Stmt := top 19
theorem sc_falls : FnScope ["rule", "scale", "kinds", "left", "right"] ["rule", "scale"] (defScope s_falls) := ⟨rfl, rfl, rfl, by decide +kernel, rfl, by decide +kernel, by decide +kernel⟩
section
variable {P : Program} {w : World} {K : PySem.W.Frag} {mg : Str → Option Value} {base : Heap}
def sp_gapw : Sp := fun vs H Q _ => ∃ (t : Tr) (v : V) (d : Addr) (rs : Scl), vs = [v, .ref d] ∧ Rep H t v ∧ ScAt H d rs ∧ t.size ≤ 300 ∧
  ∀ (e : Addr) (kvs : List (Key × V)) (H' : Hp), Same H H' → H' e = some (.dK kvs) → GWt (fun g => gw (rowF rs) g t) kvs → kvs.length ≤ 300 → Q (.ref e) H'
theorem ok_gapw {k : Nat} {f g1 : Addr} {fd gd1 : FuncData} (F : Fun K "gap_weights" "gap_weights" s_gap_weights f fd)
    (G_weighed_parts : FnB P w K mg base k "weighed_parts" g1 gd1 ["tree", "scale"] sp_weighed) : FnOk P w K mg base CX0 (k + 1) f fd ["shape", "scale"] sp_gapw := by
  refine F.ok sc_gap_weights (fun vs H Q E h => ?_) (fun cdv A outer s H vs Q E hr h => ?_)
  · obtain ⟨t, v, d, rs, rfl, _⟩ := h
    rfl
  obtain ⟨t, v, d, rs, rfl, hR, hsc, hsz, q⟩ := h
  have hu := hu_of hr
  refine ⟨_, (pss_cons (ps_set (i := 2) sc_gap_weights.nd rfl (Or.inl rfl) pe_dnewK)
    (pss_cons (ps_for PassesOwn.never rfl (pi_list (pe_call G_weighed_parts.ok hr (by rfl) G_weighed_parts.gl G_weighed_parts.kp G_weighed_parts.bd .nil pass0 (pa_cons (pv 0) (pa_cons (pv 1) pa_nil)))) (pg_tup rfl (pgs_cons (pg_name (i := 3) sc_gap_weights.nd rfl (Or.inl rfl)) (pgs_cons (pg_name (i := 4) sc_gap_weights.nd rfl (Or.inl rfl)) pgs_nil))) (pss_one (ps_if (pt_cmpR op_eq (pe_ix (r := rIxT K) ix_tup (pv 3) pe_int (fun _ _ => rfl)) pe_str (nomark _)) (pss_one (ps_dput hu (pv 2) (pe_ix (r := rIxT K) ix_tup (pv 3) pe_int (fun _ _ => rfl)) (pe_op op_add (pe_dget2 hu (pv 2) (pe_ix (r := rIxT K) ix_tup (pv 3) pe_int (fun _ _ => rfl)) pe_int ⟨rfl, rfl, rfl, rfl⟩) (pv 4)) rfl)) pss_nil)))
    (pss_one (ps_ret (pv 2))))), ?_⟩
  refine fun dw hdw => ?_
  have g1 := same_upd (o := .dK []) hdw
  refine ⟨_, rfl, _, rfl, t, v, d, rs, rfl, hR.mono g1.tk, hsc.mono g1.sf, hsz, fun l us L H2 g2 el pL hC hlen hW => ⟨l, rfl, ⟨us, SqL.of el⟩, ?_⟩⟩
  have lu : us.length = L.length := paired_len pL
  have edw : H2 dw = some (.dK []) := g2 _ _ upd_same
  have nld : l ≠ dw := fun z => by rw [z, edw] at el; cases el
  refine for_list (xs := us) (fun i σ' H' => ∃ (kvs : List (Key × V)) (s3 s4 : Option V), σ' = [some v, some (.ref d), some (.ref dw), s3, s4] ∧ Same H H' ∧ Tk H2 H' ∧ H' l = some (.lst us) ∧ H' dw = some (.dK kvs) ∧ GWt (fun g => sumCB (isG g) (L.take i)) kvs ∧ kvs.length ≤ i) ?_ ?_ ?_ ?_
  · exact ⟨[], none, none, rfl, g1.trans g2, .refl _, el, edw, ⟨by simp, fun g => .inr ⟨rfl, rfl⟩⟩, Nat.le_refl _⟩
  · rintro i σ' H' _ ⟨kvs, s3, s4, rfl, g, tk, el', ed, gt, le⟩
    exact SqL.of el'
  · rintro i x σ' H' hx ⟨kvs, s3, s4, rfl, g, tk, el', ed, gt, le⟩
    obtain ⟨⟨tq, wq⟩, eq, rq⟩ := paired_get pL hx
    have hi : i < us.length := (List.getElem?_eq_some_iff.mp hx).1
    obtain ⟨a, u, rfl, ha, ru⟩ := rq.mono tk
    dsimp only at ha ru
    obtain ⟨pa, hs, us', rfl, hpa, hhl, hparts⟩ := ru.all
    have at0 : atI (V.str tq.kd.s :: hs ++ us') 0 = some (.str tq.kd.s) := atI_nat (j := 0) rfl
    refine ⟨a, _, rfl, SqT.of ha, rfl, _, _, rfl, _, _, rfl, rfl, ?_⟩
    refine ⟨_, rfl, pa, _, 0, _, rfl, rfl, SqT.of hpa, at0, rfl, _, rfl, ite2 (fun c => ?_) (fun c => ?_)⟩
    · have z : tq.kd = .gap := Kd.eq_iff.mp (of_decide_eq_true c)
      cases tq with
      | gap x as =>
        obtain ⟨a', b', us2, e, ha', _⟩ := ru
        cases e
        have at1 : atI [V.str "gap", .str x, .ref b'] 1 = some (.str x) := atI_nat (j := 1) rfl
        have gv : DGet H' dw (.str x) (valV kvs (Sum.inr x : Key)) := .inl ⟨kvs, Sum.inr x, .inl ed, rfl, rfl⟩
        refine ⟨_, rfl, dw, rfl, .inl ⟨kvs, .inl ed⟩, _, rfl, pa, _, 1, _, rfl, rfl, SqT.of ha', at1, _, gv, ?_⟩
        have gx := gt.get x
        rw [gx]
        refine ⟨_, rfl, _, _, rfl, rfl, _, rfl, _, rfl, pa, _, 1, _, rfl, rfl, SqT.of ha', at1, dw, _, rfl, DPut.k (k := Sum.inr x) ed (small1000 (by omega)), ?_⟩
        have e1 : ((sumCB (isG x) (L.take i) : Nat) : Int) + (wq : Int) = ((sumCB (isG x) (L.take (i + 1)) : Nat) : Int) := by
          rw [sumCB_snoc _ eq, show isG x (Tr.gap x as) = 1 from if_pos rfl]
          simp
        show Ends.nx _ _ (upd H' dw (.dK (putK kvs (Sum.inr x) (V.int (((sumCB (isG x) (L.take i) : Nat) : Int) + (wq : Int))))))
        rw [e1]
        have tkd : Tk H' (upd H' dw (.dK (putK kvs (Sum.inr x : Key) (.int ((sumCB (isG x) (L.take (i + 1)) : Nat) : Int))))) := Tk.dk ed
        refine ⟨_, _, _, rfl, same_set g hdw, tk.trans tkd, by rw [upd_ne nld]; exact el', upd_same, ?_, ?_⟩
        · refine GWt.put (f' := fun g => sumCB (isG g) (L.take (i + 1))) gt (x := x) fun g hg => ?_
          have e0 : isG g (Tr.gap x as) = 0 := if_neg (fun z => hg z.symm)
          show sumCB (isG g) (L.take (i + 1)) = sumCB (isG g) (L.take i)
          rw [sumCB_snoc _ eq, e0, Nat.mul_zero, Nat.add_zero]
        · have := length_putK kvs (Sum.inr x : Key) (.int ((sumCB (isG x) (L.take (i + 1)) : Nat) : Int))
          omega
      | bin o a b => cases o <;> cases z
      | _ => cases z
    · have z : ¬ tq.kd = .gap := fun z => c (decide_eq_true (by rw [z]; rfl))
      refine ⟨kvs, _, _, rfl, g, tk, el', ed, gt.congr fun g => ?_, by omega⟩
      rw [sumCB_snoc _ eq, isG_not z, Nat.mul_zero, Nat.add_zero]
  · rintro σ' H' ⟨kvs, s3, s4, rfl, g, tk, el', ed, gt, le⟩
    rw [List.take_of_length_le (by omega)] at gt
    exact ⟨_, rfl, q dw kvs H' g ed (gt.congr fun g => (hC (isG g)).symm) (by omega)⟩
def RuleAt (H : Hp) (r : Addr) (t1 t2 : Tr) (kds : List (Str × Str)) : Prop := ∃ (u1 u2 : V) (ka : Addr) (o : Obj) (ys : List V), H r = some (.tup [u1, u2, .ref ka]) ∧ Rep H t1 u1 ∧ Rep H t2 u2 ∧ H ka = some (.frz o (.tup ys)) ∧ o.dict = none ∧ Paired (PrV H) ys (kdV kds)
theorem frz_sf {H H' : Hp} (g : Sf H H') {a : Addr} {o : Obj} {u : HO} (h : H a = some (.frz o u)) : H' a = some (.frz o u) := by
  rcases g a _ h with h | ⟨_, _, z, _⟩
  · exact h
  · cases z
theorem RuleAt.mono {H H' : Hp} (g : Sf H H') {r : Addr} {t1 t2 : Tr} {kds : List (Str × Str)} : RuleAt H r t1 t2 kds → RuleAt H' r t1 t2 kds
  | ⟨u1, u2, ka, o, ys, h1, h2, h3, h4, h5, h6⟩ => ⟨u1, u2, ka, o, ys, g.tk _ _ h1, h2.mono g.tk, h3.mono g.tk, frz_sf g h4, h5, Paired.mapP h6 fun _ _ ⟨b, e, hb⟩ => ⟨b, e, g.tk _ _ hb⟩⟩
def sp_falls : Sp := fun vs H Q _ => ∃ (r d : Addr) (t1 t2 : Tr) (kds : List (Str × Str)) (rs : Scl), vs = [.ref r, .ref d] ∧ RuleAt H r t1 t2 kds ∧ t1.size ≤ 122 ∧ t2.size ≤ 122 ∧ (kds.map (·.1)).Nodup ∧ kds.length ≤ 300 ∧ ScAt H d rs ∧
  ∀ (b : Bool) (H' : Hp), Sf H H' → (b = true ↔ fallP (rowF rs) t1 t2 kds) → Q (.bl b) H'
theorem ok_falls {k : Nat} {f g1 g2 : Addr} {fd gd1 gd2 : FuncData} (F : Fun K "falls" "falls" s_falls f fd) (z_dict : mg "dict" = none) (z_all : mg "all" = none)
    (G_worth : FnB P w K mg base k "worth" g1 gd1 ["tree", "scale"] sp_worth) (G_gap_weights : FnB P w K mg base k "gap_weights" g2 gd2 ["shape", "scale"] sp_gapw) : FnOk P w K mg base CX0 (k + 1) f fd ["rule", "scale"] sp_falls := by
  refine F.ok sc_falls (fun vs H Q E h => ?_) (fun cdv A outer s H vs Q E hr h => ?_)
  · obtain ⟨r, d, t1, t2, kds, rs, rfl, _⟩ := h
    rfl
  obtain ⟨r, d, t1, t2, kds, rs, rfl, hR, hs1, hs2, nd, hkl, hsc, q⟩ := h
  have hu := hu_of hr
  refine ⟨_, (pss_cons (ps_if (pt_cmpR op_le (pe_call G_worth.ok hr (by rfl) G_worth.gl G_worth.kp G_worth.bd .nil pass0 (pa_cons (pe_ix (r := rIxT K) ix_tup (pv 0) pe_int (fun _ _ => rfl)) (pa_cons (pv 1) pa_nil))) (pe_call G_worth.ok hr (by rfl) G_worth.gl G_worth.kp G_worth.bd .nil pass0 (pa_cons (pe_ix (r := rIxT K) ix_tup (pv 0) pe_int (fun _ _ => rfl)) (pa_cons (pv 1) pa_nil))) (nomark _)) (pss_one (ps_ret pe_bl)) pss_nil)
    (pss_cons (ps_set (i := 2) sc_falls.nd rfl (Or.inr rfl) (pe_callTy (call_dictP rfl) (by rfl) z_dict PyProof.Rows.boot_dict (pa_cons (pe_ix (r := rIxT K) ix_tup (pv 0) pe_int (fun _ _ => rfl)) pa_nil)))
    (pss_cons (ps_set (i := 3) sc_falls.nd rfl (Or.inr rfl) (pe_call G_gap_weights.ok hr (by rfl) G_gap_weights.gl G_gap_weights.kp G_gap_weights.bd .nil pass0 (pa_cons (pe_ix (r := rIxT K) ix_tup (pv 0) pe_int (fun _ _ => rfl)) (pa_cons (pv 1) pa_nil))))
    (pss_cons (ps_set (i := 4) sc_falls.nd rfl (Or.inr rfl) (pe_call G_gap_weights.ok hr (by rfl) G_gap_weights.gl G_gap_weights.kp G_gap_weights.bd .nil pass0 (pa_cons (pe_ix (r := rIxT K) ix_tup (pv 0) pe_int (fun _ _ => rfl)) (pa_cons (pv 1) pa_nil))))
    (pss_one (ps_ret (pe_callB (call_allL rfl) (by rfl) z_all PyProof.Rows.boot_all (pa_cons (pe_compB ["gap", "right", "left", "kinds"] [none, some 4, some 3, some 2] rfl (pi_dict (pv 4)) (fun _ _ _ _ _ => (pg_name (i := 0) (show List.Nodup (["gap", "right", "left", "kinds"] : List Str) by decide +kernel) rfl (Or.inl rfl))) (fun _ _ _ _ _ => (pts_one (pt_cmpR op_ne (pe_dget1 hu (pv 3) (pv 0) ⟨rfl, rfl, rfl, rfl⟩) pe_str (nomark _)))) (fun _ _ _ _ _ => (pe_cmpR op_ge (pe_dget2 hu (pv 2) (pv 0) pe_int ⟨rfl, rfl, rfl, rfl⟩) (pe_dget hu (pv 1) (pv 0) (fun _ _ => rfl)) (nomark _))) rfl) pa_nil)))))))), ?_⟩
  obtain ⟨u1, u2, ka, o, ys, er, r1, r2, ek, hdn, pk⟩ := hR
  have at0 : atI [u1, u2, V.ref ka] 0 = some u1 := atI_nat (j := 0) rfl
  have at1 : atI [u1, u2, V.ref ka] 1 = some u2 := atI_nat (j := 1) rfl
  have at2 : atI [u1, u2, V.ref ka] 2 = some (.ref ka) := atI_nat (j := 2) rfl
  refine ⟨_, rfl, r, _, 0, _, rfl, rfl, SqT.of er, at0, _, rfl, t1, u1, d, rs, rfl, r1, hsc, by omega, fun H1 f1 => ?_⟩
  refine ⟨_, rfl, r, _, 1, _, rfl, rfl, SqT.of (f1.tk _ _ er), at1, _, rfl, t2, u2, d, rs, rfl, r2.mono f1.tk, hsc.mono f1, by omega, fun H2 f2 => ?_⟩
  have f12 := f1.trans f2
  refine ⟨_, _, rfl, rfl, _, rfl, ite2 (fun c => ?_) (fun c => ?_)⟩
  · have c' : ((wrt (rowF rs) t1 : Nat) : Int) ≤ ((wrt (rowF rs) t2 : Nat) : Int) := of_decide_eq_true c
    refine q false H2 f12 ⟨(fun z => nomatch z), fun z => ?_⟩
    have := z.1
    omega
  have c' : ¬ ((wrt (rowF rs) t1 : Nat) : Int) ≤ ((wrt (rowF rs) t2 : Nat) : Int) := fun z => c (decide_eq_true z)
  have pk2 : Paired (PrV H2) ys (kdV kds) := Paired.mapP pk fun _ _ ⟨b, e, hb⟩ => ⟨b, e, f12.tk _ _ hb⟩
  refine ⟨_, rfl, r, _, 2, _, rfl, rfl, SqT.of (f12.tk _ _ er), at2, ka, o, ys, kdV kds, rfl, frz_sf f12 ek, hdn, pk2, by unfold kdV; rw [List.length_map]; omega, fun dk hdk => ?_⟩
  have g3 := same_upd (o := .dK (mergeK [] (kdV kds))) hdk
  have edk : (upd H2 dk (.dK (mergeK [] (kdV kds)))) dk = some (.dK (mergeK [] (kdV kds))) := upd_same
  generalize upd H2 dk (.dK (mergeK [] (kdV kds))) = H3 at g3 edk ⊢
  have f13 := f12.trans g3.sf
  refine ⟨_, rfl, r, _, 0, _, rfl, rfl, SqT.of (f13.tk _ _ er), at0, _, rfl, t1, u1, d, rs, rfl, r1.mono f13.tk, hsc.mono f13, by omega, fun dl kl H4 g4 edl gl hl => ?_⟩
  have f14 := f13.trans g4.sf
  refine ⟨_, rfl, r, _, 1, _, rfl, rfl, SqT.of (f14.tk _ _ er), at1, _, rfl, t2, u2, d, rs, rfl, r2.mono f14.tk, hsc.mono f14, by omega, fun dr kr H5 g5 edr gr hlr => ?_⟩
  have f15 := f14.trans g5.sf
  have edk5 := g5 _ _ (g4 _ _ edk)
  have edl5 := g5 _ _ edl
  refine ⟨_, rfl, dr, kr, rfl, .inr ⟨edr, fun ob => ?_⟩⟩
  have f56 := Sf.frz ob edr
  have edr6 : (upd H5 dr (.frz ob (.dK kr))) dr = some (.frz ob (.dK kr)) := upd_same
  generalize upd H5 dr (.frz ob (.dK kr)) = H6 at f56 edr6 ⊢
  have rdk : Rd H6 dk (.dK (mergeK [] (kdV kds))) := f56.rd (.inl edk5)
  have rdl : Rd H6 dl (.dK kl) := f56.rd (.inl edl5)
  refine fun acc hacc => ?_
  refine comp_dictR (o := ob) (a := dr) (kvs := kr) (fun i H' => Same H6 H' ∧ ∃ bs : List Bool, H' acc = some (.lst (bs.map V.bl)) ∧ bs.length ≤ i ∧
      ((∀ b ∈ bs, b = true) ↔ ∀ p ∈ kr.take i, ∀ g : Str, p.1 = (Sum.inr g : Key) → (g, ("number" : Str)) ∉ kds → gw (rowF rs) g t2 ≤ gw (rowF rs) g t1)) ?_ ?_ ?_ ?_
  · exact ⟨same_upd hacc, [], upd_same, Nat.le_refl _, by simp⟩
  · rintro i H' _ ⟨g, _⟩
    exact g _ _ edr6
  · rintro i p H' hp ⟨g, bs, eb, lb, hb⟩
    obtain ⟨x, ex⟩ := gr.ks p (List.mem_of_getElem? hp)
    have hi : i < kr.length := (List.getElem?_eq_some_iff.mp hp).1
    obtain ⟨p1, p2⟩ := p
    dsimp only at ex
    subst ex
    obtain ⟨z, ez, sz, hz⟩ := kd_get nd x
    have rdk' := g.sf.rd rdk
    have rdl' := g.sf.rd rdl
    have rdr' : Rd H' dr (.dK kr) := .inr ⟨ob, g _ _ edr6⟩
    refine ⟨.skip (.keep (.keep (.keep .nil))), _, rfl, dk, rfl, .inl ⟨_, rdk'⟩, _, rfl, _, .inl ⟨_, Sum.inr x, rdk', rfl, rfl⟩, ?_⟩
    rw [ez]
    refine ⟨sz, _, rfl, ?_⟩
    have take1 := take_next hp
    refine ite2 (fun c => ?_) (fun c => ?_)
    · have nn : (x, ("number" : Str)) ∉ kds := fun w => by
        have := hz.mpr w
        rw [this] at c
        simp at c
      have gvl : DGet H' dl (.str x) (valV kl (Sum.inr x : Key)) := .inl ⟨kl, Sum.inr x, rdl', rfl, rfl⟩
      have evr : valV kr (Sum.inr x : Key) = some (.int ((gw (rowF rs) x t2 : Nat) : Int)) := by
        rcases gr.vl x with h | ⟨h, _⟩
        · exact h
        · exfalso
          have : (kr.find? fun kv => decide (kv.1 = (Sum.inr x : Key))) = none := by
            unfold valV at h
            exact Option.map_eq_none_iff.mp h
          have := List.find?_eq_none.mp this _ (List.mem_of_getElem? hp)
          simp at this
      have gvr : DGet H' dr (.str x) (some (.int ((gw (rowF rs) x t2 : Nat) : Int))) := .inl ⟨kr, Sum.inr x, rdr', rfl, evr.symm⟩
      refine ⟨_, rfl, dl, rfl, .inl ⟨kl, rdl'⟩, _, rfl, _, gvl, ?_⟩
      rw [gl.get x]
      refine ⟨_, rfl, _, rfl, dr, _, rfl, gvr, _, _, rfl, rfl, _, eb, small1000 (by rw [List.length_map]; omega), same_set g hacc, bs ++ [decide (((gw (rowF rs) x t2 : Nat) : Int) ≤ ((gw (rowF rs) x t1 : Nat) : Int))], ?_, by simp; omega, ?_⟩
      · rw [upd_same, List.map_append]
        rfl
      · rw [take1]
        constructor
        · intro hall p hpm g0 eg0 hn
          rcases List.mem_append.mp hpm with h | h
          · exact hb.mp (fun b hbm => hall b (List.mem_append.mpr (.inl hbm))) p h g0 eg0 hn
          · have e := List.mem_singleton.mp h
            subst e
            have := Sum.inr.inj eg0
            subst this
            have := of_decide_eq_true (hall _ (List.mem_append.mpr (.inr (List.mem_singleton.mpr rfl))))
            omega
        · intro hall b hbm
          rcases List.mem_append.mp hbm with h | h
          · exact hb.mpr (fun p hp' => hall p (List.mem_append.mpr (.inl hp'))) b h
          · rw [List.mem_singleton.mp h]
            have := hall _ (List.mem_append.mpr (.inr (List.mem_singleton.mpr rfl))) x rfl nn
            exact decide_eq_true (by omega)
    · have nn : (x, ("number" : Str)) ∈ kds := by
        refine hz.mp ?_
        have : decide (z = V.str "number") = true := by simpa using c
        exact of_decide_eq_true this
      refine ⟨g, bs, eb, by omega, ?_⟩
      rw [take1]
      constructor
      · intro hall p hpm g0 eg0 hn
        rcases List.mem_append.mp hpm with h | h
        · exact hb.mp hall p h g0 eg0 hn
        · have e := List.mem_singleton.mp h
          subst e
          have := Sum.inr.inj eg0
          subst this
          exact absurd nn hn
      · intro hall
        exact hb.mpr fun p hp' => hall p (List.mem_append.mpr (.inl hp'))
  · rintro H7 ⟨g, bs, eb, lb, hb⟩
    rw [List.take_length] at hb
    refine ⟨acc, bs, rfl, eb, q _ H7 (f15.trans (f56.trans g.sf)) ?_⟩
    rw [List.all_eq_true]
    constructor
    · intro hall
      refine ⟨by omega, fun g0 hn => ?_⟩
      rcases gr.vl g0 with h | ⟨_, h⟩
      · obtain ⟨p, hp, _⟩ := Option.map_eq_some_iff.mp (show (kr.find? fun kv => decide (kv.1 = (Sum.inr g0 : Key))).map (·.2) = _ from h)
        exact hb.mp (fun b hb' => hall b hb') p (List.mem_of_find?_eq_some hp) g0 (by have hk := List.find?_some hp; exact of_decide_eq_true hk) hn
      · omega
    · intro hf b hbm
      exact hb.mpr (fun p _ g0 _ hn => hf.2 g0 hn) b hbm
end
end K21
set_option Elab.async false
set_option linter.all false
set_option maxRecDepth 100000
set_option maxHeartbeats 4000000
namespace L2
open PySem
def Lvs (S : List Str) (m n : Nat) (H : Hp) (l : Addr) : Prop := ∃ (us : List V) (lv : List Tr), H l = some (.lst us) ∧ Paired (Rep H) lv us ∧ (m ≤ lv.length ∧ lv.length ≤ n) ∧ (∀ t ∈ lv, t.size = 1) ∧ GS S lv
theorem leaf_gap {H : Hp} {t e : Addr} {g : Str} (h1 : H t = some (.tup [.str "gap", .str g, .ref e])) (h2 : H e = some (.tup [])) : Rep H (.gap g []) (.ref t) := ⟨t, e, [], rfl, h1, h2, by decide, .nil⟩
theorem leaf_gap1 {H : Hp} {t e : Addr} {g : Str} {a : Atom} {v : V} (h1 : H t = some (.tup [.str "gap", .str g, .ref e])) (h2 : H e = some (.tup [v])) (h3 : AtRep H a v) : Rep H (.gap g [a]) (.ref t) := ⟨t, e, [v], rfl, h1, h2, by simp, .cons h3 .nil⟩
theorem ints_cut {H : Hp} {K : PySem.W.Frag} (ns : List Int) (i j : Nat) : ∃ ms : List Int, cutV (ns.map V.int) (some (i : Int)) (some (j : Int)) = ms.map V.int ∧ ms.length ≤ j - i := by
  refine ⟨(ns.drop (HT.sIx ns.length 0 (some (i : Int)))).take (HT.sIx ns.length ns.length (some (j : Int)) - HT.sIx ns.length 0 (some (i : Int))), ?_, ?_⟩
  · unfold cutV
    rw [List.length_map, ← List.map_drop, ← List.map_take]
  · rw [List.length_take, List.length_drop, HT.sIx_nat, HT.sIx_nat]
    omega
theorem GD.keys {S : List Str} : ∀ {kvs : List (Key × V)}, GD S kvs → ∃ ks : List Str, kvs.map (·.1) = ks.map Sum.inr ∧ ks.Nodup ∧ ks.length = kvs.length ∧ ∀ g, g ∈ ks ↔ g ∈ S := by
  intro kvs h
  have ex : ∀ l : List (Key × V), (∀ p ∈ l, ∃ (g : Str) (n : Int), p = ((Sum.inr g : Key), V.int n)) → ∃ ks : List Str, l.map (·.1) = ks.map Sum.inr := by
    intro l
    induction l with
    | nil => exact fun _ => ⟨[], rfl⟩
    | cons p l ih =>
      intro a
      obtain ⟨ks, e⟩ := ih fun q hq => a q (List.mem_cons_of_mem _ hq)
      obtain ⟨g, n, e2⟩ := a p List.mem_cons_self
      exact ⟨g :: ks, by rw [List.map_cons, e, e2]; rfl⟩
  obtain ⟨ks, e⟩ := ex kvs h.nm
  refine ⟨ks, e, ?_, ?_, fun g => ?_⟩
  · have := h.nd
    rw [e] at this
    exact (List.pairwise_map.mp this).imp fun h e => h (congrArg _ e)
  · have := congrArg List.length e
    simpa using this.symm
  · rw [← h.vl g, some_val]
    constructor
    · intro hg
      have : (Sum.inr g : Key) ∈ kvs.map (·.1) := by rw [e]; exact List.mem_map.mpr ⟨g, hg, rfl⟩
      obtain ⟨p, hp, ep⟩ := List.mem_map.mp this
      exact ⟨p, hp, ep⟩
    · rintro ⟨p, hp, ep⟩
      have : (Sum.inr g : Key) ∈ ks.map Sum.inr := by rw [← e]; exact List.mem_map.mpr ⟨p, hp, ep⟩
      obtain ⟨g', hg', eg⟩ := List.mem_map.mp this
      rw [← Sum.inr.inj eg]
      exact hg'
theorem GD.int {S : List Str} {kvs : List (Key × V)} (h : GD S kvs) {g : Str} (hg : g ∈ S) : ∃ n : Int, valV kvs (Sum.inr g : Key) = some (.int n) := by
  have := (h.vl g).mpr hg
  cases e : valV kvs (Sum.inr g : Key) with
  | none => rw [e] at this; cases this
  | some v =>
    obtain ⟨p, hp, ep⟩ := Option.map_eq_some_iff.mp (show (kvs.find? fun kv => decide (kv.1 = (Sum.inr g : Key))).map (·.2) = some v from e)
    obtain ⟨g', n, e'⟩ := h.nm p (List.mem_of_find?_eq_some hp)
    refine ⟨n, ?_⟩
    rw [← ep, e']
end L2
namespace K21
open PySem PySem.Spec L2 PyProof.Rows
abbrev s_law_left : Stmt := top 28
theorem sc_law_left : FnScope ["_law_cells", "_law_gaps_here", "_law_names", "_law_loud", "_law_noise", "_law_some", "_law_inner", "_law_sign"] ["_law_cells", "_law_gaps_here", "_law_names"] (defScope s_law_left) := ⟨rfl, rfl, rfl, by decide +kernel, rfl, by decide +kernel, by decide +kernel⟩
section
variable {P : Program} {w : World} {K : PySem.W.Frag} {mg : Str → Option Value} {base : Heap}
def sp_left (K : PySem.W.Frag) : Sp := fun vs H Q _ => ∃ (a gl nl : Addr) (cs : List Int) (w0 w1 w2 n0 n1 : Str), vs = [.ref a, .ref gl, .ref nl] ∧ SqL K H a (cs.map V.int) ∧ 1 ≤ cs.length ∧ H gl = some (.lst [.str w0, .str w1, .str w2]) ∧ H nl = some (.lst [.str n0, .str n1]) ∧
  ∀ (t : Tr) (v : V) (H' : Hp), Same H H' → Rep H' t v → t.size ≤ 40 → (∀ g ∈ t.gps, g ∈ [w0, w1, w2]) → Q v H'
theorem ok_left {k : Nat} {f g1 : Addr} {fd gd1 : FuncData} (F : Fun K "_law_left" "_law_left" s_law_left f fd) (G_law_shape : FnB P w K mg base k "_law_shape" g1 gd1 ["_law_cells", "_law_leaves", "_law_loud"] (sp_shape K)) : FnOk P w K mg base CX0 (k + 1) f fd ["_law_cells", "_law_gaps_here", "_law_names"] (sp_left K) := by
  refine F.ok sc_law_left (fun vs H Q E h => ?_) (fun cdv A outer s H vs Q E hr h => ?_)
  · obtain ⟨a, gl, nl, cs, w0, w1, w2, n0, n1, rfl, _⟩ := h
    rfl
  obtain ⟨a, gl, nl, cs, w0, w1, w2, n0, n1, rfl, hS, hcs, hg, hn, q⟩ := h
  refine ⟨_, (Sd.un (pss_consS (ps_setS (i := 3) sc_law_left.nd rfl (Or.inl rfl) ⟨pe_cmpR op_eq (pe_op op_mod (pe_op op_fdiv (pe_ix (r := rIxL K) ix_list (pv 0) pe_int (fun _ _ => rfl)) pe_int) pe_int) pe_int (nomark _)⟩)
    (pss_consS (ps_setS (i := 4) sc_law_left.nd rfl (Or.inl rfl) (pe_lstS ⟨pa_nil⟩))
    (pss_consS (ps_ifS ⟨pt_truth (pv 3) (fun _ => rfl)⟩ (pss_oneS (ps_setS (i := 4) sc_law_left.nd rfl (Or.inl rfl) (pe_lstS (pa_consS (pe_tupS (pa_consS ⟨pe_str⟩ (pa_consS (pe_ixS (r := rIxL K) ix_list ⟨pv 2⟩ ⟨pe_int⟩ (fun _ _ => rfl)) ⟨pa_nil⟩))) (pa_consS (pe_tupS (pa_consS ⟨pe_str⟩ (pa_consS (pe_ixS (r := rIxL K) ix_list ⟨pv 2⟩ ⟨pe_int⟩ (fun _ _ => rfl)) ⟨pa_nil⟩))) ⟨pa_nil⟩))))) ⟨pss_nil⟩)
    (pss_consS (ps_setS (i := 5) sc_law_left.nd rfl (Or.inl rfl) ⟨pe_op op_cat (pe_lst (pa_cons (pe_tup (pa_cons pe_str (pa_cons (pe_ix (r := rIxL K) ix_list (pv 1) pe_int (fun _ _ => rfl)) (pa_cons (pe_tup pa_nil : PE _ _ _) pa_nil))) : PE _ _ _) (pa_cons (pe_tup (pa_cons pe_str (pa_cons (pe_ix (r := rIxL K) ix_list (pv 1) pe_int (fun _ _ => rfl)) (pa_cons (pe_tup pa_nil : PE _ _ _) pa_nil))) : PE _ _ _) pa_nil)) : PE _ _ _) (pv 4)⟩)
    (pss_consS (ps_ifS ⟨pt_cmpR op_eq (pe_op op_mod (pe_ix (r := rIxL K) ix_list (pv 0) pe_int (fun _ _ => rfl)) pe_int) pe_int (nomark _)⟩ (pss_consS (ps_setS (i := 6) sc_law_left.nd rfl (Or.inl rfl) ⟨pe_op op_cat (pv 5) (pe_lst (pa_cons (pe_tup (pa_cons pe_str (pa_cons (pe_ix (r := rIxL K) ix_list (pv 2) pe_int (fun _ _ => rfl)) pa_nil)) : PE _ _ _) (pa_cons (pe_tup (pa_cons pe_str (pa_cons (pe_ix (r := rIxL K) ix_list (pv 1) pe_int (fun _ _ => rfl)) (pa_cons (pe_tup (pa_cons (pe_tup (pa_cons pe_str (pa_cons (pe_ix (r := rIxL K) ix_list (pv 2) pe_int (fun _ _ => rfl)) pa_nil)) : PE _ _ _) pa_nil) : PE _ _ _) pa_nil))) : PE _ _ _) pa_nil)) : PE _ _ _)⟩)
    (pss_oneS (ps_retS (pe_tupS (pa_consS ⟨pe_str⟩ (pa_consS (pe_ixS (r := rIxL K) ix_list ⟨pv 2⟩ ⟨pe_int⟩ (fun _ _ => rfl)) (pa_consS ⟨pe_call G_law_shape.ok hr (by rfl) G_law_shape.gl G_law_shape.kp G_law_shape.bd .nil pass0 (pa_cons (pe_slice (r := rSlL K) sl_list (pv 0) (po_some pe_int) (po_some pe_int)) (pa_cons (pv 5) (pa_cons (pv 3) pa_nil)))⟩ (pa_consS ⟨pe_call G_law_shape.ok hr (by rfl) G_law_shape.gl G_law_shape.kp G_law_shape.bd .nil pass0 (pa_cons (pe_slice (r := rSlL K) sl_list (pv 0) (po_some pe_int) (po_some pe_int)) (pa_cons (pv 6) (pa_cons (pv 3) pa_nil)))⟩ ⟨pa_nil⟩)))))))) ⟨pss_nil⟩)
    (pss_consS (ps_setS (i := 5) sc_law_left.nd rfl (Or.inl rfl) ⟨pe_op op_cat (pv 5) (pe_lst (pa_cons (pe_tup (pa_cons pe_str (pa_cons (pe_ix (r := rIxL K) ix_list (pv 1) pe_int (fun _ _ => rfl)) (pa_cons (pe_tup pa_nil : PE _ _ _) pa_nil))) : PE _ _ _) pa_nil) : PE _ _ _)⟩)
    (pss_consS (ps_setS (i := 7) sc_law_left.nd rfl (Or.inl rfl) (pe_ixS (r := rIxL K) ix_list ⟨pe_lstR [.str "add", .str "sub", .str "mul", .str "then"] (by rfl)⟩ ⟨pe_op op_mod (pe_op op_fdiv (pe_ix (r := rIxL K) ix_list (pv 0) pe_int (fun _ _ => rfl)) pe_int) pe_int⟩ (fun _ _ => rfl)))
    (pss_oneS (ps_retS (pe_tupS (pa_consS ⟨pv 7⟩ (pa_consS ⟨pe_call G_law_shape.ok hr (by rfl) G_law_shape.gl G_law_shape.kp G_law_shape.bd .nil pass0 (pa_cons (pe_slice (r := rSlL K) sl_list (pv 0) (po_some pe_int) (po_some pe_int)) (pa_cons (pv 5) (pa_cons (pv 3) pa_nil)))⟩ (pa_consS ⟨pe_call G_law_shape.ok hr (by rfl) G_law_shape.gl G_law_shape.kp G_law_shape.bd .nil pass0 (pa_cons (pe_slice (r := rSlL K) sl_list (pv 0) (po_some pe_int) (po_some pe_int)) (pa_cons (pv 5) (pa_cons (pv 3) pa_nil)))⟩ ⟨pa_nil⟩)))))))))))))), ?_⟩
  have z0 : 0 ≤ sizeLine := Nat.zero_le _
  have d1 : 1 ≤ sizeLine := by decide
  have d2 : 2 ≤ sizeLine := by decide
  have d3 : 3 ≤ sizeLine := by decide
  have d4 : 4 ≤ sizeLine := by decide
  have z3 : (0 : Int) < 3 := by decide
  obtain ⟨S, hSS⟩ : ∃ S : List Str, S = [w0, w1, w2] := ⟨_, rfl⟩
  have hw0 : w0 ∈ S := by rw [hSS]; simp
  have hw1 : w1 ∈ S := by rw [hSS]; simp
  have hw2 : w2 ∈ S := by rw [hSS]; simp
  obtain ⟨c0, hc0⟩ : ∃ c0, cs[0]? = some c0 := ⟨_, List.getElem?_eq_getElem (by omega)⟩
  have at0 : atI (cs.map V.int) 0 = some (.int c0) := atI_nat (j := 0) (by rw [List.getElem?_map, hc0]; rfl)
  have ag0 : atI [V.str w0, .str w1, .str w2] 0 = some (.str w0) := atI_nat (j := 0) rfl
  have ag1 : atI [V.str w0, .str w1, .str w2] 1 = some (.str w1) := atI_nat (j := 1) rfl
  have ag2 : atI [V.str w0, .str w1, .str w2] 2 = some (.str w2) := atI_nat (j := 2) rfl
  have an0 : atI [V.str n0, .str n1] 0 = some (.str n0) := atI_nat (j := 0) rfl
  have an1 : atI [V.str n0, .str n1] 1 = some (.str n1) := atI_nat (j := 1) rfl
  refine ⟨_, rfl, a, _, 0, _, rfl, rfl, hS, at0, _, _, rfl, rfl, ⟨z3, (show (3 : Int) < 1073741824 by decide)⟩, _, _, rfl, rfl, z3, rfl, ?_⟩
  dsimp only
  generalize decide (V.int (c0 / 3 % 3) = V.int 0) = lo
  refine ⟨z0, fun p4 hp4 => ?_⟩
  have k4 := same_upd (o := .lst []) hp4
  have l4 : Lvs S 0 0 (upd H p4 (.lst [])) p4 := ⟨[], [], upd_same, .nil, ⟨Nat.le_refl _, Nat.le_refl _⟩, (fun t ht => nomatch ht), (fun t ht => nomatch ht)⟩
  generalize upd H p4 (.lst []) = H4 at k4 l4 ⊢
  apply viaS (fun σ' H' => ∃ ln, σ' = [some (.ref a), some (.ref gl), some (.ref nl), some (.bl lo), some (.ref ln), none, none, none] ∧ Same H H' ∧ Lvs S 0 2 H' ln)
  · intro rest
    refine ⟨_, rfl, _, rfl, ite2 (fun _ => ?_) (fun _ => rest _ H4 ⟨p4, rfl, k4, ?_⟩)⟩
    · refine ⟨_, rfl, nl, _, 0, _, rfl, rfl, SqL.of (k4 _ _ hn), an0, d2, fun t1 ht1 => ?_⟩
      have k5 := same_upd (o := .tup [.str "ask", .str n0]) ht1
      refine ⟨_, rfl, nl, _, 1, _, rfl, rfl, SqL.of (k5 _ _ (k4 _ _ hn)), an1, d2, fun t2 ht2 => ⟨d2, fun pl hpl => ?_⟩⟩
      have k6 := same_upd (o := .tup [.str "stop", .str n1]) ht2
      have k7 := same_upd (o := .lst [.ref t1, .ref t2]) hpl
      refine rest _ _ ⟨pl, rfl, k4.trans (k5.trans (k6.trans k7)), [.ref t1, .ref t2], [.ask n0, .stop n1], upd_same, ?_, ⟨Nat.zero_le _, Nat.le_refl _⟩, ?_, ?_⟩
      · exact .cons (show Rep _ (.ask n0) (.ref t1) from ⟨t1, rfl, k7 _ _ (k6 _ _ upd_same)⟩) (.cons (show Rep _ (.stop n1) (.ref t2) from ⟨t2, rfl, k7 _ _ upd_same⟩) .nil)
      · intro t ht
        simp at ht
        rcases ht with rfl | rfl <;> rfl
      · intro t ht
        simp at ht
        rcases ht with rfl | rfl <;> exact fun g hg => nomatch hg
    · obtain ⟨us, lv, h1, h2, h3, h4, h5⟩ := l4
      exact ⟨us, lv, h1, h2, ⟨by omega, by omega⟩, h4, h5⟩
  clear l4 k4 hp4
  rintro σ' H1 ⟨ln, rfl, g1, us, lv, eln, pl, hl, h1, hgs⟩
  have lul : us.length = lv.length := paired_len pl
  refine ⟨_, rfl, gl, _, 0, _, rfl, rfl, SqL.of (g1 _ _ hg), ag0, z0, fun e1 he1 => ?_⟩
  have k1 := same_upd (o := .tup []) he1
  have x1 : (upd H1 e1 (.tup [])) e1 = some (.tup []) := upd_same
  generalize upd H1 e1 (.tup []) = H2 at k1 x1 ⊢
  refine ⟨d3, fun t1 ht1 => ?_⟩
  have k2 := same_upd (o := .tup [.str "gap", .str w0, .ref e1]) ht1
  have r1 : Rep (upd H2 t1 (.tup [.str "gap", .str w0, .ref e1])) (.gap w0 []) (.ref t1) := leaf_gap upd_same (k2 _ _ x1)
  generalize upd H2 t1 (.tup [.str "gap", .str w0, .ref e1]) = H3 at k2 r1 ⊢
  have g3 := g1.trans (k1.trans k2)
  refine ⟨_, rfl, gl, _, 1, _, rfl, rfl, SqL.of (g3 _ _ hg), ag1, z0, fun e2 he2 => ?_⟩
  have k3 := same_upd (o := .tup []) he2
  have x3 : (upd H3 e2 (.tup [])) e2 = some (.tup []) := upd_same
  generalize upd H3 e2 (.tup []) = H4 at k3 x3 ⊢
  refine ⟨d3, fun t2 ht2 => ?_⟩
  have k4 := same_upd (o := .tup [.str "gap", .str w1, .ref e2]) ht2
  have r2 : Rep (upd H4 t2 (.tup [.str "gap", .str w1, .ref e2])) (.gap w1 []) (.ref t2) := leaf_gap upd_same (k4 _ _ x3)
  generalize upd H4 t2 (.tup [.str "gap", .str w1, .ref e2]) = H5 at k4 r2 ⊢
  refine ⟨d2, fun pq hpq => ?_⟩
  have k5 := same_upd (o := .lst [.ref t1, .ref t2]) hpq
  have x5 : (upd H5 pq (.lst [.ref t1, .ref t2])) pq = some (.lst [.ref t1, .ref t2]) := upd_same
  generalize upd H5 pq (.lst [.ref t1, .ref t2]) = H6 at k5 x5 ⊢
  have g16 := k1.trans (k2.trans (k3.trans (k4.trans k5)))
  refine ⟨_, rfl, pq, ln, _, us, rfl, rfl, x5, g16 _ _ eln, line1000 (by simp; omega), fun px hpx => ?_⟩
  have k6 := same_upd (o := .lst ([.ref t1, .ref t2] ++ us)) hpx
  have l6 : Lvs S 2 4 (upd H6 px (.lst ([.ref t1, .ref t2] ++ us))) px := by
    refine ⟨_, [.gap w0 [], .gap w1 []] ++ lv, upd_same, ?_, ⟨by simp, by simp; omega⟩, ?_, ?_⟩
    · exact .cons (r1.mono (k3.trans (k4.trans (k5.trans k6))).tk) (.cons (r2.mono (k5.trans k6).tk) (Paired.mapP pl fun _ _ z => z.mono (g16.trans k6).tk))
    · intro t ht
      rcases List.mem_append.mp ht with h | h
      · simp at h
        rcases h with rfl | rfl <;> rfl
      · exact h1 t h
    · intro t ht
      rcases List.mem_append.mp ht with h | h
      · simp at h
        rcases h with rfl | rfl
        · intro g hg; rw [List.mem_singleton.mp hg]; exact hw0
        · intro g hg; rw [List.mem_singleton.mp hg]; exact hw1
      · exact hgs t h
  generalize upd H6 px (.lst ([.ref t1, .ref t2] ++ us)) = H7 at k6 l6 ⊢
  have g7 := g1.trans (g16.trans k6)
  clear x5 r1 r2 x1 x3 g16 g3
  have l7 := l6
  obtain ⟨us, lv, epx, pl, hl, h1, hgs⟩ := l6
  have lul : us.length = lv.length := paired_len pl
  have hS7 := g7.seq hS
  have hg7 := g7 _ _ hg
  have hn7 := g7 _ _ hn
  refine ⟨_, rfl, a, _, 0, _, rfl, rfl, hS7, at0, _, _, rfl, rfl, z3, rfl, _, rfl, ite2 (fun _ => ?_) (fun _ => ?_)⟩
  · 
    refine ⟨_, rfl, _, rfl, nl, _, 0, _, rfl, rfl, SqL.of hn7, an0, d2, fun t1 ht1 => ?_⟩
    have k1 := same_upd (o := .tup [.str "name", .str n0]) ht1
    have r1 : Rep (upd H7 t1 (.tup [.str "name", .str n0])) (.name n0) (.ref t1) := ⟨t1, rfl, upd_same⟩
    generalize upd H7 t1 (.tup [.str "name", .str n0]) = H8 at k1 r1 ⊢
    refine ⟨_, rfl, gl, _, 2, _, rfl, rfl, SqL.of (k1 _ _ hg7), ag2, _, rfl, nl, _, 0, _, rfl, rfl, SqL.of (k1 _ _ hn7), an0, d2, fun t2 ht2 => ⟨d1, fun te hte => ⟨d3, fun t3 ht3 => ?_⟩⟩⟩
    have k2 := same_upd (o := .tup [.str "name", .str n0]) ht2
    have k3 := same_upd (o := .tup [.ref t2]) hte
    have k4 := same_upd (o := .tup [.str "gap", .str w2, .ref te]) ht3
    have r2 : Rep (upd (upd (upd H8 t2 (.tup [.str "name", .str n0])) te (.tup [.ref t2])) t3 (.tup [.str "gap", .str w2, .ref te])) (.gap w2 [.name n0]) (.ref t3) := leaf_gap1 upd_same (k4 _ _ upd_same) ⟨t2, rfl, k4 _ _ (k3 _ _ upd_same)⟩
    have k24 := k2.trans (k3.trans k4)
    generalize upd (upd (upd H8 t2 (.tup [.str "name", .str n0])) te (.tup [.ref t2])) t3 (.tup [.str "gap", .str w2, .ref te]) = H9 at k24 r2 ⊢
    refine ⟨d2, fun pb hpb => ?_⟩
    have k5 := same_upd (o := .lst [.ref t1, .ref t3]) hpb
    have x5 : (upd H9 pb (.lst [.ref t1, .ref t3])) pb = some (.lst [.ref t1, .ref t3]) := upd_same
    generalize upd H9 pb (.lst [.ref t1, .ref t3]) = H10 at k5 x5 ⊢
    have k15 := k1.trans (k24.trans k5)
    refine ⟨px, pb, us, _, rfl, rfl, k15 _ _ epx, x5, line1000 (by simp; omega), fun py hpy => ?_⟩
    have k6 := same_upd (o := .lst (us ++ [.ref t1, .ref t3])) hpy
    have epy : (upd H10 py (.lst (us ++ [.ref t1, .ref t3]))) py = some (.lst (us ++ [.ref t1, .ref t3])) := upd_same
    have ply : Paired (Rep (upd H10 py (.lst (us ++ [.ref t1, .ref t3])))) (lv ++ [.name n0, .gap w2 [.name n0]]) (us ++ [.ref t1, .ref t3]) := paired_append (Paired.mapP pl fun _ _ z => z.mono (k15.trans k6).tk) (.cons (r1.mono (k24.trans (k5.trans k6)).tk) (.cons (r2.mono (k5.trans k6).tk) .nil))
    have k16 := k15.trans k6
    generalize upd H10 py (.lst (us ++ [.ref t1, .ref t3])) = H11 at k6 epy ply k16 ⊢
    have g11 := g7.trans k16
    obtain ⟨ms, em, lm⟩ := ints_cut (H := H) (K := K) cs 1 3
    obtain ⟨ms2, em2, lm2⟩ := ints_cut (H := H) (K := K) cs 3 7
    refine ⟨_, rfl, nl, _, 0, _, rfl, rfl, SqL.of (g11 _ _ hn), an0, _, rfl, 1, rfl, 3, rfl, a, _, rfl, g11.seq hS, fun ps hps => ?_⟩
    rw [show cutV (cs.map V.int) (some 1) (some 3) = ms.map V.int from em]
    have k7 := same_upd (o := .lst (ms.map V.int)) hps
    have e7 : (upd H11 ps (.lst (ms.map V.int))) ps = some (.lst (ms.map V.int)) := upd_same
    generalize upd H11 ps (.lst (ms.map V.int)) = H12 at k7 e7 ⊢
    have g12 := k16.trans k7
    refine ⟨_, rfl, _, rfl, ps, px, lo, ms, us, lv, S, rfl, SqL.of e7, by omega, g12 _ _ epx, Paired.mapP pl (fun _ _ z => z.mono g12.tk), by omega, by omega, h1, hgs, fun ta va H13 g13 ra sa ga => ?_⟩
    have gB := (g7.trans g12).trans g13
    refine ⟨_, rfl, 3, rfl, 7, rfl, a, _, rfl, gB.seq hS, fun pr hpr => ?_⟩
    rw [show cutV (cs.map V.int) (some 3) (some 7) = ms2.map V.int from em2]
    have k8 := same_upd (o := .lst (ms2.map V.int)) hpr
    have e8 : (upd H13 pr (.lst (ms2.map V.int))) pr = some (.lst (ms2.map V.int)) := upd_same
    generalize upd H13 pr (.lst (ms2.map V.int)) = H14 at k8 e8 ⊢
    have k9 := k7.trans (g13.trans k8)
    refine ⟨_, rfl, _, rfl, pr, py, lo, ms2, _, lv ++ [.name n0, .gap w2 [.name n0]], S, rfl, SqL.of e8, by omega, k9 _ _ epy, Paired.mapP ply (fun _ _ z => z.mono k9.tk), by simp, by simp; omega, ?_, ?_, fun tb vb H15 g15 rb sb gb => ⟨d4, fun pt hpt => ?_⟩⟩
    · intro t ht
      rcases List.mem_append.mp ht with h | h
      · exact h1 t h
      · simp at h
        rcases h with rfl | rfl <;> rfl
    · refine hgs.app fun t ht => ?_
      simp at ht
      rcases ht with rfl | rfl
      · exact fun g hg => nomatch hg
      · intro g hg; rw [List.mem_singleton.mp hg]; exact hw2
    · have g16 := same_upd (o := .tup [.str "let", .str n0, va, vb]) hpt
      refine q (.lett n0 ta tb) (.ref pt) _ (gB.trans (k8.trans (g15.trans g16))) ⟨pt, va, vb, rfl, upd_same, ra.mono (k8.trans (g15.trans g16)).tk, rb.mono g16.tk⟩ ?_ fun g hg => ?_
      · show ta.size + tb.size + 1 ≤ 40
        omega
      · rw [← hSS]
        exact (List.mem_append.mp hg).elim (ga g) (gb g)
  · refine ⟨_, rfl, _, rfl, gl, _, 2, _, rfl, rfl, SqL.of hg7, ag2, z0, fun e1 he1 => ⟨d3, fun t1 ht1 => ?_⟩⟩
    have k1 := same_upd (o := .tup []) he1
    have k2 := same_upd (o := .tup [.str "gap", .str w2, .ref e1]) ht1
    have r1 : Rep (upd (upd H7 e1 (.tup [])) t1 (.tup [.str "gap", .str w2, .ref e1])) (.gap w2 []) (.ref t1) := leaf_gap upd_same (k2 _ _ upd_same)
    have k12 := k1.trans k2
    generalize upd (upd H7 e1 (.tup [])) t1 (.tup [.str "gap", .str w2, .ref e1]) = H8 at k12 r1 ⊢
    refine ⟨d1, fun pb hpb => ?_⟩
    have k5 := same_upd (o := .lst [.ref t1]) hpb
    have x5 : (upd H8 pb (.lst [.ref t1])) pb = some (.lst [.ref t1]) := upd_same
    generalize upd H8 pb (.lst [.ref t1]) = H10 at k5 x5 ⊢
    have k15 := k12.trans k5
    refine ⟨px, pb, us, _, rfl, rfl, k15 _ _ epx, x5, line1000 (by simp; omega), fun py hpy => ?_⟩
    have k6 := same_upd (o := .lst (us ++ [.ref t1])) hpy
    have epy : (upd H10 py (.lst (us ++ [.ref t1]))) py = some (.lst (us ++ [.ref t1])) := upd_same
    have ply : Paired (Rep (upd H10 py (.lst (us ++ [.ref t1])))) (lv ++ [.gap w2 []]) (us ++ [.ref t1]) := paired_append (Paired.mapP pl fun _ _ z => z.mono (k15.trans k6).tk) (.cons (r1.mono (k5.trans k6).tk) .nil)
    have k16 := k15.trans k6
    show tSeq _ _ _ _ (upd H10 py (.lst (us ++ [.ref t1])))
    generalize upd H10 py (.lst (us ++ [.ref t1])) = H11 at k6 epy ply k16 ⊢
    have hly : 1 ≤ (lv ++ [Tr.gap w2 []]).length ∧ (lv ++ [Tr.gap w2 []]).length ≤ 100 := by simp; omega
    have h1y : ∀ t ∈ lv ++ [Tr.gap w2 []], t.size = 1 := fun t ht => by
      rcases List.mem_append.mp ht with h | h
      · exact h1 t h
      · rw [List.mem_singleton.mp h]; rfl
    have hgy : GS S (lv ++ [Tr.gap w2 []]) := hgs.app (.one fun g hg => by rw [List.mem_singleton.mp hg]; exact hw2)
    have g11 := g7.trans k16
    obtain ⟨o, eo⟩ := binPick (c0 / 9)
    refine ⟨d4, fun pw hpw => ?_⟩
    have k7 := same_upd (o := .lst [.str "add", .str "sub", .str "mul", .str "then"]) hpw
    have ew : (upd H11 pw (.lst [.str "add", .str "sub", .str "mul", .str "then"])) pw = some (.lst [.str "add", .str "sub", .str "mul", .str "then"]) := upd_same
    generalize upd H11 pw (.lst [.str "add", .str "sub", .str "mul", .str "then"]) = H12 at k7 ew ⊢
    have g12 := g11.trans k7
    refine ⟨_, rfl, a, _, 0, _, rfl, rfl, g12.seq hS, at0, _, _, rfl, rfl, ⟨(show (0 : Int) < 9 by decide), (show (9 : Int) < 1073741824 by decide)⟩, _, _, rfl, rfl, (show (0 : Int) < 4 by decide), pw, _, _, _, rfl, rfl, SqL.of ew, eo, ?_⟩
    obtain ⟨ms, em, lm⟩ := ints_cut (H := H) (K := K) cs 1 4
    obtain ⟨ms2, em2, lm2⟩ := ints_cut (H := H) (K := K) cs 4 7
    refine ⟨_, rfl, _, rfl, 1, rfl, 4, rfl, a, _, rfl, g12.seq hS, fun ps hps => ?_⟩
    rw [show cutV (cs.map V.int) (some 1) (some 4) = ms.map V.int from em]
    have k8 := same_upd (o := .lst (ms.map V.int)) hps
    have e8 : (upd H12 ps (.lst (ms.map V.int))) ps = some (.lst (ms.map V.int)) := upd_same
    generalize upd H12 ps (.lst (ms.map V.int)) = H13 at k8 e8 ⊢
    have k9 := k7.trans k8
    refine ⟨_, rfl, _, rfl, ps, py, lo, ms, _, lv ++ [.gap w2 []], S, rfl, SqL.of e8, by omega, k9 _ _ epy, Paired.mapP ply (fun _ _ z => z.mono k9.tk), hly.1, hly.2, h1y, hgy, fun ta va H14 g14 ra sa ga => ?_⟩
    have gB := (g11.trans k9).trans g14
    refine ⟨_, rfl, 4, rfl, 7, rfl, a, _, rfl, gB.seq hS, fun pr hpr => ?_⟩
    rw [show cutV (cs.map V.int) (some 4) (some 7) = ms2.map V.int from em2]
    have k10 := same_upd (o := .lst (ms2.map V.int)) hpr
    have e10 : (upd H14 pr (.lst (ms2.map V.int))) pr = some (.lst (ms2.map V.int)) := upd_same
    generalize upd H14 pr (.lst (ms2.map V.int)) = H15 at k10 e10 ⊢
    have k11 := k9.trans (g14.trans k10)
    refine ⟨_, rfl, _, rfl, pr, py, lo, ms2, _, lv ++ [.gap w2 []], S, rfl, SqL.of e10, by omega, k11 _ _ epy, Paired.mapP ply (fun _ _ z => z.mono k11.tk), hly.1, hly.2, h1y, hgy, fun tb vb H16 g16 rb sb gb => ⟨d3, fun pt hpt => ?_⟩⟩
    have g17 := same_upd (o := .tup [.str o.s, va, vb]) hpt
    refine q (.bin o ta tb) (.ref pt) _ (gB.trans (k10.trans (g16.trans g17))) ⟨pt, va, vb, rfl, upd_same, ra.mono (k10.trans (g16.trans g17)).tk, rb.mono g17.tk⟩ ?_ fun g hg => ?_
    · show ta.size + tb.size + 1 ≤ 40
      omega
    · rw [← hSS]
      exact (List.mem_append.mp hg).elim (ga g) (gb g)
end
end K21
set_option Elab.async false
set_option linter.all false
set_option maxRecDepth 100000
set_option maxHeartbeats 4000000
namespace L2
open PySem
theorem prv_mono {H H' : Hp} (k : Tk H H') {y : V} {kv : Key × V} : PrV H y kv → PrV H' y kv
  | ⟨b, e, h⟩ => ⟨b, e, k _ _ h⟩
theorem nodup_le : ∀ {ks T : List Str}, ks.Nodup → (∀ g ∈ ks, g ∈ T) → ks.length ≤ T.length
  | [], _, _, _ => Nat.zero_le _
  | k :: ks, T, nd, h => by
    obtain ⟨n1, n2⟩ := List.nodup_cons.mp nd
    have hk := h k List.mem_cons_self
    have ih := nodup_le (ks := ks) (T := T.erase k) n2 fun g hg => (List.mem_erase_of_ne (fun e => n1 (by rw [← e]; exact hg))).mpr (h g (List.mem_cons_of_mem _ hg))
    rw [List.length_erase_of_mem hk] at ih
    have := List.length_pos_of_mem hk
    rw [List.length_cons]
    omega
theorem nodup_new {ss : List Str} (nd : ss.Nodup) {i : Nat} {g : Str} (h : ss[i]? = some g) : g ∉ ss.take i := fun z => by
  obtain ⟨j, hj⟩ := List.getElem?_of_mem z
  have hji : j < i := by
    have := (List.getElem?_eq_some_iff.mp hj).1
    rw [List.length_take] at this
    omega
  rw [List.getElem?_take_of_lt hji] at hj
  exact absurd (nodup_at nd hj h) (by omega)
structure RtA (H0 : Hp) (S : List Str) (p0 : Addr) (m0 : Int) (n : Nat) (ps pi : Addr) (H : Hp) : Prop where
  same : Same H0 H
  hs : H0 ps = none
  hi : H0 pi = none
  ne : ps ≠ pi
  num : H p0 = some (.tup [.str "num", .int m0])
  som : ∃ (us : List V) (lv : List Tr), H ps = some (.lst (.ref p0 :: us)) ∧ Paired (Rep H) lv (.ref p0 :: us) ∧ lv.length ≤ n ∧ (∀ t ∈ lv, t.size = 1) ∧ GS S lv
  inn : ∃ (us : List V) (lv : List Tr), H pi = some (.lst us) ∧ Paired (Rep H) lv us ∧ lv.length ≤ n ∧ (∀ t ∈ lv, t.size = 1) ∧ GS S lv
theorem RtA.on {H0 : Hp} {S : List Str} {p0 : Addr} {m0 : Int} {n : Nat} {ps pi : Addr} {H H1 : Hp} (h : RtA H0 S p0 m0 n ps pi H) (g : Same H H1) {m : Nat} (le : n ≤ m) : RtA H0 S p0 m0 m ps pi H1 := by
  obtain ⟨a, b, c, d, e, ⟨us, lv, f1, f2, f3, f4⟩, ⟨us', lv', f1', f2', f3', f4'⟩⟩ := h
  exact ⟨a.trans g, b, c, d, g _ _ e, ⟨us, lv, g _ _ f1, Paired.mapP f2 fun _ _ z => z.mono g.tk, by omega, f4⟩, ⟨us', lv', g _ _ f1', Paired.mapP f2' fun _ _ z => z.mono g.tk, by omega, f4'⟩⟩
theorem RtA.addS {H0 : Hp} {S : List Str} {p0 : Addr} {m0 : Int} {n : Nat} {ps pi : Addr} {H : Hp} (h : RtA H0 S p0 m0 n ps pi H) {t : Tr} {v : V} (r : Rep H t v) (s1 : t.size = 1) (hg : ∀ g ∈ t.gps, g ∈ S) :
    ∃ us, H ps = some (.lst us) ∧ us.length ≤ n ∧ RtA H0 S p0 m0 (n + 1) ps pi (upd H ps (.lst (us ++ [v]))) := by
  obtain ⟨a, b, c, d, e, ⟨us, lv, f1, f2, f3, f4, f5⟩, ⟨us', lv', f1', f2', f3', f4', f5'⟩⟩ := h
  have tk : Tk H (upd H ps (.lst (.ref p0 :: us ++ [v]))) := Tk.lst f1
  have hl : (V.ref p0 :: us).length = lv.length := paired_len f2
  refine ⟨_, f1, by omega, ⟨same_set a b, b, c, d, tk _ _ e, ⟨us ++ [v], lv ++ [t], upd_same, ?_, by simp; omega, ?_, f5.app (.one hg)⟩, ⟨us', lv', by rw [upd_ne (Ne.symm d)]; exact f1', Paired.mapP f2' fun _ _ z => z.mono tk, by omega, f4', f5'⟩⟩⟩
  · exact paired_append (us := .ref p0 :: us) (Paired.mapP f2 fun _ _ z => z.mono tk) (.cons (r.mono tk) .nil)
  · intro t' ht'
    rcases List.mem_append.mp ht' with h | h
    · exact f4 t' h
    · rw [List.mem_singleton.mp h]; exact s1
theorem RtA.addI {H0 : Hp} {S : List Str} {p0 : Addr} {m0 : Int} {n : Nat} {ps pi : Addr} {H : Hp} (h : RtA H0 S p0 m0 n ps pi H) {t : Tr} {v : V} (r : Rep H t v) (s1 : t.size = 1) (hg : ∀ g ∈ t.gps, g ∈ S) :
    ∃ us, H pi = some (.lst us) ∧ us.length ≤ n ∧ RtA H0 S p0 m0 (n + 1) ps pi (upd H pi (.lst (us ++ [v]))) := by
  obtain ⟨a, b, c, d, e, ⟨us, lv, f1, f2, f3, f4, f5⟩, ⟨us', lv', f1', f2', f3', f4', f5'⟩⟩ := h
  have tk : Tk H (upd H pi (.lst (us' ++ [v]))) := Tk.lst f1'
  have hl : us'.length = lv'.length := paired_len f2'
  refine ⟨_, f1', by omega, ⟨same_set a c, b, c, d, tk _ _ e, ⟨us, lv, by rw [upd_ne d]; exact f1, Paired.mapP f2 fun _ _ z => z.mono tk, by omega, f4, f5⟩, ⟨us' ++ [v], lv' ++ [t], upd_same, ?_, by simp; omega, ?_, f5'.app (.one hg)⟩⟩⟩
  · exact paired_append (Paired.mapP f2' fun _ _ z => z.mono tk) (.cons (r.mono tk) .nil)
  · intro t' ht'
    rcases List.mem_append.mp ht' with h | h
    · exact f4' t' h
    · rw [List.mem_singleton.mp h]; exact s1
end L2
namespace K21
open PySem PySem.Spec L2 PyProof.Rows
abbrev s_law_kinds : Stmt := top 29
theorem sc_law_kinds : FnScope ["_law_there", "_law_cell", "_law_kinds_here", "_law_gap", "_law_kind"] ["_law_there", "_law_cell"] (defScope s_law_kinds) := ⟨rfl, rfl, rfl, by decide +kernel, rfl, by decide +kernel, by decide +kernel⟩
abbrev s_law_right : Stmt := top 30
theorem sc_law_right : FnScope ["_law_cells", "_law_there", "_law_kinds_here", "_law_loud", "_law_names", "_law_some", "_law_inner", "_law_gap", "_law_other", "_law_kind"] ["_law_cells", "_law_there", "_law_kinds_here", "_law_loud", "_law_names"] (defScope s_law_right) := ⟨rfl, rfl, rfl, by decide +kernel, rfl, by decide +kernel, by decide +kernel⟩
section
variable {P : Program} {w : World} {K : PySem.W.Frag} {mg : Str → Option Value} {base : Heap}
def KdsAt (H : Hp) (ka : Addr) (kds : List (Str × Str)) : Prop := ∃ (o : Obj) (ys : List V), H ka = some (.frz o (.tup ys)) ∧ o.dict = none ∧ Paired (PrV H) ys (kdV kds)
def sp_kinds : Sp := fun vs H Q _ => ∃ (d : Addr) (c : Int) (S : List Str) (kvs : List (Key × V)), vs = [.ref d, .int c] ∧ H d = some (.dK kvs) ∧ GD S kvs ∧ kvs.length < 60 ∧
  ∀ (ka : Addr) (kds : List (Str × Str)) (H' : Hp), Same H H' → KdsAt H' ka kds → (kds.map (·.1)).Nodup → kds.length ≤ kvs.length → Q (.ref ka) H'
theorem ok_kinds {k : Nat} {f : Addr} {fd : FuncData} (F : Fun K "_law_kinds" "_law_kinds" s_law_kinds f fd) (z_sorted : mg "sorted" = none) (z_tuple : mg "tuple" = none) : FnOk P w K mg base CX0 (k + 1) f fd ["_law_there", "_law_cell"] sp_kinds := by
  refine F.ok sc_law_kinds (fun vs H Q E h => ?_) (fun cdv A outer s H vs Q E hr h => ?_)
  · obtain ⟨d, c, S, kvs, rfl, _⟩ := h
    rfl
  obtain ⟨d, c, S, kvs, rfl, hd, gd, hlen, q⟩ := h
  have hu := hu_of hr
  refine ⟨_, (pss_cons (ps_set (i := 2) sc_law_kinds.nd rfl (Or.inl rfl) (pe_lst pa_nil : PE _ _ _))
    (pss_cons (ps_for PassesOwn.never rfl (pi_list (pe_callB (call_sortedD rfl) (by rfl) z_sorted PyProof.Rows.boot_sorted (pa_cons (pv 0) pa_nil))) (pg_name (i := 3) sc_law_kinds.nd rfl (Or.inl rfl)) (pss_cons (ps_set (i := 4) sc_law_kinds.nd rfl (Or.inl rfl) (pe_op op_mod (pv 1) pe_int))
    (pss_cons (ps_set (i := 1) sc_law_kinds.nd rfl (Or.inl rfl) (pe_op op_fdiv (pv 1) pe_int))
    (pss_cons (ps_if (pt_cmpR op_eq (pv 4) pe_int (nomark _)) (pss_one (ps_expr (pe_bm PySem.F.plainAttrs_list PySem.F.slot_list_append PySem.F.type_list_append mt_append (pv 2) (pa_cons (pe_tup (pa_cons (pv 3) (pa_cons pe_str pa_nil)) : PE _ _ _) pa_nil)))) pss_nil)
    (pss_one (ps_if (pw_and (pt_cmpR op_eq (pv 4) pe_int (nomark _)) (pw_and1 (pt_cmpR op_eq (pe_dget hu (pv 0) (pv 3) (fun _ _ => rfl)) pe_int (nomark _)))).pt (pss_one (ps_expr (pe_bm PySem.F.plainAttrs_list PySem.F.slot_list_append PySem.F.type_list_append mt_append (pv 2) (pa_cons (pe_tup (pa_cons (pv 3) (pa_cons pe_str pa_nil)) : PE _ _ _) pa_nil)))) pss_nil))))))
    (pss_one (ps_ret (pe_callTy call_tupleF (by rfl) z_tuple PyProof.Rows.boot_tuple (pa_cons (pv 2) pa_nil)))))), ?_⟩
  have d2 : 2 ≤ sizeLine := by decide
  obtain ⟨ks, ek, ndk, lk, mk⟩ := gd.keys
  refine ⟨(by show 0 ≤ sizeLine; decide), fun lo hlo => ?_⟩
  have g1 := same_upd (o := .lst []) hlo
  have elo : (upd H lo (.lst [])) lo = some (.lst []) := upd_same
  generalize upd H lo (.lst []) = H1 at g1 elo ⊢
  refine ⟨_, rfl, d, kvs, ks, rfl, g1 _ _ hd, ek, by omega, fun l ss hl pm _ => ?_⟩
  have g2 := same_upd (o := .lst (ss.map V.str)) hl
  have el : (upd H1 l (.lst (ss.map V.str))) l = some (.lst (ss.map V.str)) := upd_same
  have elo2 := g2 _ _ elo
  generalize upd H1 l (.lst (ss.map V.str)) = H2 at g2 el elo2 ⊢
  have nds : ss.Nodup := pm.nodup_iff.mpr ndk
  have lss : ss.length = ks.length := pm.length_eq
  have nll : l ≠ lo := fun z => by rw [z, elo] at hl; cases hl
  refine ⟨l, rfl, ⟨_, SqL.of el⟩, ?_⟩
  refine for_list (xs := ss.map V.str) (fun i σ' H' => ∃ (c : Int) (ys : List V) (kds : List (Str × Str)) (s3 s4 : Option V), σ' = [some (.ref d), some (.int c), some (.ref lo), s3, s4] ∧ Same H H' ∧ H' l = some (.lst (ss.map V.str)) ∧ H' lo = some (.lst ys) ∧ Paired (PrV H') ys (kdV kds) ∧
    (∀ p ∈ kds, p.1 ∈ ss.take i) ∧ (kds.map (·.1)).Nodup ∧ kds.length ≤ i) ?_ ?_ ?_ ?_
  · exact ⟨c, [], [], none, none, rfl, g1.trans g2, el, elo2, .nil, (fun p hp => nomatch hp), List.nodup_nil, Nat.le_refl _⟩
  · rintro i σ' H' _ ⟨c, ys, kds, s3, s4, rfl, g, el', _⟩
    exact SqL.of el'
  · rintro i x σ' H' hx ⟨c, ys, kds, s3, s4, rfl, g, el', elo', pk, hin, nd, le⟩
    rw [List.getElem?_map] at hx
    obtain ⟨y, hy, rfl⟩ := Option.map_eq_some_iff.mp hx
    have hi : i < ss.length := (List.getElem?_eq_some_iff.mp hy).1
    have hnew := nodup_new nds hy
    have htk := take_next hy
    have lys : ys.length = kds.length := by have := Paired.length pk; rw [this]; unfold kdV; simp
    have hin' : ∀ p ∈ kds, p.1 ∈ ss.take (i + 1) := fun p hp => by rw [htk]; exact List.mem_append.mpr (.inl (hin p hp))
    have more : ∀ (H3 : Hp) (kd : Str) (p : Addr), H3 = H' → H3 p = none → ∃ H4, H4 = upd (upd H3 p (.tup [.str y, .str kd])) lo (.lst (ys ++ [.ref p])) ∧ Same H H4 ∧ H4 l = some (.lst (ss.map V.str)) ∧ H4 lo = some (.lst (ys ++ [.ref p])) ∧ Paired (PrV H4) (ys ++ [.ref p]) (kdV (kds ++ [(y, kd)])) ∧
        (∀ p ∈ kds ++ [(y, kd)], p.1 ∈ ss.take (i + 1)) ∧ ((kds ++ [(y, kd)]).map (·.1)).Nodup ∧ (kds ++ [(y, kd)]).length ≤ i + 1 ∧ (upd H3 p (.tup [.str y, .str kd])) lo = some (.lst ys) := by
      rintro H3 kd p rfl hp
      have k1 := same_upd (o := .tup [.str y, .str kd]) hp
      have e1 := k1 _ _ elo'
      have tk : Tk (upd H3 p (.tup [.str y, .str kd])) (upd (upd H3 p (.tup [.str y, .str kd])) lo (.lst (ys ++ [.ref p]))) := Tk.lst e1
      refine ⟨_, rfl, same_set (g.trans k1) hlo, by rw [upd_ne nll]; exact k1 _ _ el', upd_same, ?_, ?_, ?_, ?_, e1⟩
      · unfold kdV
        rw [List.map_append]
        exact paired_appP (Paired.mapP pk fun _ _ z => prv_mono (k1.tk.trans tk) z) (.cons ⟨p, rfl, tk _ _ upd_same⟩ .nil)
      · intro p hp
        rcases List.mem_append.mp hp with h | h
        · exact hin' p h
        · rw [List.mem_singleton.mp h, htk]
          exact List.mem_append.mpr (.inr (List.mem_singleton.mpr rfl))
      · rw [List.map_append, List.nodup_append]
        refine ⟨nd, by simp, fun a ha b hb e => ?_⟩
        obtain ⟨p, hp, rfl⟩ := List.mem_map.mp ha
        simp at hb
        have := hin p hp
        rw [show p.1 = y from e.trans hb] at this
        exact hnew this
      · simp
        exact le
    refine ⟨_, rfl, _, _, rfl, rfl, (show (0 : Int) < 3 by decide), ?_⟩
    refine ⟨_, rfl, _, _, rfl, rfl, ⟨(show (0 : Int) < 3 by decide), (show (3 : Int) < 1073741824 by decide)⟩, ?_⟩
    dsimp only
    generalize c % 3 = kk
    generalize c / 3 = cc
    refine ⟨_, rfl, rfl, _, rfl, ite2 (fun c1 => ?_) (fun c1 => ?_)⟩
    · have hk1 : kk = 1 := V.int.inj (of_decide_eq_true c1)
      refine ⟨_, rfl, .inl ⟨rfl, _, SqL.of elo'⟩, _, rfl, d2, fun p hp => ?_⟩
      obtain ⟨H4, eH4, m1, m2, m3, m4, m5, m6, m7, m8⟩ := more H' "quiet" p rfl hp
      refine ⟨lo, ys, _, rfl, rfl, m8, small1000 (by omega), ?_⟩
      rw [← eH4]
      refine ⟨_, rfl, rfl, _, rfl, ite2 (fun c2 => ?_) (fun _ => iteF ?_)⟩
      · have hk2 : kk = 2 := V.int.inj (of_decide_eq_true c2)
        omega
      · exact ⟨_, _, _, _, _, rfl, m1, m2, m3, m4, m5, m6, m7⟩
    · refine ⟨_, rfl, rfl, _, rfl, ite2 (fun c2 => ?_) (fun _ => iteF ?_)⟩
      · obtain ⟨n, hn⟩ := gd.int ((mk y).mp (pm.mem_iff.mp (List.mem_of_getElem? hy)))
        have gv : DGet H' d (.str y) (some (.int n)) := .inl ⟨kvs, Sum.inr y, .inl (g _ _ hd), rfl, hn.symm⟩
        refine ⟨_, rfl, _, rfl, d, _, rfl, gv, rfl, _, rfl, ite2 (fun c3 => ?_) (fun _ => ?_)⟩
        · refine ⟨_, rfl, .inl ⟨rfl, _, SqL.of elo'⟩, _, rfl, d2, fun p hp => ?_⟩
          obtain ⟨H4, eH4, m1, m2, m3, m4, m5, m6, m7, m8⟩ := more H' "number" p rfl hp
          refine ⟨lo, ys, _, rfl, rfl, m8, small1000 (by omega), ?_⟩
          rw [← eH4]
          exact ⟨_, _, _, _, _, rfl, m1, m2, m3, m4, m5, m6, m7⟩
        · exact ⟨_, _, _, _, _, rfl, g, el', elo', pk, hin', nd, by omega⟩
      · exact ⟨_, _, _, _, _, rfl, g, el', elo', pk, hin', nd, by omega⟩
  · rintro σ' H' ⟨c, ys, kds, s3, s4, rfl, g, el', elo', pk, hin, nd, le⟩
    rw [List.length_map] at le
    refine ⟨_, rfl, lo, ys, rfl, SqL.of elo', fun ka o hka hdn => ?_⟩
    have k1 := same_upd (o := .frz o (.tup ys)) hka
    exact q ka kds _ (g.trans k1) ⟨o, ys, upd_same, hdn, Paired.mapP pk fun _ _ z => prv_mono k1.tk z⟩ nd (by omega)
def sp_right (K : PySem.W.Frag) : Sp := fun vs H Q _ => ∃ (a d ka nl : Addr) (lo : Bool) (cs : List Int) (S : List Str) (kvs : List (Key × V)) (kds : List (Str × Str)) (n0 n1 : Str), vs = [.ref a, .ref d, .ref ka, .bl lo, .ref nl] ∧ SqL K H a (cs.map V.int) ∧ 1 ≤ cs.length ∧ H d = some (.dK kvs) ∧ GD S kvs ∧ kvs.length ≤ 3 ∧ KdsAt H ka kds ∧ kds.length ≤ 3 ∧ H nl = some (.lst [.str n0, .str n1]) ∧
  ∀ (t : Tr) (v : V) (H' : Hp), Same H H' → Rep H' t v → t.size ≤ 40 → (∀ g ∈ t.gps, g ∈ S) → Q v H'
theorem ok_right {k : Nat} {f g1 : Addr} {fd gd1 : FuncData} (F : Fun K "_law_right" "_law_right" s_law_right f fd) (z_sorted : mg "sorted" = none) (G_law_shape : FnB P w K mg base k "_law_shape" g1 gd1 ["_law_cells", "_law_leaves", "_law_loud"] (sp_shape K)) : FnOk P w K mg base CX0 (k + 1) f fd ["_law_cells", "_law_there", "_law_kinds_here", "_law_loud", "_law_names"] (sp_right K) := by
  refine F.ok sc_law_right (fun vs H Q E h => ?_) (fun cdv A outer s H vs Q E hr h => ?_)
  · obtain ⟨a, d, ka, nl, lo, cs, S, kvs, kds, n0, n1, rfl, _⟩ := h
    rfl
  obtain ⟨a, d, ka, nl, lo, cs, S, kvs, kds, n0, n1, rfl, hS, hcs, hd, gd, hk3, ⟨o, ys, eka, hdn, pka⟩, hkd3, hn, q⟩ := h
  have hu := hu_of hr
  refine ⟨_, (Sd.un (pss_consS (ps_setS (i := 5) sc_law_right.nd rfl (Or.inl rfl) (pe_lstS (pa_consS (pe_tupS (pa_consS ⟨pe_str⟩ (pa_consS ⟨pe_op op_mod (pe_op op_fdiv (pe_ix (r := rIxL K) ix_list (pv 0) pe_int (fun _ _ => rfl)) pe_int) (pe_op op_pow pe_int pe_int)⟩ ⟨pa_nil⟩))) ⟨pa_nil⟩)))
    (pss_consS (ps_ifS ⟨pt_truth (pv 3) (fun _ => rfl)⟩ (pss_oneS (ps_setS (i := 5) sc_law_right.nd rfl (Or.inl rfl) ⟨pe_op op_cat (pv 5) (pe_lst (pa_cons (pe_tup (pa_cons pe_str (pa_cons (pe_ix (r := rIxL K) ix_list (pv 4) pe_int (fun _ _ => rfl)) pa_nil)) : PE _ _ _) (pa_cons (pe_tup (pa_cons pe_str (pa_cons (pe_ix (r := rIxL K) ix_list (pv 4) pe_int (fun _ _ => rfl)) pa_nil)) : PE _ _ _) pa_nil)) : PE _ _ _)⟩)) ⟨pss_nil⟩)
    (pss_consS (ps_setS (i := 6) sc_law_right.nd rfl (Or.inl rfl) (pe_lstS (pa_consS (pe_tupS (pa_consS ⟨pe_str⟩ (pa_consS (pe_ixS (r := rIxL K) ix_list ⟨pv 4⟩ ⟨pe_int⟩ (fun _ _ => rfl)) ⟨pa_nil⟩))) ⟨pa_nil⟩)))
    (pss_consS ⟨ps_for PassesOwn.never rfl (pi_list (pe_callB (call_sortedD rfl) (by rfl) z_sorted PyProof.Rows.boot_sorted (pa_cons (pv 1) pa_nil))) (pg_name (i := 7) sc_law_right.nd rfl (Or.inl rfl)) (pss_one (ps_if (pt_cmpR op_eq (pe_dget hu (pv 1) (pv 7) (fun _ _ => rfl)) pe_int (nomark _)) (pss_one (ps_expr (pe_bm PySem.F.plainAttrs_list PySem.F.slot_list_append PySem.F.type_list_append mt_append (pv 5) (pa_cons (pe_tup (pa_cons pe_str (pa_cons (pv 7) (pa_cons (pe_tup pa_nil : PE _ _ _) pa_nil))) : PE _ _ _) pa_nil)))) (pss_cons (ps_expr (pe_bm PySem.F.plainAttrs_list PySem.F.slot_list_append PySem.F.type_list_append mt_append (pv 6) (pa_cons (pe_tup (pa_cons pe_str (pa_cons (pv 7) (pa_cons (pe_tup (pa_cons (pe_tup (pa_cons pe_str (pa_cons (pe_ix (r := rIxL K) ix_list (pv 4) pe_int (fun _ _ => rfl)) pa_nil)) : PE _ _ _) pa_nil) : PE _ _ _) pa_nil))) : PE _ _ _) pa_nil)))
    (pss_cons (ps_expr (pe_bm PySem.F.plainAttrs_list PySem.F.slot_list_append PySem.F.type_list_append mt_append (pv 5) (pa_cons (pe_tup (pa_cons pe_str (pa_cons (pv 7) (pa_cons (pe_tup (pa_cons (pe_ix (r := rIxL K) ix_list (pv 5) pe_int (fun _ _ => rfl)) pa_nil) : PE _ _ _) pa_nil))) : PE _ _ _) pa_nil)))
    (pss_one (ps_for PassesOwn.never rfl (pi_tup (pv 2)) (pg_tup rfl (pgs_cons (pg_name (i := 8) sc_law_right.nd rfl (Or.inl rfl)) (pgs_cons (pg_name (i := 9) sc_law_right.nd rfl (Or.inl rfl)) pgs_nil))) (pss_one (ps_if (pt_cmpR op_eq (pv 9) pe_str (nomark _)) (pss_one (ps_expr (pe_bm PySem.F.plainAttrs_list PySem.F.slot_list_append PySem.F.type_list_append mt_append (pv 5) (pa_cons (pe_tup (pa_cons pe_str (pa_cons (pv 7) (pa_cons (pe_tup (pa_cons (pe_tup (pa_cons pe_str (pa_cons (pv 8) (pa_cons (pe_tup pa_nil : PE _ _ _) pa_nil))) : PE _ _ _) pa_nil) : PE _ _ _) pa_nil))) : PE _ _ _) pa_nil)))) pss_nil))))))))⟩
    (pss_consS (ps_ifS ⟨pt_cmpR op_eq (pe_op op_mod (pe_ix (r := rIxL K) ix_list (pv 0) pe_int (fun _ _ => rfl)) pe_int) pe_int (nomark _)⟩ (pss_oneS (ps_retS (pe_tupS (pa_consS ⟨pe_str⟩ (pa_consS (pe_ixS (r := rIxL K) ix_list ⟨pv 4⟩ ⟨pe_int⟩ (fun _ _ => rfl)) (pa_consS ⟨pe_call G_law_shape.ok hr (by rfl) G_law_shape.gl G_law_shape.kp G_law_shape.bd .nil pass0 (pa_cons (pe_slice (r := rSlL K) sl_list (pv 0) (po_some pe_int) (po_some pe_int)) (pa_cons (pv 5) (pa_cons (pv 3) pa_nil)))⟩ (pa_consS ⟨pe_call G_law_shape.ok hr (by rfl) G_law_shape.gl G_law_shape.kp G_law_shape.bd .nil pass0 (pa_cons (pe_slice (r := rSlL K) sl_list (pv 0) (po_some pe_int) (po_some pe_int)) (pa_cons (pe_op op_cat (pv 5) (pv 6)) (pa_cons (pv 3) pa_nil)))⟩ ⟨pa_nil⟩))))))) ⟨pss_nil⟩)
    (pss_oneS (ps_retS ⟨pe_call G_law_shape.ok hr (by rfl) G_law_shape.gl G_law_shape.kp G_law_shape.bd .nil pass0 (pa_cons (pe_slice (r := rSlL K) sl_list (pv 0) (po_some pe_int) (po_some pe_int)) (pa_cons (pv 5) (pa_cons (pv 3) pa_nil)))⟩)))))))), ?_⟩
  have z0 : 0 ≤ sizeLine := Nat.zero_le _
  have d1 : 1 ≤ sizeLine := by decide
  have d2 : 2 ≤ sizeLine := by decide
  have d3 : 3 ≤ sizeLine := by decide
  have d4 : 4 ≤ sizeLine := by decide
  have z3 : (0 : Int) < 3 := by decide
  obtain ⟨c0, hc0⟩ : ∃ c0, cs[0]? = some c0 := ⟨_, List.getElem?_eq_getElem (by omega)⟩
  have at0 : atI (cs.map V.int) 0 = some (.int c0) := atI_nat (j := 0) (by rw [List.getElem?_map, hc0]; rfl)
  have an0 : atI [V.str n0, .str n1] 0 = some (.str n0) := atI_nat (j := 0) rfl
  have an1 : atI [V.str n0, .str n1] 1 = some (.str n1) := atI_nat (j := 1) rfl
  obtain ⟨ks, ek, ndk, lk, mk⟩ := gd.keys
  refine ⟨_, rfl, a, _, 0, _, rfl, rfl, hS, at0, _, _, rfl, rfl, ⟨z3, (show (3 : Int) < 1073741824 by decide)⟩, _, _, rfl, rfl, ⟨by decide, by decide, by decide⟩, _, _, rfl, rfl, (show (0 : Int) < 10 ^ 30 by decide), d2, fun p0 hp0 => ⟨d1, fun ps0 hps0 => ?_⟩⟩
  have k1 : Same H (upd H p0 (.tup [.str "num", .int (c0 / 3 % 10 ^ (30 : Int).toNat)])) := same_upd hp0
  have k2 := same_upd (o := .lst [.ref p0]) hps0
  have hps0H : H ps0 = none := k1.free hps0
  have e0 : (upd (upd H p0 (.tup [.str "num", .int (c0 / 3 % 10 ^ (30 : Int).toNat)])) ps0 (.lst [.ref p0])) p0 = some (.tup [.str "num", .int (c0 / 3 % 10 ^ (30 : Int).toNat)]) := k2 _ _ upd_same
  have l0 : Paired (Rep (upd (upd H p0 (.tup [.str "num", .int (c0 / 3 % 10 ^ (30 : Int).toNat)])) ps0 (.lst [.ref p0]))) [.num (c0 / 3 % 10 ^ (30 : Int).toNat)] [.ref p0] := .cons (show Rep _ (.num _) (.ref p0) from ⟨p0, rfl, e0⟩) .nil
  have e1 : (upd (upd H p0 (.tup [.str "num", .int (c0 / 3 % 10 ^ (30 : Int).toNat)])) ps0 (.lst [.ref p0])) ps0 = some (.lst [.ref p0]) := upd_same
  have k12 : Same H (upd (upd H p0 (.tup [.str "num", .int (c0 / 3 % 10 ^ (30 : Int).toNat)])) ps0 (.lst [.ref p0])) := k1.trans k2
  obtain ⟨m0, hm0⟩ : ∃ m0, m0 = c0 / 3 % 10 ^ (30 : Int).toNat := ⟨_, rfl⟩
  show tSeq _ _ _ _ (upd (upd H p0 (.tup [.str "num", .int (c0 / 3 % 10 ^ (30 : Int).toNat)])) ps0 (.lst [.ref p0]))
  rw [← hm0] at e0 e1 l0 k12 ⊢
  generalize upd (upd H p0 (.tup [.str "num", .int m0])) ps0 (.lst [.ref p0]) = H1 at e0 l0 e1 k12 ⊢
  clear k2 k1 hps0
  apply viaS (fun σ' H' => ∃ (ps : Addr) (us : List V) (lv : List Tr), σ' = [some (.ref a), some (.ref d), some (.ref ka), some (.bl lo), some (.ref nl), some (.ref ps), none, none, none, none] ∧ Same H H' ∧ H ps = none ∧ H' p0 = some (.tup [.str "num", .int m0]) ∧ H' ps = some (.lst (.ref p0 :: us)) ∧ Paired (Rep H') lv (.ref p0 :: us) ∧ lv.length ≤ 3 ∧ (∀ t ∈ lv, t.size = 1) ∧ GS S lv)
  · intro rest
    refine ⟨_, rfl, _, rfl, ite2 (fun _ => ?_) (fun _ => rest _ H1 ⟨ps0, [], _, rfl, k12, hps0H, e0, e1, l0, by simp, ?_, ?_⟩)⟩
    · refine ⟨_, rfl, _, rfl, nl, _, 1, _, rfl, rfl, SqL.of (k12 _ _ hn), an1, d2, fun t1 ht1 => ?_⟩
      have k5 := same_upd (o := .tup [.str "ask", .str n1]) ht1
      refine ⟨_, rfl, nl, _, 0, _, rfl, rfl, SqL.of (k5 _ _ (k12 _ _ hn)), an0, d2, fun t2 ht2 => ⟨d2, fun pl hpl => ?_⟩⟩
      have k6 := same_upd (o := .tup [.str "stop", .str n0]) ht2
      have k7 := same_upd (o := .lst [.ref t1, .ref t2]) hpl
      have k57 := k5.trans (k6.trans k7)
      refine ⟨ps0, pl, _, _, rfl, rfl, k57 _ _ e1, upd_same, line1000 (by simp), fun px hpx => ?_⟩
      have k8 := same_upd (o := .lst ([.ref p0] ++ [.ref t1, .ref t2])) hpx
      have K := k57.trans k8
      refine rest _ _ ⟨px, [.ref t1, .ref t2], [.num m0, .ask n1, .stop n0], rfl, k12.trans K, (k12.trans k57).free hpx, K _ _ e0, upd_same, ?_, Nat.le_refl _, ?_, ?_⟩
      · exact .cons (show Rep _ (.num m0) (.ref p0) from ⟨p0, rfl, K _ _ e0⟩) (.cons (show Rep _ (.ask n1) (.ref t1) from ⟨t1, rfl, k8 _ _ (k7 _ _ (k6 _ _ upd_same))⟩) (.cons (show Rep _ (.stop n0) (.ref t2) from ⟨t2, rfl, k8 _ _ (k7 _ _ upd_same)⟩) .nil))
      · intro t ht
        simp at ht
        rcases ht with rfl | rfl | rfl <;> rfl
      · intro t ht
        simp at ht
        rcases ht with rfl | rfl | rfl <;> exact fun g hg => nomatch hg
    · intro t ht
      rw [List.mem_singleton.mp ht]; rfl
    · intro t ht
      rw [List.mem_singleton.mp ht]; exact fun g hg => nomatch hg
  clear e0 l0 e1 k12 hps0H
  rintro σ' H2 ⟨ps, us, lv, rfl, g2, hps, e0, eps, pl, hl3, h1, hgs⟩
  refine ⟨_, rfl, nl, _, 1, _, rfl, rfl, SqL.of (g2 _ _ hn), an1, d2, fun t1 ht1 => ⟨d1, fun pi hpi => ?_⟩⟩
  have k3 := same_upd (o := .tup [.str "name", .str n1]) ht1
  have k4 := same_upd (o := .lst [.ref t1]) hpi
  have k34 := k3.trans k4
  have R0 : RtA H S p0 m0 3 ps pi (upd (upd H2 t1 (.tup [.str "name", .str n1])) pi (.lst [.ref t1])) := by
    refine ⟨g2.trans k34, hps, (g2.trans k3).free hpi, fun z => ?_, k34 _ _ e0, ⟨us, lv, k34 _ _ eps, Paired.mapP pl fun _ _ z => z.mono k34.tk, hl3, h1, hgs⟩, ⟨[.ref t1], [.name n1], upd_same, .cons (show Rep _ (.name n1) (.ref t1) from ⟨t1, rfl, k4 _ _ upd_same⟩) .nil, by simp, ?_, ?_⟩⟩
    · rw [← z, k3 _ _ eps] at hpi
      cases hpi
    · intro t ht
      rw [List.mem_singleton.mp ht]; rfl
    · intro t ht
      rw [List.mem_singleton.mp ht]; exact fun g hg => nomatch hg
  show tSeq _ _ _ _ (upd (upd H2 t1 (.tup [.str "name", .str n1])) pi (.lst [.ref t1]))
  generalize upd (upd H2 t1 (.tup [.str "name", .str n1])) pi (.lst [.ref t1]) = H3 at R0 ⊢
  clear k34 k4 k3 hpi
  refine ⟨_, rfl, d, kvs, ks, rfl, R0.same _ _ hd, ek, by omega, fun l ss hl pm _ => ?_⟩
  have k5 := same_upd (o := .lst (ss.map V.str)) hl
  have el : (upd H3 l (.lst (ss.map V.str))) l = some (.lst (ss.map V.str)) := upd_same
  have R1 := R0.on k5 (Nat.le_refl _)
  have nls : l ≠ ps := fun z => by
    obtain ⟨us, lv, f, _⟩ := R0.som
    rw [z, f] at hl; cases hl
  have nli : l ≠ pi := fun z => by
    obtain ⟨us, lv, f, _⟩ := R0.inn
    rw [z, f] at hl; cases hl
  generalize upd H3 l (.lst (ss.map V.str)) = H4 at R1 el ⊢
  have lss : ss.length = ks.length := pm.length_eq
  refine ⟨l, rfl, ⟨_, SqL.of el⟩, ?_⟩
  refine for_list (xs := ss.map V.str) (fun i σ' H' => ∃ (s7 s8 s9 : Option V), σ' = [some (.ref a), some (.ref d), some (.ref ka), some (.bl lo), some (.ref nl), some (.ref ps), some (.ref pi), s7, s8, s9] ∧ RtA H S p0 m0 (3 + 5 * i) ps pi H' ∧ H' l = some (.lst (ss.map V.str))) ?_ ?_ ?_ ?_
  · exact ⟨none, none, none, rfl, R1, el⟩
  · rintro i σ' H' _ ⟨s7, s8, s9, rfl, R, el'⟩
    exact SqL.of el'
  · rintro i x σ' H' hx ⟨s7, s8, s9, rfl, R, el'⟩
    rw [List.getElem?_map] at hx
    obtain ⟨y, hy, rfl⟩ := Option.map_eq_some_iff.mp hx
    have hi : i < ss.length := (List.getElem?_eq_some_iff.mp hy).1
    have hyS : y ∈ S := (mk y).mp (pm.mem_iff.mp (List.mem_of_getElem? hy))
    have one : ∀ {as : List Atom} (g : Str), g ∈ (Tr.gap y as).gps → g ∈ S := fun g hg => by rw [List.mem_singleton.mp hg]; exact hyS
    obtain ⟨n, hn'⟩ := gd.int hyS
    have gv : DGet H' d (.str y) (some (.int n)) := .inl ⟨kvs, Sum.inr y, .inl (R.same _ _ hd), rfl, hn'.symm⟩
    refine ⟨_, rfl, _, rfl, d, _, rfl, gv, rfl, _, rfl, ite2 (fun _ => ?_) (fun _ => ?_)⟩
    · obtain ⟨us, lv, f1, _⟩ := R.som
      refine ⟨_, rfl, .inl ⟨rfl, _, SqL.of f1⟩, _, rfl, z0, fun e he => ⟨d3, fun t ht => ?_⟩⟩
      have k6 := same_upd (o := .tup []) he
      have k7 := same_upd (o := .tup [.str "gap", .str y, .ref e]) ht
      have R2 := R.on (k6.trans k7) (Nat.le_refl _)
      obtain ⟨us2, f2, f3, R3⟩ := R2.addS (leaf_gap (g := y) (t := t) (e := e) upd_same (k7 _ _ upd_same)) rfl one
      refine ⟨ps, us2, _, rfl, rfl, f2, small1000 (by omega), _, _, _, rfl, R3.on (.refl _) (by omega), ?_⟩
      rw [upd_ne nls]
      exact k7 _ _ (k6 _ _ el')
    · obtain ⟨us, lv, f1, _⟩ := R.inn
      refine ⟨_, rfl, .inl ⟨rfl, _, SqL.of f1⟩, _, rfl, _, rfl, nl, _, 1, _, rfl, rfl, SqL.of (R.same _ _ hn), an1, d2, fun b hb => ⟨d1, fun e he => ⟨d3, fun t ht => ?_⟩⟩⟩
      have k6 := same_upd (o := .tup [.str "name", .str n1]) hb
      have k7 := same_upd (o := .tup [.ref b]) he
      have k8 := same_upd (o := .tup [.str "gap", .str y, .ref e]) ht
      have R2 := R.on (k6.trans (k7.trans k8)) (Nat.le_refl _)
      obtain ⟨us2, f2, f3, R3⟩ := R2.addI (leaf_gap1 (g := y) (t := t) (e := e) (a := .name n1) (v := .ref b) upd_same (k8 _ _ upd_same) ⟨b, rfl, k8 _ _ (k7 _ _ upd_same)⟩) rfl one
      refine ⟨pi, us2, _, rfl, rfl, f2, small1000 (by omega), ?_⟩
      have el5 : (upd (upd (upd (upd H' b (.tup [.str "name", .str n1])) e (.tup [.ref b])) t (.tup [.str "gap", .str y, .ref e])) pi (.lst (us2 ++ [.ref t]))) l = some (.lst (ss.map V.str)) := by
        rw [upd_ne nli]
        exact k8 _ _ (k7 _ _ (k6 _ _ el'))
      generalize upd (upd (upd (upd H' b (.tup [.str "name", .str n1])) e (.tup [.ref b])) t (.tup [.str "gap", .str y, .ref e])) pi (.lst (us2 ++ [.ref t])) = H5 at R3 el5 ⊢
      clear k6 k7 k8 R2 f2
      obtain ⟨us, lv, f1, _⟩ := R3.som
      have at00 : atI (V.ref p0 :: us) 0 = some (.ref p0) := atI_nat (j := 0) rfl
      refine ⟨_, rfl, .inl ⟨rfl, _, SqL.of f1⟩, _, rfl, _, rfl, ps, _, 0, _, rfl, rfl, SqL.of f1, at00, d1, fun e he => ⟨d3, fun t ht => ?_⟩⟩
      have k7 := same_upd (o := .tup [.ref p0]) he
      have k8 := same_upd (o := .tup [.str "gap", .str y, .ref e]) ht
      have R4 := R3.on (k7.trans k8) (Nat.le_refl _)
      obtain ⟨us2, f2, f3, R5⟩ := R4.addS (leaf_gap1 (g := y) (t := t) (e := e) (a := .num m0) (v := .ref p0) upd_same (k8 _ _ upd_same) ⟨p0, rfl, R4.num⟩) rfl one
      refine ⟨ps, us2, _, rfl, rfl, f2, small1000 (by omega), ?_⟩
      have el6 : (upd (upd (upd H5 e (.tup [.ref p0])) t (.tup [.str "gap", .str y, .ref e])) ps (.lst (us2 ++ [.ref t]))) l = some (.lst (ss.map V.str)) := by
        rw [upd_ne nls]
        exact k8 _ _ (k7 _ _ el5)
      generalize upd (upd (upd H5 e (.tup [.ref p0])) t (.tup [.str "gap", .str y, .ref e])) ps (.lst (us2 ++ [.ref t])) = H6 at R5 el6 ⊢
      clear k7 k8 R4 f2
      have lys : ys.length = kds.length := by have := Paired.length pka; rw [this]; unfold kdV; simp
      have sqk : ∀ {H9 : Hp}, Same H H9 → SqT K H9 ka ys := fun g => .inl (.inr ⟨o, g _ _ eka⟩)
      refine ⟨_, rfl, ka, rfl, ⟨ys, sqk R5.same⟩, ?_⟩
      refine for_tup (xs := ys) (fun j σ' H' => ∃ (s8 s9 : Option V), σ' = [some (.ref a), some (.ref d), some (.ref ka), some (.bl lo), some (.ref nl), some (.ref ps), some (.ref pi), some (.str y), s8, s9] ∧ RtA H S p0 m0 (3 + 5 * i + 1 + 1 + j) ps pi H' ∧ H' l = some (.lst (ss.map V.str))) ?_ ?_ ?_ ?_
      · exact ⟨s8, s9, rfl, R5, el6⟩
      · rintro j σ' H7 _ ⟨s8, s9, rfl, R, el'⟩
        exact sqk R.same
      · rintro j x σ' H7 hx ⟨s8, s9, rfl, R, el'⟩
        have hj : j < ys.length := (List.getElem?_eq_some_iff.mp hx).1
        obtain ⟨⟨g', kd⟩, hkd, b, eb, hb⟩ : ∃ q : Str × Str, kds[j]? = some q ∧ ∃ b, x = .ref b ∧ H b = some (.tup [.str q.1, .str q.2]) := by
          have hj2 : j < (kdV kds).length := by rw [← Paired.length pka]; exact hj
          obtain ⟨kv, hkv⟩ : ∃ kv, (kdV kds)[j]? = some kv := ⟨_, List.getElem?_eq_getElem hj2⟩
          obtain ⟨x', hx', b, eb, hb⟩ := paired_getP pka hkv
          have : x' = x := Option.some.inj (hx'.symm.trans hx)
          subst this
          unfold kdV at hkv
          rw [List.getElem?_map] at hkv
          obtain ⟨q, hq, rfl⟩ := Option.map_eq_some_iff.mp hkv
          exact ⟨q, hq, b, eb, hb⟩
        subst eb
        dsimp only at hb
        refine ⟨b, _, rfl, SqT.of (R.same _ _ hb), rfl, _, _, rfl, _, _, rfl, rfl, ?_⟩
        refine ⟨_, rfl, rfl, _, rfl, ite2 (fun _ => ?_) (fun _ => ?_)⟩
        · obtain ⟨us, lv, f1, _⟩ := R.som
          refine ⟨_, rfl, .inl ⟨rfl, _, SqL.of f1⟩, _, rfl, _, rfl, z0, fun e0 he0 => ⟨d3, fun t0 ht0 => ⟨d1, fun e he => ⟨d3, fun t ht => ?_⟩⟩⟩⟩
          have k5 := same_upd (o := .tup []) he0
          have k6 := same_upd (o := .tup [.str "gap", .str g', .ref e0]) ht0
          have k7 := same_upd (o := .tup [.ref t0]) he
          have k8 := same_upd (o := .tup [.str "gap", .str y, .ref e]) ht
          have R4 := R.on (k5.trans (k6.trans (k7.trans k8))) (Nat.le_refl _)
          obtain ⟨us2, f2, f3, R5⟩ := R4.addS (leaf_gap1 (g := y) (t := t) (e := e) (a := .gap g') (v := .ref t0) upd_same (k8 _ _ upd_same) ⟨t0, e0, rfl, k8 _ _ (k7 _ _ upd_same), k8 _ _ (k7 _ _ (k6 _ _ upd_same))⟩) rfl one
          refine ⟨ps, us2, _, rfl, rfl, f2, small1000 (by omega), _, _, rfl, R5, ?_⟩
          rw [upd_ne nls]
          exact k8 _ _ (k7 _ _ (k6 _ _ (k5 _ _ el')))
        · exact ⟨_, _, rfl, R.on (.refl _) (by omega), el'⟩
      · rintro σ' H7 ⟨s8, s9, rfl, R, el'⟩
        exact ⟨_, _, _, rfl, R.on (.refl _) (by omega), el'⟩
  · rintro σ' H' ⟨s7, s8, s9, rfl, R, el'⟩
    rw [List.length_map] at R
    obtain ⟨us, lv, eps, pl, hl, h1, hgs⟩ := R.som
    obtain ⟨ui, li, epi, pi', hli, hi1, hig⟩ := R.inn
    have hlv : 1 ≤ lv.length := by have := paired_len pl; rw [← this]; simp
    have lus : (V.ref p0 :: us).length = lv.length := paired_len pl
    have lui : ui.length = li.length := paired_len pi'
    refine ⟨_, rfl, a, _, 0, _, rfl, rfl, R.same.seq hS, at0, _, _, rfl, rfl, z3, rfl, _, rfl, ite2 (fun _ => ?_) (fun _ => ?_)⟩
    · obtain ⟨ms, em, lm⟩ := ints_cut (H := H) (K := K) cs 1 2
      obtain ⟨ms2, em2, lm2⟩ := ints_cut (H := H) (K := K) cs 2 5
      refine ⟨_, rfl, nl, _, 1, _, rfl, rfl, SqL.of (R.same _ _ hn), an1, _, rfl, 1, rfl, 2, rfl, a, _, rfl, R.same.seq hS, fun px hpx => ?_⟩
      rw [show cutV (cs.map V.int) (some 1) (some 2) = ms.map V.int from em]
      have k1 := same_upd (o := .lst (ms.map V.int)) hpx
      have x1 : (upd H' px (.lst (ms.map V.int))) px = some (.lst (ms.map V.int)) := upd_same
      generalize upd H' px (.lst (ms.map V.int)) = H8 at k1 x1 ⊢
      refine ⟨_, rfl, _, rfl, px, ps, lo, ms, _, lv, S, rfl, SqL.of x1, by omega, k1 _ _ eps, Paired.mapP pl (fun _ _ z => z.mono k1.tk), hlv, by omega, h1, hgs, fun ta va H9 g9 ra sa ga => ?_⟩
      have g19 := k1.trans g9
      refine ⟨_, rfl, 2, rfl, 5, rfl, a, _, rfl, (R.same.trans g19).seq hS, fun py hpy => ?_⟩
      rw [show cutV (cs.map V.int) (some 2) (some 5) = ms2.map V.int from em2]
      have k2 := same_upd (o := .lst (ms2.map V.int)) hpy
      have x2 : (upd H9 py (.lst (ms2.map V.int))) py = some (.lst (ms2.map V.int)) := upd_same
      generalize upd H9 py (.lst (ms2.map V.int)) = H10 at k2 x2 ⊢
      have g110 := g19.trans k2
      refine ⟨_, rfl, _, rfl, ps, pi, _, ui, rfl, rfl, g110 _ _ eps, g110 _ _ epi, line1000 (by simp at lus ⊢; omega), fun pz hpz => ?_⟩
      have k3 := same_upd (o := .lst ((V.ref p0 :: us) ++ ui)) hpz
      have x3 : (upd H10 pz (.lst ((V.ref p0 :: us) ++ ui))) pz = some (.lst ((V.ref p0 :: us) ++ ui)) := upd_same
      generalize upd H10 pz (.lst ((V.ref p0 :: us) ++ ui)) = H11 at k3 x3 ⊢
      have g111 := g110.trans k3
      refine ⟨_, rfl, py, pz, lo, ms2, _, lv ++ li, S, rfl, SqL.of (k3 _ _ x2), by omega, x3, paired_append (us := V.ref p0 :: us) (Paired.mapP pl fun _ _ z => z.mono g111.tk) (Paired.mapP pi' fun _ _ z => z.mono g111.tk), by simp; omega, by simp; omega, ?_, hgs.app hig, fun tb vb H12 g12 rb sb gb => ⟨d4, fun pt hpt => ?_⟩⟩
      · intro t ht
        rcases List.mem_append.mp ht with h | h
        · exact h1 t h
        · exact hi1 t h
      · have g13 := same_upd (o := .tup [.str "let", .str n1, va, vb]) hpt
        have gB := k2.trans (k3.trans (g12.trans g13))
        refine q (.lett n1 ta tb) (.ref pt) _ (R.same.trans (g19.trans gB)) ⟨pt, va, vb, rfl, upd_same, ra.mono gB.tk, rb.mono g13.tk⟩ ?_ fun g hg => (List.mem_append.mp hg).elim (ga g) (gb g)
        show ta.size + tb.size + 1 ≤ 40
        omega
    · obtain ⟨ms, em, lm⟩ := ints_cut (H := H) (K := K) cs 1 6
      refine ⟨_, rfl, 1, rfl, 6, rfl, a, _, rfl, R.same.seq hS, fun px hpx => ?_⟩
      rw [show cutV (cs.map V.int) (some 1) (some 6) = ms.map V.int from em]
      have k1 := same_upd (o := .lst (ms.map V.int)) hpx
      have x1 : (upd H' px (.lst (ms.map V.int))) px = some (.lst (ms.map V.int)) := upd_same
      generalize upd H' px (.lst (ms.map V.int)) = H8 at k1 x1 ⊢
      exact ⟨_, rfl, _, rfl, px, ps, lo, ms, _, lv, S, rfl, SqL.of x1, by omega, k1 _ _ eps, Paired.mapP pl (fun _ _ z => z.mono k1.tk), hlv, by omega, h1, hgs, fun ta va H9 g9 ra sa ga => q ta va H9 (R.same.trans (k1.trans g9)) ra (by omega) ga⟩
end
end K21
set_option Elab.async false
set_option linter.all false
set_option maxRecDepth 100000
set_option maxHeartbeats 4000000
namespace L2
open PySem
theorem ints_cutE (ns : List Int) (i j : Nat) (hj : j ≤ ns.length) (hij : i ≤ j) : ∃ ms : List Int, cutV (ns.map V.int) (some (i : Int)) (some (j : Int)) = ms.map V.int ∧ ms.length = j - i := by
  refine ⟨(ns.drop (HT.sIx ns.length 0 (some (i : Int)))).take (HT.sIx ns.length ns.length (some (j : Int)) - HT.sIx ns.length 0 (some (i : Int))), ?_, ?_⟩
  · unfold cutV
    rw [List.length_map, ← List.map_drop, ← List.map_take]
  · rw [List.length_take, List.length_drop, HT.sIx_nat, HT.sIx_nat]
    omega
def dueP (ρ : Kd → List Nat) (t1 t2 : Tr) (kds : List (Str × Str)) : Prop := wrt ρ t2 < wrt ρ t1 ∧ ∀ g ∈ t1.gps, (g, ("number" : Str)) ∉ kds → gw ρ g t2 ≤ gw ρ g t1
theorem fall_due {ρ : Kd → List Nat} {t1 t2 : Tr} {kds : List (Str × Str)} (h : ∀ g ∈ t2.gps, g ∈ t1.gps) : fallP ρ t1 t2 kds ↔ dueP ρ t1 t2 kds := by
  refine and_congr Iff.rfl ⟨fun a g _ hn => a g hn, fun a g hn => ?_⟩
  by_cases z : g ∈ t1.gps
  · exact a g z hn
  · rw [gw_none ρ (fun y => z (h g y))]
    exact Nat.zero_le _
def kdD (kds : List (Str × Str)) : List Dt := kds.map fun p => .tup [.str p.1, .str p.2]
theorem kd_drs {H : Hp} : ∀ {kds : List (Str × Str)} {ys : List V}, Paired (PrV H) ys (kdV kds) → DRs H (kdD kds) ys
  | [], _, h => by
    cases h
    exact .nil
  | p :: kds, _, h => by
    cases h with
    | cons r q =>
      obtain ⟨b, rfl, hb⟩ := r
      exact .cons (.tup hb (.cons (.str _) (.cons (.str _) .nil))) (kd_drs q)
theorem kd_deep : ∀ kds : List (Str × Str), Dt.deeps (kdD kds) ≤ 1
  | [] => Nat.zero_le _
  | p :: kds => by
    have ih := kd_deep kds
    show max (Dt.deep (.tup [.str p.1, .str p.2])) (Dt.deeps (kdD kds)) ≤ 1
    exact Nat.max_le.mpr ⟨by simp [Dt.deep, Dt.deeps], ih⟩
theorem kd_any (kds : List (Str × Str)) (g k : Str) : ((kdD kds).any fun d => Dt.beq d (.tup [.str g, .str k])) = true ↔ (g, k) ∈ kds := by
  rw [List.any_eq_true]
  constructor
  · rintro ⟨d, hd, e⟩
    obtain ⟨p, hp, rfl⟩ := List.mem_map.mp hd
    have := Dt.beq_iff.mp e
    simp at this
    rw [← this.1, ← this.2]
    exact hp
  · intro h
    exact ⟨_, List.mem_map.mpr ⟨(g, k), h, rfl⟩, Dt.beq_iff.mpr rfl⟩
theorem we_two (g x : Str) : (valV (mergeK [] [((Sum.inr g : Key), V.int 2)]) (Sum.inr x : Key)).getD (.int 1) = .int (((if x = g then 2 else 1 : Nat)) : Int) := by
  show (valV (putK [] (Sum.inr g : Key) (V.int 2)) (Sum.inr x : Key)).getD (.int 1) = _
  rw [valV_put]
  by_cases h : x = g
  · rw [if_pos (by rw [h]), if_pos h]; rfl
  · rw [if_neg (fun z => h (Sum.inr.inj z)), if_neg h]; rfl
end L2
namespace K21
open PySem PySem.Spec L2 PyProof.Rows
abbrev s_law_rule : Stmt := top 31
theorem sc_law_rule : FnScope ["_law_cells", "_law_gaps_here", "_law_names", "_law_left_here", "_law_there", "_law_kinds_here"] ["_law_cells", "_law_gaps_here", "_law_names"] (defScope s_law_rule) := ⟨rfl, rfl, rfl, by decide +kernel, rfl, by decide +kernel, by decide +kernel⟩
abbrev s_law_due : Stmt := top 33
theorem sc_law_due : FnScope ["_law_rule_here", "_law_scale_here", "_law_spare", "_law_gap", "_law_more"] ["_law_rule_here", "_law_scale_here"] (defScope s_law_due) := ⟨rfl, rfl, rfl, by decide +kernel, rfl, by decide +kernel, by decide +kernel⟩
section
variable {P : Program} {w : World} {K : PySem.W.Frag} {mg : Str → Option Value} {base : Heap}
def sp_rule (K : PySem.W.Frag) : Sp := fun vs H Q _ => ∃ (a gl nl : Addr) (cs : List Int) (w0 w1 w2 n0 n1 : Str), vs = [.ref a, .ref gl, .ref nl] ∧ SqL K H a (cs.map V.int) ∧ cs.length = 14 ∧ H gl = some (.lst [.str w0, .str w1, .str w2]) ∧ H nl = some (.lst [.str n0, .str n1]) ∧
  ∀ (r : Addr) (t1 t2 : Tr) (kds : List (Str × Str)) (H' : Hp), Same H H' → RuleAt H' r t1 t2 kds → t1.size ≤ 40 → t2.size ≤ 40 → (kds.map (·.1)).Nodup → kds.length ≤ 3 → (∀ g ∈ t2.gps, g ∈ t1.gps) → Q (.ref r) H'
theorem ok_rule {k : Nat} {f g1 g2 g3 g4 g5 : Addr} {fd gd1 gd2 gd3 gd4 gd5 : FuncData} (F : Fun K "_law_rule" "_law_rule" s_law_rule f fd) (G_law_left : FnB P w K mg base k "_law_left" g1 gd1 ["_law_cells", "_law_gaps_here", "_law_names"] (sp_left K)) (G_law_gaps : FnB P w K mg base k "_law_gaps" g2 gd2 ["_law_shape_here"] (sp_gaps 122))
    (G_law_kinds : FnB P w K mg base k "_law_kinds" g3 gd3 ["_law_there", "_law_cell"] sp_kinds) (G_law_right : FnB P w K mg base k "_law_right" g4 gd4 ["_law_cells", "_law_there", "_law_kinds_here", "_law_loud", "_law_names"] (sp_right K)) (G_law_is_loud : FnB P w K mg base k "_law_is_loud" g5 gd5 ["_law_shape_here"] (sp_loud 122)) :
    FnOk P w K mg base CX0 (k + 1) f fd ["_law_cells", "_law_gaps_here", "_law_names"] (sp_rule K) := by
  refine F.ok sc_law_rule (fun vs H Q E h => ?_) (fun cdv A outer s H vs Q E hr h => ?_)
  · obtain ⟨a, gl, nl, cs, w0, w1, w2, n0, n1, rfl, _⟩ := h
    rfl
  obtain ⟨a, gl, nl, cs, w0, w1, w2, n0, n1, rfl, hS, hcs, hg, hn, q⟩ := h
  refine ⟨_, (pss_cons (ps_set (i := 3) sc_law_rule.nd rfl (Or.inl rfl) (pe_call G_law_left.ok hr (by rfl) G_law_left.gl G_law_left.kp G_law_left.bd .nil pass0 (pa_cons (pe_slice (r := rSlL K) sl_list (pv 0) (po_some pe_int) (po_some pe_int)) (pa_cons (pv 1) (pa_cons (pv 2) pa_nil)))))
    (pss_cons (ps_set (i := 4) sc_law_rule.nd rfl (Or.inl rfl) (pe_call G_law_gaps.ok hr (by rfl) G_law_gaps.gl G_law_gaps.kp G_law_gaps.bd .nil pass0 (pa_cons (pv 3) pa_nil)))
    (pss_cons (ps_set (i := 5) sc_law_rule.nd rfl (Or.inl rfl) (pe_call G_law_kinds.ok hr (by rfl) G_law_kinds.gl G_law_kinds.kp G_law_kinds.bd .nil pass0 (pa_cons (pv 4) (pa_cons (pe_ix (r := rIxL K) ix_list (pv 0) pe_int (fun _ _ => rfl)) pa_nil))))
    (pss_one (ps_ret (pe_tup (pa_cons (pv 3) (pa_cons (pe_call G_law_right.ok hr (by rfl) G_law_right.gl G_law_right.kp G_law_right.bd .nil pass0 (pa_cons (pe_slice (r := rSlL K) sl_list (pv 0) (po_some pe_int) (po_some pe_int)) (pa_cons (pv 4) (pa_cons (pv 5) (pa_cons (pe_call G_law_is_loud.ok hr (by rfl) G_law_is_loud.gl G_law_is_loud.kp G_law_is_loud.bd .nil pass0 (pa_cons (pv 3) pa_nil)) (pa_cons (pv 2) pa_nil)))))) (pa_cons (pv 5) pa_nil))) : PE _ _ _)))))), ?_⟩
  obtain ⟨ms, em, lm⟩ := ints_cutE cs 0 7 (by omega) (by omega)
  obtain ⟨ms2, em2, lm2⟩ := ints_cutE cs 8 14 (by omega) (by omega)
  obtain ⟨c7, hc7⟩ : ∃ c7, cs[7]? = some c7 := ⟨_, List.getElem?_eq_getElem (by omega)⟩
  have at7 : atI (cs.map V.int) 7 = some (.int c7) := atI_nat (j := 7) (by rw [List.getElem?_map, hc7]; rfl)
  refine ⟨_, rfl, 0, rfl, 7, rfl, a, _, rfl, hS, fun p1 hp1 => ?_⟩
  rw [show cutV (cs.map V.int) (some 0) (some 7) = ms.map V.int from em]
  have k1 := same_upd (o := .lst (ms.map V.int)) hp1
  have x1 : (upd H p1 (.lst (ms.map V.int))) p1 = some (.lst (ms.map V.int)) := upd_same
  generalize upd H p1 (.lst (ms.map V.int)) = H1 at k1 x1 ⊢
  refine ⟨_, rfl, _, rfl, p1, gl, nl, ms, w0, w1, w2, n0, n1, rfl, SqL.of x1, by omega, k1 _ _ hg, k1 _ _ hn, fun t1 v1 H2 g2 r1 s1 gs1 => ?_⟩
  have g12 := k1.trans g2
  refine ⟨_, rfl, t1, v1, rfl, by omega, by omega, r1, fun d kvs H3 g3 hd0 ed gd le => ?_⟩
  have g13 := g12.trans g3
  obtain ⟨ks, ek, ndk, lk, mk⟩ := gd.keys
  have hk3 : kvs.length ≤ 3 := by
    have := nodup_le (T := [w0, w1, w2]) ndk fun g hg => gs1 g ((mk g).mp hg)
    simp at this
    omega
  refine ⟨_, rfl, _, rfl, a, _, 7, _, rfl, rfl, g13.seq hS, at7, d, c7, t1.gps, kvs, rfl, ed, gd, by omega, fun ka kds H4 g4 kat nd lkd => ?_⟩
  have g14 := g13.trans g4
  have r14 := r1.mono (g3.trans g4).tk
  refine ⟨_, rfl, _, rfl, 8, rfl, 14, rfl, a, _, rfl, g14.seq hS, fun p2 hp2 => ?_⟩
  rw [show cutV (cs.map V.int) (some 8) (some 14) = ms2.map V.int from em2]
  have k5 := same_upd (o := .lst (ms2.map V.int)) hp2
  have x5 : (upd H4 p2 (.lst (ms2.map V.int))) p2 = some (.lst (ms2.map V.int)) := upd_same
  generalize upd H4 p2 (.lst (ms2.map V.int)) = H5 at k5 x5 ⊢
  refine ⟨_, rfl, _, rfl, _, rfl, t1, v1, rfl, by omega, r14.mono k5.tk, fun lo H6 g6 => ?_⟩
  have g46 := k5.trans g6
  have kat6 : KdsAt H6 ka kds := by
    obtain ⟨o, ys, h1, h2, h3⟩ := kat
    exact ⟨o, ys, g46 _ _ h1, h2, Paired.mapP h3 fun _ _ z => prv_mono g46.tk z⟩
  refine ⟨_, rfl, p2, d, ka, nl, lo, ms2, t1.gps, kvs, kds, n0, n1, rfl, SqL.of (g6 _ _ x5), by omega, g46 _ _ (g4 _ _ ed), gd, hk3, kat6, by omega, (g14.trans g46) _ _ hn, fun t2 v2 H7 g7 r2 s2 gs2 => ?_⟩
  refine ⟨_, rfl, (by show 3 ≤ sizeLine; decide), fun r hr' => ?_⟩
  have g8 := same_upd (o := .tup [v1, v2, .ref ka]) hr'
  have g78 := g7.trans g8
  refine q r t1 t2 kds _ (g14.trans (g46.trans g78)) ?_ s1 s2 nd (by omega) gs2
  obtain ⟨o, ys, h1, h2, h3⟩ := kat6
  exact ⟨v1, v2, ka, o, ys, upd_same, r14.mono (g46.trans g78).tk, r2.mono g8.tk, g78 _ _ h1, h2, Paired.mapP h3 fun _ _ z => prv_mono g78.tk z⟩
def sp_due : Sp := fun vs H Q _ => ∃ (r d : Addr) (t1 t2 : Tr) (kds : List (Str × Str)) (rs : Scl), vs = [.ref r, .ref d] ∧ RuleAt H r t1 t2 kds ∧ t1.size ≤ 40 ∧ t2.size ≤ 40 ∧ ScAt H d rs ∧
  ∀ (b : Bool) (H' : Hp), Same H H' → (b = true ↔ dueP (rowF rs) t1 t2 kds) → Q (.bl b) H'
theorem ok_due {k : Nat} {f g1 g2 : Addr} {fd gd1 gd2 : FuncData} (F : Fun K "_law_due" "_law_due" s_law_due f fd) (z_sorted : mg "sorted" = none) (G_law_worth : FnB P w K mg base k "_law_worth" g1 gd1 ["_law_tree", "_law_scale_here", "_law_worths"] (sp_lworth 122)) (G_law_gaps : FnB P w K mg base k "_law_gaps" g2 gd2 ["_law_shape_here"] (sp_gaps 122)) :
    FnOk P w K mg base CX0 (k + 1) f fd ["_law_rule_here", "_law_scale_here"] sp_due := by
  refine F.ok sc_law_due (fun vs H Q E h => ?_) (fun cdv A outer s H vs Q E hr h => ?_)
  · obtain ⟨r, d, t1, t2, kds, rs, rfl, _⟩ := h
    rfl
  obtain ⟨r, d, t1, t2, kds, rs, rfl, hR, hs1, hs2, hsc, q⟩ := h
  have hu5 := hu150 hr
  have gF : GoodF (rowF rs) := by obtain ⟨kvs, sc⟩ := hsc; exact rowF_good (good_of sc.ps)
  refine ⟨_, (Sd.un (pss_consS (ps_setS (i := 2) sc_law_due.nd rfl (Or.inl rfl) ⟨pe_op op_sub (pe_call G_law_worth.ok hr (by rfl) G_law_worth.gl G_law_worth.kp G_law_worth.bd .nil pass0 (pa_cons (pe_ix (r := rIxT K) ix_tup (pv 0) pe_int (fun _ _ => rfl)) (pa_cons (pv 1) (pa_cons pe_dnewK pa_nil)))) (pe_call G_law_worth.ok hr (by rfl) G_law_worth.gl G_law_worth.kp G_law_worth.bd .nil pass0 (pa_cons (pe_ix (r := rIxT K) ix_tup (pv 0) pe_int (fun _ _ => rfl)) (pa_cons (pv 1) (pa_cons pe_dnewK pa_nil))))⟩)
    (pss_consS ⟨ps_for PassesOwn.never rfl (pi_list (pe_callB (call_sortedD rfl) (by rfl) z_sorted PyProof.Rows.boot_sorted (pa_cons (pe_call G_law_gaps.ok hr (by rfl) G_law_gaps.gl G_law_gaps.kp G_law_gaps.bd .nil pass0 (pa_cons (pe_ix (r := rIxT K) ix_tup (pv 0) pe_int (fun _ _ => rfl)) pa_nil)) pa_nil))) (pg_name (i := 3) sc_law_due.nd rfl (Or.inl rfl)) (pss_one (ps_if (pt_cmpR (op_notInTD hu5) (pe_tup (pa_cons (pv 3) (pa_cons pe_str pa_nil)) : PE _ _ _) (pe_ix (r := rIxT K) ix_tup (pv 0) pe_int (fun _ _ => rfl)) rfl) (pss_cons (ps_set (i := 4) sc_law_due.nd rfl (Or.inl rfl) (pe_op op_sub (pe_call G_law_worth.ok hr (by rfl) G_law_worth.gl G_law_worth.kp G_law_worth.bd .nil pass0 (pa_cons (pe_ix (r := rIxT K) ix_tup (pv 0) pe_int (fun _ _ => rfl)) (pa_cons (pv 1) (pa_cons (pe_disp (pps_cons (pv 3) pe_int pps_nil) rfl rfl (by simp) (by decide)) pa_nil)))) (pe_call G_law_worth.ok hr (by rfl) G_law_worth.gl G_law_worth.kp G_law_worth.bd .nil pass0 (pa_cons (pe_ix (r := rIxT K) ix_tup (pv 0) pe_int (fun _ _ => rfl)) (pa_cons (pv 1) (pa_cons (pe_disp (pps_cons (pv 3) pe_int pps_nil) rfl rfl (by simp) (by decide)) pa_nil))))))
    (pss_one (ps_if (pt_cmpR op_lt (pv 4) (pv 2) (nomark _)) (pss_one (ps_ret pe_bl)) pss_nil))) pss_nil))⟩
    (pss_oneS (ps_retS ⟨pe_cmpR op_ge (pv 2) pe_int (nomark _)⟩))))), ?_⟩
  have d2 : 2 ≤ sizeLine := by decide
  obtain ⟨u1, u2, ka, o, ys, er, r1, r2, ek, hdn, pk⟩ := hR
  have at0 : atI [u1, u2, V.ref ka] 0 = some u1 := atI_nat (j := 0) rfl
  have at1 : atI [u1, u2, V.ref ka] 1 = some u2 := atI_nat (j := 1) rfl
  have at2 : atI [u1, u2, V.ref ka] 2 = some (.ref ka) := atI_nat (j := 2) rfl
  refine ⟨_, rfl, r, _, 0, _, rfl, rfl, SqT.of er, at0, _, rfl, fun e1 he1 => ?_⟩
  have k1 := same_upd (o := .dK []) he1
  have x1 : (upd H e1 (.dK [])) e1 = some (.dK []) := upd_same
  generalize upd H e1 (.dK []) = H1 at k1 x1 ⊢
  refine ⟨t1, u1, d, e1, rs, [], fun _ => 1, rfl, by omega, by omega, r1.mono k1.tk, hsc.mono k1.sf, x1, (fun g => rfl), (fun g => (by show 1 ≤ 2; decide)), fun H2 g2 => ?_⟩
  have g12 := k1.trans g2
  refine ⟨_, rfl, r, _, 1, _, rfl, rfl, SqT.of (g12 _ _ er), at1, _, rfl, fun e2 he2 => ?_⟩
  have k3 := same_upd (o := .dK []) he2
  have x3 : (upd H2 e2 (.dK [])) e2 = some (.dK []) := upd_same
  generalize upd H2 e2 (.dK []) = H3 at k3 x3 ⊢
  have g13 := g12.trans k3
  refine ⟨t2, u2, d, e2, rs, [], fun _ => 1, rfl, by omega, by omega, r2.mono g13.tk, hsc.mono g13.sf, x3, (fun g => rfl), (fun g => (by show 1 ≤ 2; decide)), fun H4 g4 => ?_⟩
  have g14 := g13.trans g4
  rw [wW_one gF, wW_one gF]
  refine ⟨_, _, rfl, rfl, ?_⟩
  refine ⟨_, rfl, r, _, 0, _, rfl, rfl, SqT.of (g14 _ _ er), at0, t1, u1, rfl, by omega, by omega, r1.mono g14.tk, fun dg kvs H5 g5 hdg ed gd le => ?_⟩
  obtain ⟨ks, ekk, ndk, lk, mk⟩ := gd.keys
  refine ⟨dg, kvs, ks, rfl, ed, ekk, by omega, fun l ss hl pm _ => ?_⟩
  have k6 := same_upd (o := .lst (ss.map V.str)) hl
  have el : (upd H5 l (.lst (ss.map V.str))) l = some (.lst (ss.map V.str)) := upd_same
  generalize upd H5 l (.lst (ss.map V.str)) = H6 at k6 el ⊢
  have g16 := g14.trans (g5.trans k6)
  have mss : ∀ g, g ∈ ss ↔ g ∈ t1.gps := fun g => pm.mem_iff.trans (mk g)
  refine ⟨l, rfl, ⟨_, SqL.of el⟩, ?_⟩
  refine for_list (xs := ss.map V.str) (fun i σ' H' => ∃ (s3 s4 : Option V), σ' = [some (.ref r), some (.ref d), some (.int (((wrt (rowF rs) t1 : Nat) : Int) - ((wrt (rowF rs) t2 : Nat) : Int))), s3, s4] ∧ Same H6 H' ∧ ∀ g ∈ ss.take i, (g, ("number" : Str)) ∉ kds → gw (rowF rs) g t2 ≤ gw (rowF rs) g t1) ?_ ?_ ?_ ?_
  · exact ⟨none, none, rfl, .refl _, (fun g hg => nomatch hg)⟩
  · rintro i σ' H' _ ⟨s3, s4, rfl, g, _⟩
    exact SqL.of (g _ _ el)
  · rintro i x σ' H' hx ⟨s3, s4, rfl, g7, hall⟩
    rw [List.getElem?_map] at hx
    obtain ⟨y, hy, rfl⟩ := Option.map_eq_some_iff.mp hx
    have htk := take_next hy
    have g17 := g16.trans g7
    refine ⟨_, rfl, d2, fun pt hpt => ?_⟩
    have k8 := same_upd (o := .tup [.str y, .str "number"]) hpt
    have x8 : (upd H' pt (.tup [.str y, .str "number"])) pt = some (.tup [.str y, .str "number"]) := upd_same
    generalize upd H' pt (.tup [.str y, .str "number"]) = H8 at k8 x8 ⊢
    have g18 := g17.trans k8
    have pk8 : Paired (PrV H8) ys (kdV kds) := Paired.mapP pk fun _ _ z => prv_mono g18.tk z
    have kdd := kd_deep kds
    refine ⟨_, rfl, r, _, 2, _, rfl, rfl, SqT.of (g18 _ _ er), at2, ka, ys, kdD kds, .tup [.str y, .str "number"], rfl, .inl (.inr ⟨o, g18 _ _ ek⟩), kd_drs pk8, .tup x8 (.cons (.str _) (.cons (.str _) .nil)), by omega, _, rfl, ite2 (fun c => ?_) (fun c => ?_)⟩
    · have nn : (y, ("number" : Str)) ∉ kds := fun z => by
        have := (kd_any kds y "number").mpr z
        rw [this] at c
        cases c
      have we : ∀ x, (valV (mergeK [] [((Sum.inr y : Key), V.int 2)]) (Sum.inr x : Key)).getD (.int 1) = .int (((if x = y then 2 else 1 : Nat)) : Int) := we_two y
      have hω : ∀ x : Str, (if x = y then 2 else 1 : Nat) ≤ 2 := fun x => by split <;> decide
      refine ⟨_, rfl, r, _, 0, _, rfl, rfl, SqT.of (g18 _ _ er), at0, _, rfl, fun e3 he3 => ⟨_, rfl, upd_same, [((Sum.inr y : Key), V.int 2)], rfl, (by show 1 ≤ 15; decide), ?_⟩⟩
      have k9 : Same H8 (upd (upd H8 e3 (.dK [])) e3 (.dK (mergeK [] [((Sum.inr y : Key), V.int 2)]))) := same_set (same_upd he3) he3
      have x9 : (upd (upd H8 e3 (.dK [])) e3 (.dK (mergeK [] [((Sum.inr y : Key), V.int 2)]))) e3 = some (.dK (mergeK [] [((Sum.inr y : Key), V.int 2)])) := upd_same
      generalize upd (upd H8 e3 (.dK [])) e3 (.dK (mergeK [] [((Sum.inr y : Key), V.int 2)])) = H9 at k9 x9 ⊢
      have g19 := g18.trans k9
      refine ⟨t1, u1, d, e3, rs, _, fun x => if x = y then 2 else 1, rfl, by omega, by omega, r1.mono g19.tk, hsc.mono g19.sf, x9, we, hω, fun H10 g10 => ?_⟩
      have g110 := g19.trans g10
      refine ⟨_, rfl, r, _, 1, _, rfl, rfl, SqT.of (g110 _ _ er), at1, _, rfl, fun e4 he4 => ⟨_, rfl, upd_same, [((Sum.inr y : Key), V.int 2)], rfl, (by show 1 ≤ 15; decide), ?_⟩⟩
      have k11 : Same H10 (upd (upd H10 e4 (.dK [])) e4 (.dK (mergeK [] [((Sum.inr y : Key), V.int 2)]))) := same_set (same_upd he4) he4
      have x11 : (upd (upd H10 e4 (.dK [])) e4 (.dK (mergeK [] [((Sum.inr y : Key), V.int 2)]))) e4 = some (.dK (mergeK [] [((Sum.inr y : Key), V.int 2)])) := upd_same
      generalize upd (upd H10 e4 (.dK [])) e4 (.dK (mergeK [] [((Sum.inr y : Key), V.int 2)])) = H11 at k11 x11 ⊢
      have g111 := g110.trans k11
      refine ⟨t2, u2, d, e4, rs, _, fun x => if x = y then 2 else 1, rfl, by omega, by omega, r2.mono g111.tk, hsc.mono g111.sf, x11, we, hω, fun H12 g12' => ?_⟩
      rw [wW_two gF, wW_two gF]
      refine ⟨_, _, rfl, rfl, ?_⟩
      refine ⟨_, rfl, _, rfl, _, _, rfl, rfl, _, rfl, ite2 (fun c2 => ?_) (fun c2 => ?_)⟩
      · have c2' := of_decide_eq_true c2
        refine q false _ (g111.trans g12') ⟨(fun z => nomatch z), fun z => ?_⟩
        have := z.2 y ((mss y).mp (List.mem_of_getElem? hy)) nn
        simp only [Int.natCast_add] at c2'
        omega
      · refine ⟨_, _, rfl, g7.trans (k8.trans (k9.trans (g10.trans (k11.trans g12')))), fun g hg hn => ?_⟩
        rw [htk] at hg
        rcases List.mem_append.mp hg with h | h
        · exact hall g h hn
        · rw [List.mem_singleton.mp h]
          have c2' : ¬ ((wrt (rowF rs) t1 + gw (rowF rs) y t1 : Nat) : Int) - ((wrt (rowF rs) t2 + gw (rowF rs) y t2 : Nat) : Int) < ((wrt (rowF rs) t1 : Nat) : Int) - ((wrt (rowF rs) t2 : Nat) : Int) := fun z => c2 (decide_eq_true z)
          simp only [Int.natCast_add] at c2'
          omega
    · have nn : (y, ("number" : Str)) ∈ kds := by
        refine (kd_any kds y "number").mp ?_
        simpa using c
      refine ⟨_, _, rfl, g7.trans k8, fun g hg hn => ?_⟩
      rw [htk] at hg
      rcases List.mem_append.mp hg with h | h
      · exact hall g h hn
      · rw [List.mem_singleton.mp h] at hn
        exact absurd nn hn
  · rintro σ' H' ⟨s3, s4, rfl, g7, hall⟩
    rw [List.length_map, List.take_length] at hall
    refine ⟨_, rfl, _, _, rfl, rfl, q _ H' (g16.trans g7) ?_⟩
    rw [decide_eq_true_iff]
    constructor
    · intro h
      exact ⟨by omega, fun g hg hn => hall g ((mss g).mpr hg) hn⟩
    · intro h
      have := h.1
      omega
end
end K21
set_option Elab.async false
set_option linter.all false
set_option maxRecDepth 100000
set_option maxHeartbeats 4000000
namespace L2
open PySem
theorem sc_val {H : Hp} {d : Addr} {rs : Scl} {kvs : List (Key × V)} (s : ScD H d rs kvs) : ∀ p ∈ kvs, valV kvs p.1 = some p.2 := fun p hp => by
  obtain ⟨i, hi⟩ := List.getElem?_of_mem hp
  exact val_at s.nd hi
theorem sc_ref {H : Hp} {d : Addr} {rs : Scl} {kvs : List (Key × V)} (s : ScD H d rs kvs) : ∀ p ∈ kvs, ∃ b, p.2 = V.ref b := fun p hp => by
  obtain ⟨i, hi⟩ := List.getElem?_of_mem hp
  obtain ⟨_, _, _, _, b, e, _⟩ := paired_getP s.ps hi
  exact ⟨b, e⟩
theorem sc_empty {H : Hp} {p : Addr} : ScAt (upd H p (.dK [])) p [] := ⟨[], .inl upd_same, .nil, List.nodup_nil, Nat.zero_le _⟩
theorem bl_dec {b c : Bool} (h : b = c) : decide (V.bl b = V.bl c) = true := decide_eq_true (by rw [h])
theorem bool_of {b c : Bool} {P R : Prop} (h : b = true ↔ P) (k : c = true ↔ R) (e : P ↔ R) : b = c := Bool.eq_iff_iff.mpr (h.trans (e.trans k.symm))
end L2
namespace K21
open PySem PySem.Spec L2 PyProof.Rows
abbrev s_law : Stmt := top 34
theorem sc_law : FnScope ["_law_script", "_law_scale_here", "_law_gaps_here", "_law_names", "_law_rule_here", "_law_handed", "_law_plain", "_law_found"] ["_law_script"] (defScope s_law) := ⟨rfl, rfl, rfl, by decide +kernel, rfl, by decide +kernel, by decide +kernel⟩
section
variable {P : Program} {w : World} {K : PySem.W.Frag} {mg : Str → Option Value} {base : Heap}
def sp_law (K : PySem.W.Frag) : Sp := fun vs H Q _ => ∃ (a : Addr) (ns : List Int), vs = [.ref a] ∧ SqL K H a (ns.map V.int) ∧ ns.length ≤ 63 ∧ ∀ H', Q (.bl true) H'
theorem ok_law {k : Nat} {f g1 g2 g3 g4 g5 g6 : Addr} {fd gd1 gd2 gd3 gd4 gd5 gd6 : FuncData} (F : Fun K "law" "law" s_law f fd) (z_range : mg "range" = none) (z_dict : mg "dict" = none) (z_isinstance : mg "isinstance" = none) (z_bool : mg "bool" = none)
    (G_law_cell_at : FnB P w K mg base k "_law_cell_at" g1 gd1 ["_law_script", "_law_k"] (sp_cell_at K)) (G_law_scale : FnB P w K mg base k "_law_scale" g2 gd2 ["_law_cells"] sp_scale) (G_law_words : FnB P w K mg base k "_law_words" g3 gd3 ["_law_cell", "_law_many"] sp_words)
    (G_law_rule : FnB P w K mg base k "_law_rule" g4 gd4 ["_law_cells", "_law_gaps_here", "_law_names"] (sp_rule K)) (G_falls : FnB P w K mg base k "falls" g5 gd5 ["rule", "scale"] sp_falls) (G_law_due : FnB P w K mg base k "_law_due" g6 gd6 ["_law_rule_here", "_law_scale_here"] sp_due) : FnOk P w K mg base CX0 (k + 1) f fd ["_law_script"] (sp_law K) := by
  refine F.ok sc_law (fun vs H Q E h => ?_) (fun cdv A outer s H vs Q E hr h => ?_)
  · obtain ⟨a, ns, rfl, _⟩ := h
    rfl
  obtain ⟨a, ns, rfl, hS, h63, q⟩ := h
  have hu := hu_of hr
  have hu0 := Nat.lt_of_succ_lt (hu_of hr)
  refine ⟨_, (pss_cons (ps_set (i := 1) sc_law.nd rfl (Or.inl rfl) (pe_call G_law_scale.ok hr (by rfl) G_law_scale.gl G_law_scale.kp G_law_scale.bd .nil pass0 (pa_cons (pe_compB ["_law_k", "_law_script"] [none, some 0] rfl (pi_range1 (by rfl) z_range (pa_cons pe_int pa_nil)) (fun _ _ _ _ _ => (pg_name (i := 0) (show List.Nodup (["_law_k", "_law_script"] : List Str) by decide +kernel) rfl (Or.inl rfl))) (fun _ _ _ _ _ => pts_nil) (fun _ _ _ _ _ => (pe_call G_law_cell_at.ok hr (by rfl) G_law_cell_at.gl G_law_cell_at.kp G_law_cell_at.bd .nil pass0 (pa_cons (pv 1) (pa_cons (pv 0) pa_nil)))) rfl) pa_nil)))
    (pss_cons (ps_set (i := 2) sc_law.nd rfl (Or.inl rfl) (pe_call G_law_words.ok hr (by rfl) G_law_words.gl G_law_words.kp G_law_words.bd .nil pass0 (pa_cons (pe_op op_fdiv (pe_call G_law_cell_at.ok hr (by rfl) G_law_cell_at.gl G_law_cell_at.kp G_law_cell_at.bd .nil pass0 (pa_cons (pv 0) (pa_cons pe_int pa_nil))) pe_int) (pa_cons pe_int pa_nil))))
    (pss_cons (ps_set (i := 3) sc_law.nd rfl (Or.inl rfl) (pe_call G_law_words.ok hr (by rfl) G_law_words.gl G_law_words.kp G_law_words.bd .nil pass0 (pa_cons (pe_call G_law_cell_at.ok hr (by rfl) G_law_cell_at.gl G_law_cell_at.kp G_law_cell_at.bd .nil pass0 (pa_cons (pv 0) (pa_cons pe_int pa_nil))) (pa_cons pe_int pa_nil))))
    (pss_cons (ps_set (i := 4) sc_law.nd rfl (Or.inl rfl) (pe_call G_law_rule.ok hr (by rfl) G_law_rule.gl G_law_rule.kp G_law_rule.bd .nil pass0 (pa_cons (pe_compB ["_law_k", "_law_script"] [none, some 0] rfl (pi_range2 (by rfl) z_range (pa_cons pe_int (pa_cons pe_int pa_nil))) (fun _ _ _ _ _ => (pg_name (i := 0) (show List.Nodup (["_law_k", "_law_script"] : List Str) by decide +kernel) rfl (Or.inl rfl))) (fun _ _ _ _ _ => pts_nil) (fun _ _ _ _ _ => (pe_call G_law_cell_at.ok hr (by rfl) G_law_cell_at.gl G_law_cell_at.kp G_law_cell_at.bd .nil pass0 (pa_cons (pv 1) (pa_cons (pv 0) pa_nil)))) rfl) (pa_cons (pv 2) (pa_cons (pv 3) pa_nil)))))
    (pss_cons (ps_set (i := 5) sc_law.nd rfl (Or.inl rfl) (pe_callTy call_dictD (by rfl) z_dict PyProof.Rows.boot_dict (pa_cons (pv 1) pa_nil)))
    (pss_cons (ps_if (pt_cmpR op_eq (pe_op op_mod (pe_call G_law_cell_at.ok hr (by rfl) G_law_cell_at.gl G_law_cell_at.kp G_law_cell_at.bd .nil pass0 (pa_cons (pv 0) (pa_cons pe_int pa_nil))) pe_int) pe_int (nomark _)) (pss_cons (ps_set (i := 6) sc_law.nd rfl (Or.inl rfl) (pe_call G_falls.ok hr (by rfl) G_falls.gl G_falls.kp G_falls.bd .nil pass0 (pa_cons (pv 4) (pa_cons pe_dnewK pa_nil))))
    (pss_one (ps_set (i := 7) sc_law.nd rfl (Or.inl rfl) (pe_call G_falls.ok hr (by rfl) G_falls.gl G_falls.kp G_falls.bd .nil pass0 (pa_cons (pv 4) (pa_cons (pv 5) pa_nil)))))) (pss_cons (ps_set (i := 7) sc_law.nd rfl (Or.inl rfl) (pe_call G_falls.ok hr (by rfl) G_falls.gl G_falls.kp G_falls.bd .nil pass0 (pa_cons (pv 4) (pa_cons (pv 5) pa_nil))))
    (pss_one (ps_set (i := 6) sc_law.nd rfl (Or.inl rfl) (pe_call G_falls.ok hr (by rfl) G_falls.gl G_falls.kp G_falls.bd .nil pass0 (pa_cons (pv 4) (pa_cons pe_dnewK pa_nil)))))))
    (pss_cons (ps_if (pw_or (pt_not (pt_val (pe_callB call_isi (by rfl) z_isinstance PyProof.Rows.boot_isinstance (pa_cons (pv 7) (pa_cons (pe_bltn (v := .ty _) (by rfl) z_bool PyProof.Rows.boot_bool (by rfl)) pa_nil))))) (pw_or (pt_not (pt_val (pe_callB call_isi (by rfl) z_isinstance PyProof.Rows.boot_isinstance (pa_cons (pv 6) (pa_cons (pe_bltn (v := .ty _) (by rfl) z_bool PyProof.Rows.boot_bool (by rfl)) pa_nil))))) (pw_or1 (pt_cmpR (op_neDs hu0) (pv 5) (pv 1) (nomark _))))).pt (pss_one (ps_ret pe_bl)) pss_nil)
    (pss_one (ps_ret (pe_and (pe_cmpR op_eq (pv 7) (pe_call G_law_due.ok hr (by rfl) G_law_due.gl G_law_due.kp G_law_due.bd .nil pass0 (pa_cons (pv 4) (pa_cons (pv 1) pa_nil))) (nomark _)) (pe_one (pe_cmpR op_eq (pv 6) (pe_call G_law_due.ok hr (by rfl) G_law_due.gl G_law_due.kp G_law_due.bd .nil pass0 (pa_cons (pv 4) (pa_cons pe_dnewK pa_nil))) (nomark _))))))))))))), ?_⟩
  refine ⟨7, rfl, by decide, by decide, fun acc hacc => ?_⟩
  refine comp_rangeR (n := (7 : Int).toNat) (fun i H' => Same H H' ∧ ∃ cs : List Int, H' acc = some (.lst (cs.map V.int)) ∧ cs.length = i) ⟨same_upd hacc, [], upd_same, rfl⟩ ?_ ?_
  · rintro i Hx hi ⟨gx, cs, ex, lx⟩
    have hi7 : i < 7 := by simpa using hi
    refine ⟨.skip (.keep .nil), _, rfl, _, rfl, a, ns, _, rfl, gx.seq hS, by omega, _, ex, small1000 (by rw [List.length_map]; omega), same_set gx hacc, cs ++ [ns.getD ((0 : Int) + (i : Int)).toNat 0], ?_, by simp [lx]⟩
    rw [upd_same, List.map_append]
    rfl
  rintro H1 ⟨g1, cs, ea, lcs⟩
  refine ⟨acc, cs, rfl, ea, lcs, fun d rs kvs H2 g2 ed sc => ?_⟩
  have gA := g1.trans g2
  refine ⟨_, rfl, a, ns, 7, rfl, gA.seq hS, by decide, _, _, rfl, rfl, ⟨(show (0 : Int) < 2 by decide), (show (2 : Int) < 1073741824 by decide)⟩, _, 3, rfl, by decide, fun lw H3 ws g3 ew lws => ?_⟩
  have gB := gA.trans g3
  refine ⟨_, rfl, a, ns, 8, rfl, gB.seq hS, by decide, _, 2, rfl, by decide, fun ln H4 nsw g4 en lns => ?_⟩
  obtain ⟨w0, w1, w2, rfl⟩ : ∃ w0 w1 w2, ws = [w0, w1, w2] := by
    match ws, lws with
    | [x, y, z], _ => exact ⟨x, y, z, rfl⟩
  obtain ⟨n0, n1, rfl⟩ : ∃ n0 n1, nsw = [n0, n1] := by
    match nsw, lns with
    | [x, y], _ => exact ⟨x, y, rfl⟩
  have gC := gB.trans g4
  refine ⟨9, 23, rfl, ⟨by decide, by decide, by decide, by decide⟩, fun ac2 hac2 => ?_⟩
  refine comp_rangeR (lo := 9) (n := ((23 : Int) - 9).toNat) (fun i H' => Same H4 H' ∧ ∃ cs : List Int, H' ac2 = some (.lst (cs.map V.int)) ∧ cs.length = i) ⟨same_upd hac2, [], upd_same, rfl⟩ ?_ ?_
  · rintro i Hx hi ⟨gx, cs, ex, lx⟩
    have hi7 : i < 14 := hi
    refine ⟨.skip (.keep .nil), _, rfl, _, rfl, a, ns, _, rfl, (gC.trans gx).seq hS, by omega, _, ex, small1000 (by rw [List.length_map]; omega), same_set gx hac2, cs ++ [ns.getD ((9 : Int) + (i : Int)).toNat 0], ?_, by simp [lx]⟩
    rw [upd_same, List.map_append]
    rfl
  rintro H5 ⟨g5, cs2, ea2, lcs2⟩
  refine ⟨_, rfl, _, rfl, ac2, lw, ln, cs2, w0, w1, w2, n0, n1, rfl, SqL.of ea2, lcs2, g5 _ _ (g4 _ _ ew), g5 _ _ en, fun r t1 t2 kds H6 g6 hR s1 s2 nd lkd sub => ?_⟩
  have gD := g3.trans (g4.trans (g5.trans g6))
  have gE := gC.trans (g5.trans g6)
  refine ⟨_, rfl, d, kvs, rfl, gD _ _ ed, fun dh hdh => ?_⟩
  have k7 := same_upd (o := .dK kvs) hdh
  have sd6 := sc.mono (gD.trans k7).sf
  have sh6 : ScD (upd H6 dh (.dK kvs)) dh rs kvs := ⟨.inl upd_same, sd6.ps, sd6.nd, sd6.le⟩
  have hval := sc_val sc
  have href := sc_ref sc
  have R7 := hR.mono k7.sf
  have gF := gE.trans k7
  show tSeq _ _ _ _ (upd H6 dh (.dK kvs))
  generalize upd H6 dh (.dK kvs) = H7 at sd6 sh6 R7 gF ⊢
  have e1 : fallP (rowF rs) t1 t2 kds ↔ dueP (rowF rs) t1 t2 kds := fall_due sub
  have e2 : fallP (rowF []) t1 t2 kds ↔ dueP (rowF []) t1 t2 kds := fall_due sub
  apply viaS (fun σ' H' => ∃ (bp bf : Bool), σ' = [some (.ref a), some (.ref d), some (.ref lw), some (.ref ln), some (.ref r), some (.ref dh), some (.bl bp), some (.bl bf)] ∧ Sf H7 H' ∧ (bp = true ↔ fallP (rowF []) t1 t2 kds) ∧ (bf = true ↔ fallP (rowF rs) t1 t2 kds))
  · intro rest
    refine ⟨_, rfl, a, ns, 7, rfl, gF.seq hS, by decide, _, _, rfl, rfl, (show (0 : Int) < 2 by decide), rfl, _, rfl, ite2 (fun _ => ?_) (fun _ => ?_)⟩
    · refine ⟨_, rfl, fun d0 hd0 => ⟨r, d0, t1, t2, kds, [], rfl, R7.mono (same_upd hd0).sf, by omega, by omega, nd, by omega, sc_empty, fun bp H8 f8 hbp => ?_⟩⟩
      have f78 := (same_upd (o := .dK []) hd0).sf.trans f8
      refine ⟨_, rfl, _, rfl, r, dh, t1, t2, kds, rs, rfl, R7.mono f78, by omega, by omega, nd, by omega, ⟨kvs, sh6.mono f78⟩, fun bf H9 f9 hbf => ?_⟩
      exact rest _ _ ⟨bp, bf, rfl, f78.trans f9, hbp, hbf⟩
    · refine ⟨_, rfl, _, rfl, r, dh, t1, t2, kds, rs, rfl, R7, by omega, by omega, nd, by omega, ⟨kvs, sh6⟩, fun bf H8 f8 hbf => ?_⟩
      refine ⟨_, rfl, fun d0 hd0 => ⟨r, d0, t1, t2, kds, [], rfl, R7.mono (f8.trans (same_upd hd0).sf), by omega, by omega, nd, by omega, sc_empty, fun bp H9 f9 hbp => ?_⟩⟩
      exact rest _ _ ⟨bp, bf, rfl, f8.trans ((same_upd (o := .dK []) hd0).sf.trans f9), hbp, hbf⟩
  rintro σ' H8 ⟨bp, bf, rfl, f8, hbp, hbf⟩
  have sd8 := sd6.mono f8
  have sh8 := sh6.mono f8
  have R8 := R7.mono f8
  refine ⟨_, rfl, _, "bool", _, true, rfl, .bl bf, rfl, _, rfl, iteF ⟨_, rfl, _, "bool", _, true, rfl, .bl bp, rfl, _, rfl, iteF ⟨_, rfl, _, rfl, dh, d, kvs, rfl, rfl, sh8.rd, sd8.rd, hval, href, _, rfl, iteF ?_⟩⟩⟩
  refine ⟨_, rfl, _, rfl, _, rfl, r, d, t1, t2, kds, rs, rfl, R8, s1, s2, ⟨kvs, sd8⟩, fun b1 H9 g9 hb1 => ⟨rfl, _, rfl, ?_⟩⟩
  rw [bl_dec (bool_of hbf hb1 e1)]
  refine iteT ?_
  refine ⟨_, rfl, _, rfl, fun d0 hd0 => ⟨r, d0, t1, t2, kds, [], rfl, R8.mono (g9.trans (same_upd hd0)).sf, s1, s2, sc_empty, fun b2 H10 g10 hb2 => ⟨rfl, ?_⟩⟩⟩
  rw [bl_dec (bool_of hbp hb2 e2)]
  exact q H10
end
end K21
set_option Elab.async false
set_option linter.all false
set_option maxRecDepth 100000
set_option maxHeartbeats 4000000
namespace K21
open PySem PySem.Spec L2 PyProof.Rows
theorem all_mk {l : PySem.W.OpenLaw} {w : World} {K : PySem.W.Frag} {h : Heap} {mg : Str → Option Value} {fa f0 f1 f2 f3 f4 f5 f6 f7 f8 f9 f10 f11 f12 f13 f14 f15 f16 f17 f18 f19 f20 f21 f22 f23 lv md oa : Addr} (X : K.In h) (G : h.Ns mainGlobals mg) (hfa : mg "law" = some (.ref fa))
    {od0 an0 : Option Addr} {sl0 : Array (Option Value)} {oc0 kV0 dc0 pm0 cd0 ct0 : Value}
    {od1 an1 : Option Addr} {sl1 : Array (Option Value)} {oc1 kV1 dc1 pm1 cd1 ct1 : Value}
    {od2 an2 : Option Addr} {sl2 : Array (Option Value)} {oc2 kV2 dc2 pm2 cd2 ct2 : Value}
    {od3 an3 : Option Addr} {sl3 : Array (Option Value)} {oc3 kV3 dc3 pm3 cd3 ct3 : Value}
    {od4 an4 : Option Addr} {sl4 : Array (Option Value)} {oc4 kV4 dc4 pm4 cd4 ct4 : Value}
    {od5 an5 : Option Addr} {sl5 : Array (Option Value)} {oc5 kV5 dc5 pm5 cd5 ct5 : Value}
    {od6 an6 : Option Addr} {sl6 : Array (Option Value)} {oc6 kV6 dc6 pm6 cd6 ct6 : Value}
    {od7 an7 : Option Addr} {sl7 : Array (Option Value)} {oc7 kV7 dc7 pm7 cd7 ct7 : Value}
    {od8 an8 : Option Addr} {sl8 : Array (Option Value)} {oc8 kV8 dc8 pm8 cd8 ct8 : Value}
    {od9 an9 : Option Addr} {sl9 : Array (Option Value)} {oc9 kV9 dc9 pm9 cd9 ct9 : Value}
    {od10 an10 : Option Addr} {sl10 : Array (Option Value)} {oc10 kV10 dc10 pm10 cd10 ct10 : Value}
    {od11 an11 : Option Addr} {sl11 : Array (Option Value)} {oc11 kV11 dc11 pm11 cd11 ct11 : Value}
    {od12 an12 : Option Addr} {sl12 : Array (Option Value)} {oc12 kV12 dc12 pm12 cd12 ct12 : Value}
    {od13 an13 : Option Addr} {sl13 : Array (Option Value)} {oc13 kV13 dc13 pm13 cd13 ct13 : Value}
    {od14 an14 : Option Addr} {sl14 : Array (Option Value)} {oc14 kV14 dc14 pm14 cd14 ct14 : Value}
    {od15 an15 : Option Addr} {sl15 : Array (Option Value)} {oc15 kV15 dc15 pm15 cd15 ct15 : Value}
    {od16 an16 : Option Addr} {sl16 : Array (Option Value)} {oc16 kV16 dc16 pm16 cd16 ct16 : Value}
    {od17 an17 : Option Addr} {sl17 : Array (Option Value)} {oc17 kV17 dc17 pm17 cd17 ct17 : Value}
    {od18 an18 : Option Addr} {sl18 : Array (Option Value)} {oc18 kV18 dc18 pm18 cd18 ct18 : Value}
    {od19 an19 : Option Addr} {sl19 : Array (Option Value)} {oc19 kV19 dc19 pm19 cd19 ct19 : Value}
    {od20 an20 : Option Addr} {sl20 : Array (Option Value)} {oc20 kV20 dc20 pm20 cd20 ct20 : Value}
    {od21 an21 : Option Addr} {sl21 : Array (Option Value)} {oc21 kV21 dc21 pm21 cd21 ct21 : Value}
    {od22 an22 : Option Addr} {sl22 : Array (Option Value)} {oc22 kV22 dc22 pm22 cd22 ct22 : Value}
    {od23 an23 : Option Addr} {sl23 : Array (Option Value)} {oc23 kV23 dc23 pm23 cd23 ct23 : Value}
    {odL odO : Option Addr} {slL slO : Array (Option Value)} {nL nM nO : Nat} {t1 t2 t3 t4 t5 v1 v2 v3 v4 w1 w2 x1 x2 x3 x4 x5 x6 x7 : Tok} {esM : Array DictEntry}
    (a0 : PySem.W.nsIn K mainGlobals "is_whole" = some (some (.ref f0))) (l0 : K.lookup f0 = some ⟨oc0, od0, .func (PySem.W.fnOf "is_whole" "is_whole" (defArgs s_is_whole) (defBody s_is_whole) (defScope s_is_whole) .none kV0 dc0 pm0 an0 cd0 ct0), sl0⟩) (c0 : PySem.W.codeIn K cd0 "is_whole" = true) (k0 : PySem.W.keepIn K (.ref f0) = true)
    (a1 : PySem.W.nsIn K mainGlobals "parts_begin" = some (some (.ref f1))) (l1 : K.lookup f1 = some ⟨oc1, od1, .func (PySem.W.fnOf "parts_begin" "parts_begin" (defArgs s_parts_begin) (defBody s_parts_begin) (defScope s_parts_begin) .none kV1 dc1 pm1 an1 cd1 ct1), sl1⟩) (c1 : PySem.W.codeIn K cd1 "parts_begin" = true) (k1 : PySem.W.keepIn K (.ref f1) = true)
    (a2 : PySem.W.nsIn K mainGlobals "parts" = some (some (.ref f2))) (l2 : K.lookup f2 = some ⟨oc2, od2, .func (PySem.W.fnOf "parts" "parts" (defArgs s_parts) (defBody s_parts) (defScope s_parts) .none kV2 dc2 pm2 an2 cd2 ct2), sl2⟩) (c2 : PySem.W.codeIn K cd2 "parts" = true) (k2 : PySem.W.keepIn K (.ref f2) = true)
    (a3 : PySem.W.nsIn K mainGlobals "is_between" = some (some (.ref f3))) (l3 : K.lookup f3 = some ⟨oc3, od3, .func (PySem.W.fnOf "is_between" "is_between" (defArgs s_is_between) (defBody s_is_between) (defScope s_is_between) .none kV3 dc3 pm3 an3 cd3 ct3), sl3⟩) (c3 : PySem.W.codeIn K cd3 "is_between" = true) (k3 : PySem.W.keepIn K (.ref f3) = true)
    (a4 : PySem.W.nsIn K mainGlobals "is_scale_row" = some (some (.ref f4))) (l4 : K.lookup f4 = some ⟨oc4, od4, .func (PySem.W.fnOf "is_scale_row" "is_scale_row" (defArgs s_is_scale_row) (defBody s_is_scale_row) (defScope s_is_scale_row) .none kV4 dc4 pm4 an4 cd4 ct4), sl4⟩) (c4 : PySem.W.codeIn K cd4 "is_scale_row" = true) (k4 : PySem.W.keepIn K (.ref f4) = true)
    (a5 : PySem.W.nsIn K mainGlobals "check_scale" = some (some (.ref f5))) (l5 : K.lookup f5 = some ⟨oc5, od5, .func (PySem.W.fnOf "check_scale" "check_scale" (defArgs s_check_scale) (defBody s_check_scale) (defScope s_check_scale) .none kV5 dc5 pm5 an5 cd5 ct5), sl5⟩) (c5 : PySem.W.codeIn K cd5 "check_scale" = true) (k5 : PySem.W.keepIn K (.ref f5) = true)
    (a6 : PySem.W.nsIn K mainGlobals "weighed_parts" = some (some (.ref f6))) (l6 : K.lookup f6 = some ⟨oc6, od6, .func (PySem.W.fnOf "weighed_parts" "weighed_parts" (defArgs s_weighed_parts) (defBody s_weighed_parts) (defScope s_weighed_parts) .none kV6 dc6 pm6 an6 cd6 ct6), sl6⟩) (c6 : PySem.W.codeIn K cd6 "weighed_parts" = true) (k6 : PySem.W.keepIn K (.ref f6) = true)
    (a7 : PySem.W.nsIn K mainGlobals "worth" = some (some (.ref f7))) (l7 : K.lookup f7 = some ⟨oc7, od7, .func (PySem.W.fnOf "worth" "worth" (defArgs s_worth) (defBody s_worth) (defScope s_worth) .none kV7 dc7 pm7 an7 cd7 ct7), sl7⟩) (c7 : PySem.W.codeIn K cd7 "worth" = true) (k7 : PySem.W.keepIn K (.ref f7) = true)
    (a8 : PySem.W.nsIn K mainGlobals "gap_weights" = some (some (.ref f8))) (l8 : K.lookup f8 = some ⟨oc8, od8, .func (PySem.W.fnOf "gap_weights" "gap_weights" (defArgs s_gap_weights) (defBody s_gap_weights) (defScope s_gap_weights) .none kV8 dc8 pm8 an8 cd8 ct8), sl8⟩) (c8 : PySem.W.codeIn K cd8 "gap_weights" = true) (k8 : PySem.W.keepIn K (.ref f8) = true)
    (a9 : PySem.W.nsIn K mainGlobals "falls" = some (some (.ref f9))) (l9 : K.lookup f9 = some ⟨oc9, od9, .func (PySem.W.fnOf "falls" "falls" (defArgs s_falls) (defBody s_falls) (defScope s_falls) .none kV9 dc9 pm9 an9 cd9 ct9), sl9⟩) (c9 : PySem.W.codeIn K cd9 "falls" = true) (k9 : PySem.W.keepIn K (.ref f9) = true)
    (a10 : PySem.W.nsIn K mainGlobals "_law_cell_at" = some (some (.ref f10))) (l10 : K.lookup f10 = some ⟨oc10, od10, .func (PySem.W.fnOf "_law_cell_at" "_law_cell_at" (defArgs s_law_cell_at) (defBody s_law_cell_at) (defScope s_law_cell_at) .none kV10 dc10 pm10 an10 cd10 ct10), sl10⟩) (c10 : PySem.W.codeIn K cd10 "_law_cell_at" = true) (k10 : PySem.W.keepIn K (.ref f10) = true)
    (a11 : PySem.W.nsIn K mainGlobals "_law_words" = some (some (.ref f11))) (l11 : K.lookup f11 = some ⟨oc11, od11, .func (PySem.W.fnOf "_law_words" "_law_words" (defArgs s_law_words) (defBody s_law_words) (defScope s_law_words) .none kV11 dc11 pm11 an11 cd11 ct11), sl11⟩) (c11 : PySem.W.codeIn K cd11 "_law_words" = true) (k11 : PySem.W.keepIn K (.ref f11) = true)
    (a12 : PySem.W.nsIn K mainGlobals "_law_scale" = some (some (.ref f12))) (l12 : K.lookup f12 = some ⟨oc12, od12, .func (PySem.W.fnOf "_law_scale" "_law_scale" (defArgs s_law_scale) (defBody s_law_scale) (defScope s_law_scale) .none kV12 dc12 pm12 an12 cd12 ct12), sl12⟩) (c12 : PySem.W.codeIn K cd12 "_law_scale" = true) (k12 : PySem.W.keepIn K (.ref f12) = true)
    (a13 : PySem.W.nsIn K mainGlobals "_law_shape" = some (some (.ref f13))) (l13 : K.lookup f13 = some ⟨oc13, od13, .func (PySem.W.fnOf "_law_shape" "_law_shape" (defArgs s_law_shape) (defBody s_law_shape) (defScope s_law_shape) .none kV13 dc13 pm13 an13 cd13 ct13), sl13⟩) (c13 : PySem.W.codeIn K cd13 "_law_shape" = true) (k13 : PySem.W.keepIn K (.ref f13) = true)
    (a14 : PySem.W.nsIn K mainGlobals "_law_parts" = some (some (.ref f14))) (l14 : K.lookup f14 = some ⟨oc14, od14, .func (PySem.W.fnOf "_law_parts" "_law_parts" (defArgs s_law_parts) (defBody s_law_parts) (defScope s_law_parts) .none kV14 dc14 pm14 an14 cd14 ct14), sl14⟩) (c14 : PySem.W.codeIn K cd14 "_law_parts" = true) (k14 : PySem.W.keepIn K (.ref f14) = true)
    (a15 : PySem.W.nsIn K mainGlobals "_law_gaps" = some (some (.ref f15))) (l15 : K.lookup f15 = some ⟨oc15, od15, .func (PySem.W.fnOf "_law_gaps" "_law_gaps" (defArgs s_law_gaps) (defBody s_law_gaps) (defScope s_law_gaps) .none kV15 dc15 pm15 an15 cd15 ct15), sl15⟩) (c15 : PySem.W.codeIn K cd15 "_law_gaps" = true) (k15 : PySem.W.keepIn K (.ref f15) = true)
    (a16 : PySem.W.nsIn K mainGlobals "_law_is_loud" = some (some (.ref f16))) (l16 : K.lookup f16 = some ⟨oc16, od16, .func (PySem.W.fnOf "_law_is_loud" "_law_is_loud" (defArgs s_law_is_loud) (defBody s_law_is_loud) (defScope s_law_is_loud) .none kV16 dc16 pm16 an16 cd16 ct16), sl16⟩) (c16 : PySem.W.codeIn K cd16 "_law_is_loud" = true) (k16 : PySem.W.keepIn K (.ref f16) = true)
    (a17 : PySem.W.nsIn K mainGlobals "_law_left" = some (some (.ref f17))) (l17 : K.lookup f17 = some ⟨oc17, od17, .func (PySem.W.fnOf "_law_left" "_law_left" (defArgs s_law_left) (defBody s_law_left) (defScope s_law_left) .none kV17 dc17 pm17 an17 cd17 ct17), sl17⟩) (c17 : PySem.W.codeIn K cd17 "_law_left" = true) (k17 : PySem.W.keepIn K (.ref f17) = true)
    (a18 : PySem.W.nsIn K mainGlobals "_law_kinds" = some (some (.ref f18))) (l18 : K.lookup f18 = some ⟨oc18, od18, .func (PySem.W.fnOf "_law_kinds" "_law_kinds" (defArgs s_law_kinds) (defBody s_law_kinds) (defScope s_law_kinds) .none kV18 dc18 pm18 an18 cd18 ct18), sl18⟩) (c18 : PySem.W.codeIn K cd18 "_law_kinds" = true) (k18 : PySem.W.keepIn K (.ref f18) = true)
    (a19 : PySem.W.nsIn K mainGlobals "_law_right" = some (some (.ref f19))) (l19 : K.lookup f19 = some ⟨oc19, od19, .func (PySem.W.fnOf "_law_right" "_law_right" (defArgs s_law_right) (defBody s_law_right) (defScope s_law_right) .none kV19 dc19 pm19 an19 cd19 ct19), sl19⟩) (c19 : PySem.W.codeIn K cd19 "_law_right" = true) (k19 : PySem.W.keepIn K (.ref f19) = true)
    (a20 : PySem.W.nsIn K mainGlobals "_law_rule" = some (some (.ref f20))) (l20 : K.lookup f20 = some ⟨oc20, od20, .func (PySem.W.fnOf "_law_rule" "_law_rule" (defArgs s_law_rule) (defBody s_law_rule) (defScope s_law_rule) .none kV20 dc20 pm20 an20 cd20 ct20), sl20⟩) (c20 : PySem.W.codeIn K cd20 "_law_rule" = true) (k20 : PySem.W.keepIn K (.ref f20) = true)
    (a21 : PySem.W.nsIn K mainGlobals "_law_worth" = some (some (.ref f21))) (l21 : K.lookup f21 = some ⟨oc21, od21, .func (PySem.W.fnOf "_law_worth" "_law_worth" (defArgs s_law_worth) (defBody s_law_worth) (defScope s_law_worth) .none kV21 dc21 pm21 an21 cd21 ct21), sl21⟩) (c21 : PySem.W.codeIn K cd21 "_law_worth" = true) (k21 : PySem.W.keepIn K (.ref f21) = true)
    (a22 : PySem.W.nsIn K mainGlobals "_law_due" = some (some (.ref f22))) (l22 : K.lookup f22 = some ⟨oc22, od22, .func (PySem.W.fnOf "_law_due" "_law_due" (defArgs s_law_due) (defBody s_law_due) (defScope s_law_due) .none kV22 dc22 pm22 an22 cd22 ct22), sl22⟩) (c22 : PySem.W.codeIn K cd22 "_law_due" = true) (k22 : PySem.W.keepIn K (.ref f22) = true)
    (a23 : PySem.W.nsIn K mainGlobals "law" = some (some (.ref f23))) (l23 : K.lookup f23 = some ⟨oc23, od23, .func (PySem.W.fnOf "law" "law" (defArgs s_law) (defBody s_law) (defScope s_law) .none kV23 dc23 pm23 an23 cd23 ct23), sl23⟩) (c23 : PySem.W.codeIn K cd23 "law" = true) (k23 : PySem.W.keepIn K (.ref f23) = true)
    (aL : PySem.W.nsIn K mainGlobals "LEAF_SIGNS" = some (some (.ref lv))) (lL : K.lookup lv = some ⟨.type "tuple", odL, .seq #[.str "num" t1, .str "name" t2, .str "ask" t3, .str "stop" t4, .str "gap" t5] nL, slL⟩)
    (aM : PySem.W.nsIn K mainGlobals "MANY_PARTS" = some (some (.ref md))) (lM : K.lookup md = some ⟨.type "dict", none, .dict esM nM, #[]⟩) (kM : PySem.W.KeysLit w.params esM.toList) (sM : (md == sysModules) = false)
    (n0 : PySem.W.nsIn K md "say" = some (some (.int 1 x1)))
    (n1 : PySem.W.nsIn K md "add" = some (some (.int 2 x2)))
    (n2 : PySem.W.nsIn K md "sub" = some (some (.int 2 x3)))
    (n3 : PySem.W.nsIn K md "mul" = some (some (.int 2 x4)))
    (n4 : PySem.W.nsIn K md "then" = some (some (.int 2 x5)))
    (n5 : PySem.W.nsIn K md "if" = some (some (.int 3 x6)))
    (n6 : PySem.W.nsIn K md "let" = some (some (.int 2 x7)))
    (aO : PySem.W.nsIn K mainGlobals "ONES" = some (some (.ref oa))) (lO : K.lookup oa = some ⟨.type "tuple", odO, .seq #[.int 1 v1, .int 1 v2, .int 1 v3, .int 1 v4] nO, slO⟩)
    (aW : PySem.W.nsIn K mainGlobals "MOST_OWN" = some (some (.int 9 w1))) (aT : PySem.W.nsIn K mainGlobals "MOST_TIMES" = some (some (.int 3 w2)))
    (z_len : PySem.W.nsIn K mainGlobals "len" = some none)
    (z_range : PySem.W.nsIn K mainGlobals "range" = some none)
    (z_zip : PySem.W.nsIn K mainGlobals "zip" = some none)
    (z_isinstance : PySem.W.nsIn K mainGlobals "isinstance" = some none)
    (z_int : PySem.W.nsIn K mainGlobals "int" = some none)
    (z_bool : PySem.W.nsIn K mainGlobals "bool" = some none)
    (z_tuple : PySem.W.nsIn K mainGlobals "tuple" = some none)
    (z_dict : PySem.W.nsIn K mainGlobals "dict" = some none)
    (z_all : PySem.W.nsIn K mainGlobals "all" = some none)
    (z_sum : PySem.W.nsIn K mainGlobals "sum" = some none)
    (z_sorted : PySem.W.nsIn K mainGlobals "sorted" = some none)
    : ∃ fd : FuncData, (∀ (s : Shared) (v : Value), BindsTo s fd ⟨[v], []⟩ [("_law_script", v)]) ∧ ∀ base : Heap, K.In base → base.Ns mainGlobals mg → FnOk l.prog w K mg base CX0 125 fa fd ["_law_script"] (sp_law K) := by
  have e := hfa.symm.trans (PySem.W.mg_of X G a23)
  cases e
  have z_len := PySem.W.mg_none_of X G z_len
  have z_range := PySem.W.mg_none_of X G z_range
  have z_zip := PySem.W.mg_none_of X G z_zip
  have z_isinstance := PySem.W.mg_none_of X G z_isinstance
  have z_int := PySem.W.mg_none_of X G z_int
  have z_bool := PySem.W.mg_none_of X G z_bool
  have z_tuple := PySem.W.mg_none_of X G z_tuple
  have z_dict := PySem.W.mg_none_of X G z_dict
  have z_all := PySem.W.mg_none_of X G z_all
  have z_sum := PySem.W.mg_none_of X G z_sum
  have z_sorted := PySem.W.mg_none_of X G z_sorted
  have mL := PySem.W.mg_of X G aL
  have hL : LeafSigns K lv := ⟨_, _, _, lL, rfl, rfl, (by show 5 ≤ sizeLine; decide), .cons ⟨_, rfl⟩ (.cons ⟨_, rfl⟩ (.cons ⟨_, rfl⟩ (.cons ⟨_, rfl⟩ (.cons ⟨_, rfl⟩ .nil))))⟩
  have mM := PySem.W.mg_of X G aM
  have hM : KDic K w.params md := ⟨⟨esM, nM, lM, kM⟩, sM⟩
  have hY : ManyK K md := fun k hk => by
    cases k with
    | num => cases hk
    | name => cases hk
    | ask => cases hk
    | stop => cases hk
    | gap => cases hk
    | say => exact ⟨_, n0⟩
    | add => exact ⟨_, n1⟩
    | sub => exact ⟨_, n2⟩
    | mul => exact ⟨_, n3⟩
    | thn => exact ⟨_, n4⟩
    | ite => exact ⟨_, n5⟩
    | lett => exact ⟨_, n6⟩
  have mO := PySem.W.mg_of X G aO
  have hO : OnesK K oa := ⟨_, _, _, lO, rfl, rfl, (by show 4 ≤ sizeLine; decide), .cons ⟨_, rfl⟩ (.cons ⟨_, rfl⟩ (.cons ⟨_, rfl⟩ (.cons ⟨_, rfl⟩ .nil)))⟩
  have mW := PySem.W.mg_of X G aW
  have mT := PySem.W.mg_of X G aT
  have F0 := fun_mk (st := s_is_whole) l0 c0 k0
  have b0 := F0.binds (ps := ["value"]) fun _ _ _ _ _ _ us hl => match us, hl with | [_], _ => rfl
  have m0 := PySem.W.mg_of X G a0
  have F1 := fun_mk (st := s_parts_begin) l1 c1 k1
  have b1 := F1.binds (ps := ["tree"]) fun _ _ _ _ _ _ us hl => match us, hl with | [_], _ => rfl
  have m1 := PySem.W.mg_of X G a1
  have F2 := fun_mk (st := s_parts) l2 c2 k2
  have b2 := F2.binds (ps := ["tree"]) fun _ _ _ _ _ _ us hl => match us, hl with | [_], _ => rfl
  have m2 := PySem.W.mg_of X G a2
  have F3 := fun_mk (st := s_is_between) l3 c3 k3
  have b3 := F3.binds (ps := ["value", "most"]) fun _ _ _ _ _ _ us hl => match us, hl with | [_, _], _ => rfl
  have m3 := PySem.W.mg_of X G a3
  have F4 := fun_mk (st := s_is_scale_row) l4 c4 k4
  have b4 := F4.binds (ps := ["row", "many"]) fun _ _ _ _ _ _ us hl => match us, hl with | [_, _], _ => rfl
  have m4 := PySem.W.mg_of X G a4
  have F5 := fun_mk (st := s_check_scale) l5 c5 k5
  have b5 := F5.binds (ps := ["scale"]) fun _ _ _ _ _ _ us hl => match us, hl with | [_], _ => rfl
  have m5 := PySem.W.mg_of X G a5
  have F6 := fun_mk (st := s_weighed_parts) l6 c6 k6
  have b6 := F6.binds (ps := ["tree", "scale"]) fun _ _ _ _ _ _ us hl => match us, hl with | [_, _], _ => rfl
  have m6 := PySem.W.mg_of X G a6
  have F7 := fun_mk (st := s_worth) l7 c7 k7
  have b7 := F7.binds (ps := ["tree", "scale"]) fun _ _ _ _ _ _ us hl => match us, hl with | [_, _], _ => rfl
  have m7 := PySem.W.mg_of X G a7
  have F8 := fun_mk (st := s_gap_weights) l8 c8 k8
  have b8 := F8.binds (ps := ["shape", "scale"]) fun _ _ _ _ _ _ us hl => match us, hl with | [_, _], _ => rfl
  have m8 := PySem.W.mg_of X G a8
  have F9 := fun_mk (st := s_falls) l9 c9 k9
  have b9 := F9.binds (ps := ["rule", "scale"]) fun _ _ _ _ _ _ us hl => match us, hl with | [_, _], _ => rfl
  have m9 := PySem.W.mg_of X G a9
  have F10 := fun_mk (st := s_law_cell_at) l10 c10 k10
  have b10 := F10.binds (ps := ["_law_script", "_law_k"]) fun _ _ _ _ _ _ us hl => match us, hl with | [_, _], _ => rfl
  have m10 := PySem.W.mg_of X G a10
  have F11 := fun_mk (st := s_law_words) l11 c11 k11
  have b11 := F11.binds (ps := ["_law_cell", "_law_many"]) fun _ _ _ _ _ _ us hl => match us, hl with | [_, _], _ => rfl
  have m11 := PySem.W.mg_of X G a11
  have F12 := fun_mk (st := s_law_scale) l12 c12 k12
  have b12 := F12.binds (ps := ["_law_cells"]) fun _ _ _ _ _ _ us hl => match us, hl with | [_], _ => rfl
  have m12 := PySem.W.mg_of X G a12
  have F13 := fun_mk (st := s_law_shape) l13 c13 k13
  have b13 := F13.binds (ps := ["_law_cells", "_law_leaves", "_law_loud"]) fun _ _ _ _ _ _ us hl => match us, hl with | [_, _, _], _ => rfl
  have m13 := PySem.W.mg_of X G a13
  have F14 := fun_mk (st := s_law_parts) l14 c14 k14
  have b14 := F14.binds (ps := ["_law_tree"]) fun _ _ _ _ _ _ us hl => match us, hl with | [_], _ => rfl
  have m14 := PySem.W.mg_of X G a14
  have F15 := fun_mk (st := s_law_gaps) l15 c15 k15
  have b15 := F15.binds (ps := ["_law_shape_here"]) fun _ _ _ _ _ _ us hl => match us, hl with | [_], _ => rfl
  have m15 := PySem.W.mg_of X G a15
  have F16 := fun_mk (st := s_law_is_loud) l16 c16 k16
  have b16 := F16.binds (ps := ["_law_shape_here"]) fun _ _ _ _ _ _ us hl => match us, hl with | [_], _ => rfl
  have m16 := PySem.W.mg_of X G a16
  have F17 := fun_mk (st := s_law_left) l17 c17 k17
  have b17 := F17.binds (ps := ["_law_cells", "_law_gaps_here", "_law_names"]) fun _ _ _ _ _ _ us hl => match us, hl with | [_, _, _], _ => rfl
  have m17 := PySem.W.mg_of X G a17
  have F18 := fun_mk (st := s_law_kinds) l18 c18 k18
  have b18 := F18.binds (ps := ["_law_there", "_law_cell"]) fun _ _ _ _ _ _ us hl => match us, hl with | [_, _], _ => rfl
  have m18 := PySem.W.mg_of X G a18
  have F19 := fun_mk (st := s_law_right) l19 c19 k19
  have b19 := F19.binds (ps := ["_law_cells", "_law_there", "_law_kinds_here", "_law_loud", "_law_names"]) fun _ _ _ _ _ _ us hl => match us, hl with | [_, _, _, _, _], _ => rfl
  have m19 := PySem.W.mg_of X G a19
  have F20 := fun_mk (st := s_law_rule) l20 c20 k20
  have b20 := F20.binds (ps := ["_law_cells", "_law_gaps_here", "_law_names"]) fun _ _ _ _ _ _ us hl => match us, hl with | [_, _, _], _ => rfl
  have m20 := PySem.W.mg_of X G a20
  have F21 := fun_mk (st := s_law_worth) l21 c21 k21
  have b21 := F21.binds (ps := ["_law_tree", "_law_scale_here", "_law_worths"]) fun _ _ _ _ _ _ us hl => match us, hl with | [_, _, _], _ => rfl
  have m21 := PySem.W.mg_of X G a21
  have F22 := fun_mk (st := s_law_due) l22 c22 k22
  have b22 := F22.binds (ps := ["_law_rule_here", "_law_scale_here"]) fun _ _ _ _ _ _ us hl => match us, hl with | [_, _], _ => rfl
  have m22 := PySem.W.mg_of X G a22
  have F23 := fun_mk (st := s_law) l23 c23 k23
  have b23 := F23.binds (ps := ["_law_script"]) fun _ _ _ _ _ _ us hl => match us, hl with | [_], _ => rfl
  have m23 := PySem.W.mg_of X G a23
  refine ⟨PySem.W.fnOf "law" "law" (defArgs s_law) (defBody s_law) (defScope s_law) .none kV23 dc23 pm23 an23 cd23 ct23, fun s v => .of_eq rfl, fun base _ _ => ?_⟩
  have G0 : FnB l.prog w K mg base 1 "is_whole" f0 _ _ _ := ⟨ok_is_whole (k := 0) F0 z_isinstance z_int z_bool, b0, k0, m0⟩
  have G1 : FnB l.prog w K mg base 1 "parts_begin" f1 _ _ _ := ⟨ok_parts_begin (k := 0) F1 z_len mL hL, b1, k1, m1⟩
  have G2 : FnB l.prog w K mg base 2 "parts" f2 _ _ _ := ⟨ok_parts F2 (G1.up (k := 1) (by decide)), b2, k2, m2⟩
  have G3 : FnB l.prog w K mg base 2 "is_between" f3 _ _ _ := ⟨ok_is_between F3 (G0.up (k := 1) (by decide)), b3, k3, m3⟩
  have G4 : FnB l.prog w K mg base 3 "is_scale_row" f4 _ _ _ := ⟨ok_is_scale_row F4 z_isinstance z_tuple z_len z_all mW mT (G3.up (k := 2) (by decide)), b4, k4, m4⟩
  have G5 : FnB l.prog w K mg base 4 "check_scale" f5 _ _ _ := ⟨ok_check_scale F5 z_isinstance z_dict mM hM hY (G4.up (k := 3) (by decide)), b5, k5, m5⟩
  have G6 : FnB l.prog w K mg base 3 "weighed_parts" f6 _ _ _ := ⟨ok_weighed F6 z_zip mO hO (G2.up (k := 2) (by decide)), b6, k6, m6⟩
  have G7 : FnB l.prog w K mg base 5 "worth" f7 _ _ _ := ⟨ok_worth F7 z_sum mO hO (G5.up (k := 4) (by decide)) (G6.up (k := 4) (by decide)), b7, k7, m7⟩
  have G8 : FnB l.prog w K mg base 4 "gap_weights" f8 _ _ _ := ⟨ok_gapw F8 (G6.up (k := 3) (by decide)), b8, k8, m8⟩
  have G9 : FnB l.prog w K mg base 6 "falls" f9 _ _ _ := ⟨ok_falls F9 z_dict z_all (G7.up (k := 5) (by decide)) (G8.up (k := 5) (by decide)), b9, k9, m9⟩
  have G10 : FnB l.prog w K mg base 1 "_law_cell_at" f10 _ _ _ := ⟨ok_cell_at (k := 0) F10 z_len, b10, k10, m10⟩
  have G11 : FnB l.prog w K mg base 1 "_law_words" f11 _ _ _ := ⟨ok_words (k := 0) F11 z_range, b11, k11, m11⟩
  have G12 : FnB l.prog w K mg base 1 "_law_scale" f12 _ _ _ := ⟨ok_scale (k := 0) F12 z_range z_zip, b12, k12, m12⟩
  have G13 : FnB l.prog w K mg base 1 "_law_shape" f13 _ _ _ := ⟨ok_shape (k := 0) F13 z_len, b13, k13, m13⟩
  have G14 : FnB l.prog w K mg base 1 "_law_parts" f14 _ _ _ := ⟨ok_lparts (k := 0) F14, b14, k14, m14⟩
  have G15 := all_gaps F15 b15 m15 z_len (G14.up (k := 1) (by decide)) 122
  have G16 := all_loud F16 b16 m16 (G14.up (k := 1) (by decide)) 122
  have G17 : FnB l.prog w K mg base 2 "_law_left" f17 _ _ _ := ⟨ok_left F17 (G13.up (k := 1) (by decide)), b17, k17, m17⟩
  have G18 : FnB l.prog w K mg base 1 "_law_kinds" f18 _ _ _ := ⟨ok_kinds (k := 0) F18 z_sorted z_tuple, b18, k18, m18⟩
  have G19 : FnB l.prog w K mg base 2 "_law_right" f19 _ _ _ := ⟨ok_right F19 z_sorted (G13.up (k := 1) (by decide)), b19, k19, m19⟩
  have G20 : FnB l.prog w K mg base 124 "_law_rule" f20 _ _ _ := ⟨ok_rule F20 (G17.up (k := 123) (by decide)) (G15.up (k := 123) (by decide)) (G18.up (k := 123) (by decide)) (G19.up (k := 123) (by decide)) (G16.up (k := 123) (by decide)), b20, k20, m20⟩
  have G21 := all_lworth F21 b21 m21 z_len z_range (G14.up (k := 1) (by decide)) 122
  have G22 : FnB l.prog w K mg base 124 "_law_due" f22 _ _ _ := ⟨ok_due F22 z_sorted (G21.up (k := 123) (by decide)) (G15.up (k := 123) (by decide)), b22, k22, m22⟩
  exact ok_law F23 z_range z_dict z_isinstance z_bool (G10.up (k := 124) (by decide)) (G12.up (k := 124) (by decide)) (G11.up (k := 124) (by decide)) (G20.up (k := 124) (by decide)) (G9.up (k := 124) (by decide)) (G22.up (k := 124) (by decide))
theorem walk {l : PySem.W.OpenLaw} {q : Program} {loose : List Str} {XP : (Str → Option Value) → Heap → Prop} {YP : World → Heap → Prop} {d : DefRec} {K : Params → PySem.W.Frag} (hn : l.most = some 63) (hdf : d.params.defaults = [])
    (hY : ∀ (w : World) (h : Heap), YP w h → (K w.params).In h)
    (F : ∀ (w : World) (mg : Str → Option Value) (fa : Addr) (h : Heap), (K w.params).In h → h.Ns mainGlobals mg → mg d.name = some (.ref fa) →
      ∃ fd : FuncData, (∀ (s : Shared) (u : Value), BindsTo s fd ⟨[u], []⟩ [("_law_script", u)]) ∧ ∀ base : Heap, (K w.params).In base → base.Ns mainGlobals mg → FnOk l.prog w (K w.params) mg base CX0 125 fa fd ["_law_script"] (sp_law (K w.params))) :
    PySem.W.WalkO q loose XP YP l.row.toRowW d [] (fun f vs => PySem.call f vs) :=
  L2.walk_of (n := 63) (k := 125) (x := "_law_script") (CX := fun _ => CX0) (sp := fun w => sp_law (K w.params)) hn (by decide) hdf ⟨rfl, by decide, by decide⟩ hY F (fun _ _ a ns hl _ hS => ⟨a, ns, rfl, hS, hl, fun _ => rfl⟩) fun _ _ _ _ _ z => z
end K21
open PySem PySem.W PyProof.Rows
set_option maxRecDepth 100000 in
set_option maxHeartbeats 0 in
theorem PySem.Challenge.cw_recastle_k21_which_rules_fall_holds : PySem.Challenge.rw_recastle_k21_which_rules_fall.Holds := by
  w_on; o_law; k_head; (case hw => w_witness2)
  k_fill
  refine K21.walk (l := PySem.Challenge.rw_recastle_k21_which_rules_fall) rfl rfl (fun w h Y => PySem.W.kIn_of Y) ?F
  case F =>
    intro w mg fa h KX G hmg
    refine' K21.all_mk KX G hmg ?a0 ?l0 ?c0 ?k0 ?a1 ?l1 ?c1 ?k1 ?a2 ?l2 ?c2 ?k2 ?a3 ?l3 ?c3 ?k3 ?a4 ?l4 ?c4 ?k4 ?a5 ?l5 ?c5 ?k5 ?a6 ?l6 ?c6 ?k6 ?a7 ?l7 ?c7 ?k7 ?a8 ?l8 ?c8 ?k8 ?a9 ?l9 ?c9 ?k9 ?a10 ?l10 ?c10 ?k10 ?a11 ?l11 ?c11 ?k11 ?a12 ?l12 ?c12 ?k12 ?a13 ?l13 ?c13 ?k13 ?a14 ?l14 ?c14 ?k14 ?a15 ?l15 ?c15 ?k15 ?a16 ?l16 ?c16 ?k16 ?a17 ?l17 ?c17 ?k17 ?a18 ?l18 ?c18 ?k18 ?a19 ?l19 ?c19 ?k19 ?a20 ?l20 ?c20 ?k20 ?a21 ?l21 ?c21 ?k21 ?a22 ?l22 ?c22 ?k22 ?a23 ?l23 ?c23 ?k23 ?aL ?lL ?aM ?lM ?kM ?sM ?n0 ?n1 ?n2 ?n3 ?n4 ?n5 ?n6 ?aO ?lO ?aW ?aT ?z_len ?z_range ?z_zip ?z_isinstance ?z_int ?z_bool ?z_tuple ?z_dict ?z_all ?z_sum ?z_sorted
    (case a0 => k_is); (case l0 => k_is); (case c0 => k_is); (case k0 => k_is)
    (case a1 => k_is); (case l1 => k_is); (case c1 => k_is); (case k1 => k_is)
    (case a2 => k_is); (case l2 => k_is); (case c2 => k_is); (case k2 => k_is)
    (case a3 => k_is); (case l3 => k_is); (case c3 => k_is); (case k3 => k_is)
    (case a4 => k_is); (case l4 => k_is); (case c4 => k_is); (case k4 => k_is)
    (case a5 => k_is); (case l5 => k_is); (case c5 => k_is); (case k5 => k_is)
    (case a6 => k_is); (case l6 => k_is); (case c6 => k_is); (case k6 => k_is)
    (case a7 => k_is); (case l7 => k_is); (case c7 => k_is); (case k7 => k_is)
    (case a8 => k_is); (case l8 => k_is); (case c8 => k_is); (case k8 => k_is)
    (case a9 => k_is); (case l9 => k_is); (case c9 => k_is); (case k9 => k_is)
    (case a10 => k_is); (case l10 => k_is); (case c10 => k_is); (case k10 => k_is)
    (case a11 => k_is); (case l11 => k_is); (case c11 => k_is); (case k11 => k_is)
    (case a12 => k_is); (case l12 => k_is); (case c12 => k_is); (case k12 => k_is)
    (case a13 => k_is); (case l13 => k_is); (case c13 => k_is); (case k13 => k_is)
    (case a14 => k_is); (case l14 => k_is); (case c14 => k_is); (case k14 => k_is)
    (case a15 => k_is); (case l15 => k_is); (case c15 => k_is); (case k15 => k_is)
    (case a16 => k_is); (case l16 => k_is); (case c16 => k_is); (case k16 => k_is)
    (case a17 => k_is); (case l17 => k_is); (case c17 => k_is); (case k17 => k_is)
    (case a18 => k_is); (case l18 => k_is); (case c18 => k_is); (case k18 => k_is)
    (case a19 => k_is); (case l19 => k_is); (case c19 => k_is); (case k19 => k_is)
    (case a20 => k_is); (case l20 => k_is); (case c20 => k_is); (case k20 => k_is)
    (case a21 => k_is); (case l21 => k_is); (case c21 => k_is); (case k21 => k_is)
    (case a22 => k_is); (case l22 => k_is); (case c22 => k_is); (case k22 => k_is)
    (case a23 => k_is); (case l23 => k_is); (case c23 => k_is); (case k23 => k_is)
    (case aL => k_is); (case lL => k_is); (case aM => k_is); (case lM => k_is)
    (case kM => k_keys); (case sM => decide); (case n0 => k_is); (case n1 => k_is)
    (case n2 => k_is); (case n3 => k_is); (case n4 => k_is); (case n5 => k_is)
    (case n6 => k_is); (case aO => k_is); (case lO => k_is); (case aW => k_is)
    (case aT => k_is); (case z_len => k_is); (case z_range => k_is); (case z_zip => k_is)
    (case z_isinstance => k_is); (case z_int => k_is); (case z_bool => k_is); (case z_tuple => k_is)
    (case z_dict => k_is); (case z_all => k_is); (case z_sum => k_is); (case z_sorted => k_is)
#print axioms PySem.Challenge.cw_recastle_k21_which_rules_fall_holds