import PyProof.Rows.All
import Wide.All
import OpenK.AllK
import Wide.FinOn
import Lean
import PyProof.EqAt
import PyProof.EqKinds
import PyProof.TupleCall
import PyProof.NeKinds
import PyProof.AttrMissHeap
import KE.KDictOf
import KE.KDictLaws
import KE.KSortTup
import PyProof.Rows.SortWalk
import PyProof.Rows.SortShellK
import PySem.Challenge.RW_recastle_k10_gaps_and_quiet
set_option Elab.async false
set_option linter.all false
set_option maxRecDepth 100000
namespace L2
open PySem PySem.Spec PyProof.Rows
abbrev Key := Sum Int Str
def keyIs : Key → Value → Bool
  | .inl k, v => Value.isInt k v
  | .inr x, v => Value.isStrOf x v
def keyH (w : World) : Key → Int
  | .inl k => hashInt k
  | .inr x => hashStr w x
theorem keyIs_shape : ∀ {k : Key} {v : Value}, keyIs k v = true → (∃ i t, k = Sum.inl i ∧ v = Value.int i t) ∨ (∃ x t, k = Sum.inr x ∧ v = Value.str x t)
  | .inl i, v, h => by
    obtain ⟨t, e⟩ := Value.isInt_shape (k := i) (v := v) h
    exact .inl ⟨i, t, rfl, e⟩
  | .inr x, v, h => by
    obtain ⟨t, e⟩ := Value.isStrOf_shape (x := x) (v := v) h
    exact .inr ⟨x, t, rfl, e⟩
theorem keyIs_int (i : Int) (t : Tok) : keyIs (.inl i) (.int i t) = true := by simp [keyIs, Value.isInt]
theorem keyIs_str (x : Str) (t : Tok) : keyIs (.inr x) (.str x t) = true := by simp [keyIs, Value.isStrOf]
theorem key_ll (a b : Int) : decide ((Sum.inl a : Key) = Sum.inl b) = (a == b) := by
  by_cases e : a = b
  · subst e; simp
  · have h : ¬ (Sum.inl a : Key) = Sum.inl b := fun q => e (Sum.inl.inj q)
    rw [decide_eq_false h]
    exact (beq_eq_false_iff_ne.mpr e).symm
theorem key_rr (a b : Str) : decide ((Sum.inr a : Key) = Sum.inr b) = decide (a = b) := by
  by_cases e : a = b
  · subst e; simp
  · have h : ¬ (Sum.inr a : Key) = Sum.inr b := fun q => e (Sum.inr.inj q)
    rw [decide_eq_false h, decide_eq_false e]
theorem key_lr (a : Int) (b : Str) : decide ((Sum.inl a : Key) = Sum.inr b) = false := decide_eq_false (fun q => nomatch q)
theorem key_rl (a : Str) (b : Int) : decide ((Sum.inr a : Key) = Sum.inl b) = false := decide_eq_false (fun q => nomatch q)
def mixKind (prog : Program) (w : World) : PySem.KeyKind prog w Key where
  is := keyIs
  hash := keyH w
  inj := fun v a b ha hb => by
    rcases keyIs_shape ha with ⟨i, t, rfl, rfl⟩ | ⟨x, t, rfl, rfl⟩
    · rcases keyIs_shape hb with ⟨j, u, rfl, e⟩ | ⟨y, u, rfl, e⟩
      · injection e with e1 _; rw [e1]
      · exact nomatch e
    · rcases keyIs_shape hb with ⟨j, u, rfl, e⟩ | ⟨y, u, rfl, e⟩
      · exact nomatch e
      · injection e with e1 _; rw [e1]
  byValue := fun k v h => by
    rcases keyIs_shape h with ⟨i, t, rfl, rfl⟩ | ⟨x, t, rfl, rfl⟩ <;> rfl
  pyHash := fun hv h => by
    rcases keyIs_shape hv with ⟨i, t, rfl, rfl⟩ | ⟨x, t, rfl, rfl⟩
    · exact wpAny_pyHash_int h
    · exact wpAny_pyHash_str h
  eqBool := fun hu hv h => by
    rcases keyIs_shape hu with ⟨i, t, rfl, rfl⟩ | ⟨x, t, rfl, rfl⟩
    · rcases keyIs_shape hv with ⟨j, u, rfl, rfl⟩ | ⟨y, u, rfl, rfl⟩
      · rw [key_ll] at h; exact wpAny_eqBool_int h
      · rw [key_lr] at h; exact SeqAt.EqAt.int_str i t y u _ _ _ _ h
    · rcases keyIs_shape hv with ⟨j, u, rfl, rfl⟩ | ⟨y, u, rfl, rfl⟩
      · rw [key_rl] at h; exact SeqAt.EqAt.str_int x t j u _ _ _ _ h
      · rw [key_rr] at h; exact wpAny_eqBool_str h
  «strs» := fun k x t v h => by
    rcases keyIs_shape h with ⟨i, u, rfl, e⟩ | ⟨y, u, rfl, e⟩
    · exact nomatch e
    · injection e with e1 _
      subst e1
      cases v <;> rfl
theorem mixKind_int (prog : Program) (w : World) (i : Int) (t : Tok) : (mixKind prog w).is (.inl i) (.int i t) = true := keyIs_int i t
theorem mixKind_str (prog : Program) (w : World) (x : Str) (t : Tok) : (mixKind prog w).is (.inr x) (.str x t) = true := keyIs_str x t
end L2
namespace L2
open PySem PySem.Spec PyProof.Rows
inductive V where
  | non | bl (b : Bool) | int (i : Int) | str (x : Str) | byt (b : Array UInt8) | flt (b : UInt64) | ref (a : Addr) | ty (n : String)
  deriving DecidableEq
def RelV : V → Value → Prop
  | .non, u => u = Value.none
  | .bl b, u => u = Value.bool b
  | .int i, u => ∃ t, u = Value.int i t
  | .str x, u => ∃ t, u = Value.str x t
  | .byt b, u => ∃ t, u = Value.bytes b t
  | .flt b, u => ∃ t, u = Value.float b t
  | .ref a, u => u = Value.ref a
  | .ty n, u => u = Value.type n
abbrev Vals : List V → List Value → Prop := Paired RelV
theorem Vals.length {xs : List V} {us : List Value} (r : Vals xs us) : xs.length = us.length := Paired.length r
theorem Vals.get : ∀ {xs : List V} {us : List Value} {i : Nat} {x : V}, Vals xs us → xs[i]? = some x → ∃ u, us[i]? = some u ∧ RelV x u
  | _, _, _, _, .nil, e => by simp at e
  | _, _, 0, _, .cons r _, e => by simp at e; subst e; exact ⟨_, rfl, r⟩
  | _, _, i + 1, x, .cons _ t, e => by
    obtain ⟨u, h1, h2⟩ := Vals.get (i := i) (x := x) t (by simpa using e)
    exact ⟨u, by simpa using h1, h2⟩
theorem Vals.set {x : V} {u : Value} (r : RelV x u) : ∀ {xs : List V} {us : List Value} (i : Nat), Vals xs us → Vals (xs.set i x) (us.set i u)
  | _, _, _, .nil => .nil
  | _, _, 0, .cons _ t => .cons r t
  | _, _, i + 1, .cons q t => .cons q (Vals.set r i t)
theorem Vals.append : ∀ {xs ys : List V} {us ws : List Value}, Vals xs us → Vals ys ws → Vals (xs ++ ys) (us ++ ws)
  | _, _, _, _, .nil, s => s
  | _, _, _, _, .cons r t, s => .cons r (Vals.append t s)
theorem Vals.take : ∀ {xs : List V} {us : List Value} (n : Nat), Vals xs us → Vals (xs.take n) (us.take n)
  | _, _, 0, _ => .nil
  | _, _, _ + 1, .nil => .nil
  | _, _, n + 1, .cons r t => .cons r (Vals.take n t)
theorem Vals.drop : ∀ {xs : List V} {us : List Value} (n : Nat), Vals xs us → Vals (xs.drop n) (us.drop n)
  | _, _, 0, r => r
  | _, _, _ + 1, .nil => .nil
  | _, _, n + 1, .cons _ t => Vals.drop n t
def RelO : Option V → Option Value → Prop
  | some v, some u => RelV v u
  | none, none => True
  | _, _ => False
def KV {κ : Type} : List (κ × V) → List (κ × Value) → Prop := Paired fun (p : κ × V) (q : κ × Value) => p.1 = q.1 ∧ RelV p.2 q.2
def kV : Key → V
  | .inl i => .int i
  | .inr x => .str x
inductive HO where
  | lst (xs : List V)
  | tup (xs : List V)
  | dK (kvs : List (Key × V)) | dT (kvs : List (List Key × V))
  | set (S : Int → Bool) (n : Nat)
  | ins (C dx : Addr) (fs : List (Str × V))
  | own (x : Addr)
  | xd (fs : List (Str × V))
  | met (f x : Addr)
  | rng (lo hi : Int)
  | frz (o : Obj) (u : HO)
  | tbl (ps : Array Value)
  | ext (φ : Heap → Prop)
abbrev Hp := Addr → Option HO
def upd (H : Hp) (a : Addr) (o : HO) : Hp := fun b => if b = a then some o else H b
theorem upd_same {H : Hp} {a : Addr} {o : HO} : upd H a o a = some o := by unfold upd; rw [if_pos rfl]
theorem upd_ne {H : Hp} {a b : Addr} {o : HO} (h : b ≠ a) : upd H a o b = H b := by unfold upd; rw [if_neg h]
theorem ne_of {H : Hp} {a b : Addr} {o u : HO} (h : H a = some o) (h' : H b = some u) (d : o ≠ u) : a ≠ b := by
  intro e; subst e; rw [h] at h'; exact d (Option.some.inj h')
theorem ne_of_none {H : Hp} {a b : Addr} {o : HO} (h : H a = some o) (h' : H b = none) : a ≠ b := by
  intro e; subst e; rw [h] at h'; cases h'
section
variable (P : Program) (w : World)
def ObjOk (H : Hp) (h : Heap) (a : Addr) : HO → Prop
  | .lst xs => xs.length ≤ sizeLine ∧ ∃ (its : List Value) (n : Nat), Vals xs its ∧ h.get? a = some { cls := .type "list", data := .seq its.toArray n }
  | .tup xs => xs.length ≤ sizeLine ∧ ∃ its : List Value, Vals xs its ∧ IsTup h a its.toArray
  | .dK kvs => kvs.length ≤ sizeLine ∧ (a == sysModules) = false ∧ ∃ vs, KV kvs vs ∧ h.DictOf (mixKind P w) a vs
  | .dT kvs => kvs.length ≤ sizeLine ∧ (a == sysModules) = false ∧ ∃ xs : List (List Key × Addr × Value),
      Paired (fun (p : List Key × V) (q : List Key × Addr × Value) => p.1 = q.1 ∧ H q.2.1 = some (.tup (p.1.map kV)) ∧ RelV p.2 q.2.2) kvs xs ∧
      ∃ o es ep, h.get? a = some o ∧ o.ExactDict ∧ o.data = .dict es ep ∧ es.toList = xs.map (entryOfKey (tupleKind (mixKind P w))) ∧ (xs.map (·.1)).Nodup
  | .set S n => h.SetOf (intKind P w) a S n
  | .ins C dx fs => H dx = some (.own a) ∧ fs.length ≤ 1000 ∧ dx ≠ a ∧ h.get? a = some (PySem.W.instObj C dx) ∧
      ∃ mA, h.Ns1 dx mA ∧ (∀ f, RelO (fs.lookup f) (mA f)) ∧ PySem.Within mA (fs.map (·.1))
  | .own _ => ∃ o, h.get? a = some o
  | .xd fs => ∃ mA, h.Ns1 a mA ∧ ∀ f, RelO (fs.lookup f) (mA f)
  | .rng lo hi => ∃ t u v, h.get? a = some { cls := .type "range", data := .fields #[.int lo t, .int hi u, .int 1 v] }
  | .frz o u => h.get? a = some o ∧ ObjOk H h a u
  | .tbl ps => h.get? a = some { cls := .none, data := .fields ps }
  | .met f x => h.get? a = some (PySem.W.methodObj (.ref f) (.ref x))
  | .ext φ => φ h ∧ (∃ o, h.get? a = some o) ∧ ∀ h1 h2 : Heap, φ h1 → (∀ o, h1.get? a = some o → h2.get? a = some o) → φ h2
def HOk (H : Hp) (h : Heap) : Prop := ∀ a o, H a = some o → ObjOk P w H h a o
end
section
variable {P : Program} {w : World} {H H' : Hp} {h h' : Heap} {a : Addr} {o : HO}
theorem ObjOk.lt (x : ObjOk P w H h a o) : a < h.objs.size := by
  cases o with
  | lst xs => obtain ⟨_, _, _, _, e⟩ := x; exact Heap.lt_size e
  | tup xs => obtain ⟨_, _, _, p⟩ := x; exact p.lt
  | dK kvs => obtain ⟨_, _, _, _, o, _, _, e, _⟩ := x; exact Heap.lt_size e
  | dT kvs => obtain ⟨_, _, _, _, o, _, _, e, _⟩ := x; exact Heap.lt_size e
  | set S n => obtain ⟨o, _, _, _, e, _⟩ := x; exact Heap.lt_size e
  | ins C dx fs => obtain ⟨_, _, _, e, _⟩ := x; exact Heap.lt_size e
  | own y => obtain ⟨_, e⟩ := x; exact Heap.lt_size e
  | xd fs => obtain ⟨_, ⟨_, _, _, e, _⟩, _⟩ := x; exact Heap.lt_size e
  | rng lo hi => obtain ⟨_, _, _, e⟩ := x; exact Heap.lt_size e
  | frz ob u => obtain ⟨e, _⟩ := x; exact Heap.lt_size e
  | tbl ps => exact Heap.lt_size (show h.get? a = some _ from x)
  | met f y => exact Heap.lt_size (show h.get? a = some _ from x)
  | ext φ => obtain ⟨_, ⟨_, e⟩, _⟩ := x; exact Heap.lt_size e
theorem Paired.mapP {α β : Type} {F G : α → β → Prop} : ∀ {l₁ : List α} {l₂ : List β}, Paired F l₁ l₂ → (∀ a b, F a b → G a b) → Paired G l₁ l₂
  | _, _, .nil, _ => .nil
  | _, _, .cons r t, f => .cons (f _ _ r) (Paired.mapP t f)
theorem ObjOk.stay (x : ObjOk P w H h a o) (k : ∀ b u, (b = a ∨ H b = some (.own a)) → h.get? b = some u → h'.get? b = some u)
    (ho : ∀ b, H b = some (.own a) → H' b = some (.own a)) (ht : ∀ b xs, H b = some (.tup xs) → H' b = some (.tup xs)) : ObjOk P w H' h' a o := by
  induction o with
  | lst xs => obtain ⟨z, its, n, r, e⟩ := x; exact ⟨z, its, n, r, k _ _ (.inl rfl) e⟩
  | tup xs => obtain ⟨z, its, r, ob, e, c⟩ := x; exact ⟨z, its, r, ob, k _ _ (.inl rfl) e, c⟩
  | dK kvs => obtain ⟨z, y, vs, r, ob, es, ep, e, c⟩ := x; exact ⟨z, y, vs, r, ob, es, ep, k _ _ (.inl rfl) e, c⟩
  | dT kvs =>
    obtain ⟨z, y, xs, r, ob, es, ep, e, c⟩ := x
    exact ⟨z, y, xs, Paired.mapP r fun p q z => ⟨z.1, ht _ _ z.2.1, z.2.2⟩, ob, es, ep, k _ _ (.inl rfl) e, c⟩
  | set S n => obtain ⟨ob, es, ep, t, e, c⟩ := x; exact ⟨ob, es, ep, t, k _ _ (.inl rfl) e, c⟩
  | ins C dx fs =>
    obtain ⟨d, z, ne, e, mA, ⟨od, es, ep, e2, c⟩, r⟩ := x
    exact ⟨ho _ d, z, ne, k _ _ (.inl rfl) e, mA, ⟨od, es, ep, k _ _ (.inr d) e2, c⟩, r⟩
  | own y => obtain ⟨ob, e⟩ := x; exact ⟨ob, k _ _ (.inl rfl) e⟩
  | xd fs => obtain ⟨mA, ⟨od, es, ep, e, c⟩, r⟩ := x; exact ⟨mA, ⟨od, es, ep, k _ _ (.inl rfl) e, c⟩, r⟩
  | rng lo hi => obtain ⟨t, u, v, e⟩ := x; exact ⟨t, u, v, k _ _ (.inl rfl) e⟩
  | frz ob u ih => obtain ⟨e, q⟩ := x; exact ⟨k _ _ (.inl rfl) e, ih q⟩
  | tbl ps =>
    have e : h.get? a = some { cls := .none, data := .fields ps } := x
    show h'.get? a = some { cls := .none, data := .fields ps }
    exact k a _ (.inl rfl) e
  | met f y =>
    have e : h.get? a = some (PySem.W.methodObj (.ref f) (.ref y)) := x
    show h'.get? a = some (PySem.W.methodObj (.ref f) (.ref y))
    exact k a _ (.inl rfl) e
  | ext φ => obtain ⟨p, ⟨o, e⟩, st⟩ := x; exact ⟨st _ _ p fun o q => k _ _ (.inl rfl) q, ⟨o, k _ _ (.inl rfl) e⟩, st⟩
theorem HOk.lt (x : HOk P w H h) (e : H a = some o) : a < h.objs.size := (x a o e).lt
theorem HOk.fresh (x : HOk P w H h) (e : h.objs.size ≤ a) : H a = none := by
  cases q : H a with
  | none => rfl
  | some u => exact absurd (Nat.lt_of_lt_of_le (x.lt q) e) (Nat.lt_irrefl _)
theorem HOk.kept (x : HOk P w H h) (k : ∀ b u, h.get? b = some u → h'.get? b = some u) : HOk P w H h' := fun a o e =>
  (x a o e).stay (fun b u _ q => k b u q) (fun _ q => q) fun _ _ q => q
theorem HOk.laid (x : HOk P w H h) (k : ∀ b u, h.get? b = some u → h'.get? b = some u) (hp : h.objs.size ≤ a) (new : ObjOk P w (upd H a o) h' a o) : HOk P w (upd H a o) h' := fun b u e => by
  have hn := x.fresh hp
  by_cases hb : b = a
  · subst hb; rw [upd_same] at e; cases e; exact new
  · rw [upd_ne hb] at e
    exact (x b u e).stay (fun c v _ q => k c v q) (fun c q => by rw [upd_ne (ne_of_none q hn)]; exact q) fun c xs q => by rw [upd_ne (ne_of_none q hn)]; exact q
end
def Rd (H : Hp) (a : Addr) (u : HO) : Prop := H a = some u ∨ ∃ o, H a = some (.frz o u)
theorem Rd.ok {P : Program} {w : World} {H : Hp} {h : Heap} {a : Addr} {u : HO} (r : Rd H a u) (x : HOk P w H h) : ObjOk P w H h a u := by
  rcases r with r | ⟨o, r⟩
  · exact x a u r
  · obtain ⟨_, q⟩ := x a _ r
    exact q
def Mut : Option HO → Prop
  | some (.lst _) => True
  | some (.dK _) => True
  | some (.dT _) => True
  | some (.set _ _) => True
  | some (.ins _ _ _) => True
  | some (.ext _) => True
  | _ => False
section
variable {P : Program} {w : World} {H : Hp} {h h' : Heap} {x e : Addr} {o' : HO}
theorem HOk.write (ok : HOk P w H h) (mu : Mut (H x)) (he : e = x ∨ H e = some (.own x)) (k : ∀ b u, b ≠ e → h.get? b = some u → h'.get? b = some u) (heo : ∃ u, h'.get? e = some u)
    (new : ObjOk P w (upd H x o') h' x o') : HOk P w (upd H x o') h' := fun b u q => by
  have nown : ∀ c y, H c = some (.own y) → c ≠ x := fun c y r z => by subst z; rw [r] at mu; exact mu
  have ntup : ∀ c xs, H c = some (.tup xs) → c ≠ x := fun c xs r z => by subst z; rw [r] at mu; exact mu
  by_cases hb : b = x
  · subst hb; rw [upd_same] at q; cases q; exact new
  · rw [upd_ne hb] at q
    by_cases hbe : b = e
    · have q' : H b = some (.own x) := by
        rcases he with z | z
        · exact absurd (hbe.trans z) hb
        · rw [hbe]; exact z
      rw [q] at q'; cases q'
      obtain ⟨v, hv⟩ := heo
      exact ⟨v, by rw [hbe]; exact hv⟩
    · refine (ok b u q).stay (fun c v hc r => k c v ?_ r) (fun c r => by rw [upd_ne (nown c b r)]; exact r) fun c xs r => by rw [upd_ne (ntup c xs r)]; exact r
      rcases hc with rfl | hc
      · exact hbe
      · rintro rfl
        rcases he with z | z
        · exact nown c b hc z
        · rw [hc] at z; cases z; exact hb rfl
end
structure Un (fs ex : List Addr) (H H' : Hp) (h h' : Heap) : Prop where
  keep : ∀ b o, h.get? b = some o → H b = none → b ∉ fs → b ∉ ex → h'.get? b = some o
  slot : ∀ b o, h.get? b = some o → H b = none → b ∈ fs → b ∉ ex → ∃ sl, h'.get? b = some { o with slots := sl }
  free : ∀ b o, h.get? b = some o → H b = none → b ∉ ex → H' b = none
  there : ∀ b o, h.get? b = some o → b ∉ ex → ∃ o', h'.get? b = some o'
  tups : ∀ b xs, H b = some (.tup xs) → H' b = some (.tup xs)
  frzs : ∀ b o u, H b = some (.frz o u) → H' b = some (.frz o u)
  tbls : ∀ b ps, H b = some (.tbl ps) → ∃ more, H' b = some (.tbl (ps ++ more))
section
variable {fs fs' ex ex' : List Addr} {H H1 H2 : Hp} {h h1 h2 h' : Heap} {a x e : Addr} {o : HO}
theorem Un.any (u : Un fs ex H H1 h h1) {b : Addr} {ob : Obj} (q : h.get? b = some ob) (n : H b = none) (hx : b ∉ ex) : ∃ sl, h1.get? b = some { ob with slots := sl } := by
  by_cases hb : b ∈ fs
  · exact u.slot b ob q n hb hx
  · exact ⟨ob.slots, u.keep b ob q n hb hx⟩
theorem Un.kept (k : ∀ b u, h.get? b = some u → h'.get? b = some u) : Un fs ex H H h h' :=
  ⟨fun b ob q _ _ _ => k b ob q, fun b ob q _ _ _ => ⟨ob.slots, k b ob q⟩, fun _ _ _ n _ => n, fun b ob q _ => ⟨ob, k b ob q⟩, fun _ _ q => q, fun _ _ _ q => q, fun _ ps q => ⟨#[], by rw [q]; simp⟩⟩
theorem Un.refl : Un fs ex H H h h := Un.kept fun _ _ q => q
theorem Un.laid (k : ∀ b u, h.get? b = some u → h'.get? b = some u) (hp : h.objs.size ≤ a) (hn : H a = none) : Un fs ex H (upd H a o) h h' where
  keep := fun b u q _ _ _ => k b u q
  slot := fun b u q _ _ _ => ⟨u.slots, k b u q⟩
  free := fun b u q n _ => by rw [upd_ne (Nat.ne_of_lt (Nat.lt_of_lt_of_le (Heap.lt_size q) hp))]; exact n
  there := fun b u q _ => ⟨u, k b u q⟩
  tups := fun b xs q => by rw [upd_ne (ne_of_none q hn)]; exact q
  frzs := fun b u xs q => by rw [upd_ne (ne_of_none q hn)]; exact q
  tbls := fun b ps q => ⟨#[], by rw [upd_ne (ne_of_none q hn), q]; simp⟩
theorem Un.write (mu : Mut (H x)) (he : e = x ∨ H e = some (.own x)) (k : ∀ b u, b ≠ e → h.get? b = some u → h'.get? b = some u) (heo : ∃ u, h'.get? e = some u) : Un fs ex H (upd H x o) h h' := by
  have hx : ∀ b, H b = none → b ≠ x := fun b n z => by subst z; rw [n] at mu; exact mu
  have hb : ∀ b, H b = none → b ≠ e := fun b n z => by
    subst z
    rcases he with r | r
    · exact hx b n r
    · rw [n] at r; cases r
  have hm : ∀ b u, H b = some u → ¬ Mut (some u) → b ≠ x := fun b u q nm z => by subst z; rw [q] at mu; exact nm mu
  refine ⟨fun b u q n _ _ => k b u (hb b n) q, fun b u q n _ _ => ⟨u.slots, k b u (hb b n) q⟩, fun b u q n _ => by rw [upd_ne (hx b n)]; exact n, fun b u q _ => ?_,
    fun b xs q => by rw [upd_ne (hm b _ q fun z => z)]; exact q, fun b u xs q => by rw [upd_ne (hm b _ q fun z => z)]; exact q, fun b ps q => ⟨#[], by rw [upd_ne (hm b _ q fun z => z), q]; simp⟩⟩
  by_cases hbe : b = e
  · subst hbe; exact heo
  · exact ⟨u, k b u hbe q⟩
end
def trk (h : Heap) (H : Hp) : List Addr := (List.range h.objs.size).filter fun a => (H a).isSome
def hidT (h : Heap) (H : Hp) : Heap := PySem.W.hideAll h (trk h H)
theorem hidT_size (h : Heap) (H : Hp) : (hidT h H).objs.size = h.objs.size := PySem.W.hideAll_size _ _
theorem hidT_get {h : Heap} {H : Hp} {b : Addr} {o : Obj} (e : h.get? b = some o) (n : H b = none) : (hidT h H).get? b = some o :=
  PySem.W.hideAll_get _ e fun hm => by
    have q : (H b).isSome = true := (List.mem_filter.mp hm).2
    rw [n] at q; simp at q
theorem of_hidT {h : Heap} {H : Hp} {b : Addr} {o : Obj} (e : (hidT h H).get? b = some o) : h.get? b = some o ∧ H b = none := by
  have e' : h.get? b = some o := PySem.W.of_hideAll (trk h H) e
  refine ⟨e', ?_⟩
  cases q : H b with
  | none => rfl
  | some x =>
    have hm : b ∈ trk h H := List.mem_filter.mpr ⟨List.mem_range.mpr (Heap.lt_size e'), by simp [q]⟩
    have z : (hidT h H).get? b = none := PySem.W.hideAll_none (trk h H) hm
    rw [z] at e; cases e
def allNews (g h : Heap) (L : Addr) : List (Addr × Obj) := (List.range h.objs.size).filterMap fun a => if a = L ∨ (g.get? a).isSome = true then none else (h.get? a).map fun o => (a, o)
def rest (g h : Heap) (L d : Addr) : List (Addr × Obj) := (allNews g h L).filter fun p => decide (p.1 ≠ d)
end L2
namespace L2
open PySem PySem.Spec PyProof.Rows
structure Mod (K : PySem.W.Frag) (mg : Str → Option Value) (base : Heap) : Prop where
  kin : K.In base
  glob : base.Ns mainGlobals mg
  blt : ∃ mb, base.Ns builtinsNs mb ∧ ∀ x : Str, x ≠ "__name__" → mb x = bootBuiltins x
  nolimit : base.NoLimit
structure Cx where
  prog : Program
  w : World
  K : PySem.W.Frag
  mg : Str → Option Value
  base : Heap
  A : Around
  N : List Str
  s₀ : Shared
  H₀ : Hp
  env : Env
  outer : List Env
  stack : List Env
  ex : List Addr
  fn : Str → Bool
  calm : Bool
  pn : List (Addr × Obj)
  xe : Value → Shared → Prop
def frs (l : List Env) : List Addr := l.filterMap (·.frame)
abbrev Cx.fs (X : Cx) : List Addr := frs X.outer
def Vis (sc : Scope) (x : Str) : Prop := sc.names.lookup x = some .local ∨ sc.names.lookup x = some .cell ∨ sc.names.lookup x = some .free
def Loc (sc : Scope) (x : Str) : Prop := sc.names.lookup x = some .local ∨ sc.names.lookup x = some .cell
def Look (env : Env) (h : Heap) (m : Str → Option Value) (x : Str) (u : Value) : Prop :=
  (env.kindOf x = some .local ∧ m x = some u) ∨ ((env.kindOf x = some .cell ∨ env.kindOf x = some .free) ∧ ∃ c, env.cells.lookup x = some c ∧ h.IsCell c (some u))
structure Cx.Ok (X : Cx) : Prop where
  mod : Mod X.K X.mg X.base
  kind : X.env.scope.kind = .function
  glob : X.env.globals = mainGlobals
  blt : X.env.builtins = builtinsNs
  above : X.s₀.heap.objs.size ≤ X.env.locals
  inj : ∀ x y c, X.env.cells.lookup x = some c → X.env.cells.lookup y = some c → x = y
  has : ∀ x, (X.env.kindOf x = some .cell ∨ X.env.kindOf x = some .free) → ∃ c, X.env.cells.lookup x = some c
  cab : ∀ x c, X.fn x = true → X.env.cells.lookup x = some c → X.s₀.heap.objs.size ≤ c
  hd : X.calm = true → X.A.handled = none
  frames : X.A.frames = some X.stack
  stk : X.stack = X.outer ∨ (X.stack = X.env :: X.outer ∧ X.env.frame = some X.env.locals)
  exf : ∀ b ∈ X.ex, b ≠ X.env.locals ∧ ∀ x c, X.env.cells.lookup x = some c → c ≠ b
  bs : ∀ b o, X.base.get? b = some o → X.s₀.heap.get? b = some o ∧ X.H₀ b = none
  bsz : X.base.objs.size ≤ X.s₀.heap.objs.size
  noex : ∀ b o, X.base.get? b = some o → b ∉ X.ex
  exfs : ∀ b ∈ X.ex, b ∉ X.fs
  funs : X.s₀.heap.FunFrames X.base X.outer
  frf : ∀ b ∈ X.fs, X.H₀ b = none
structure Inv (X : Cx) (pins : List (Addr × Obj)) (σ : List (Option V)) (H : Hp) (s : Shared) : Prop where
  ok : X.Ok
  os : s.os = X.s₀.os
  bare : AllBare s.gens
  base : Un X.fs X.ex X.H₀ H X.s₀.heap s.heap
  loc : ∃ m, s.heap.Ns X.env.locals m ∧ ∀ (i : Nat) (x : Str) (v : V), X.N[i]? = some x → σ[i]? = some (some v) → Vis X.env.scope x → ∃ u, RelV v u ∧ Look X.env s.heap m x u
  cell : ∀ x c, X.env.cells.lookup x = some c → ∃ v, s.heap.IsCell c v
  free : H X.env.locals = none
  freeC : ∀ x c, X.env.cells.lookup x = some c → H c = none
  pin : ∀ p ∈ X.pn ++ pins, s.heap.get? p.1 = some p.2 ∧ H p.1 = none ∧ p.1 ≠ X.env.locals ∧ p.1 ∉ X.fs ∧ ∀ v, p.2.data ≠ .cell v
  hok : HOk X.prog X.w H s.heap
  len : σ.length = X.N.length
section
variable {X : Cx} {pins : List (Addr × Obj)} {σ : List (Option V)} {H H' : Hp} {s : Shared} {h' : Heap}
theorem Cx.Ok.nofr (ok : X.Ok) {b : Addr} {o : Obj} (e : X.base.get? b = some o) : b ∉ X.fs := fun hb => by
  have := (ok.funs.mem hb).1
  rw [e] at this; cases this
theorem Inv.bs (I : Inv X pins σ H s) : ∀ b o, X.base.get? b = some o → s.heap.get? b = some o ∧ H b = none := fun b o e =>
  ⟨I.base.keep b o (I.ok.bs b o e).1 (I.ok.bs b o e).2 (I.ok.nofr e) (I.ok.noex b o e), I.base.free b o (I.ok.bs b o e).1 (I.ok.bs b o e).2 (I.ok.noex b o e)⟩
theorem Inv.bk (I : Inv X pins σ H s) : ∀ b o, X.base.get? b = some o → s.heap.get? b = some o := fun b o e => (I.bs b o e).1
theorem Inv.mod (I : Inv X pins σ H s) : Mod X.K X.mg X.base := I.ok.mod
theorem Inv.kIn (I : Inv X pins σ H s) : X.K.In s.heap := I.ok.mod.kin.keeps I.bk
theorem Inv.lt (I : Inv X pins σ H s) : X.env.locals < s.heap.objs.size := let ⟨_, hn, _⟩ := I.loc; hn.lt
theorem Inv.sz (I : Inv X pins σ H s) : X.s₀.heap.objs.size ≤ s.heap.objs.size := Nat.le_trans I.ok.above (Nat.le_of_lt I.lt)
theorem Inv.nofs (I : Inv X pins σ H s) {a : Addr} (h : s.heap.objs.size ≤ a) : a ∉ X.fs := fun hb => by
  obtain ⟨_, o, ho, _⟩ := I.ok.funs.mem hb
  exact absurd (Nat.lt_of_lt_of_le (Heap.lt_size ho) (Nat.le_trans I.sz h)) (Nat.lt_irrefl _)
theorem Inv.cne (I : Inv X pins σ H s) : ∀ x c, X.env.cells.lookup x = some c → c ≠ X.env.locals := fun x c e z => by
  obtain ⟨v, o, ho, hd⟩ := I.cell x c e
  obtain ⟨m, ⟨o', es, ep, ho', hd', _⟩, _⟩ := I.loc
  rw [z, ho'] at ho; cases ho; rw [hd'] at hd; cases hd
theorem Inv.funs (I : Inv X pins σ H s) : s.heap.FunFrames X.base X.outer := by
  have all : ∀ (l : List Env), (∀ b ∈ frs l, b ∈ X.fs) → X.s₀.heap.FunFrames X.base l → s.heap.FunFrames X.base l := by
    intro l
    induction l with
    | nil => intro _ _; trivial
    | cons env r ih =>
      intro hs hl
      obtain ⟨hk, ⟨L, o, hf, hn, ho, hd⟩, hr⟩ := hl
      have hL : L ∈ X.fs := hs L (by unfold frs; rw [List.filterMap_cons, hf]; exact List.mem_cons_self)
      obtain ⟨sl, e⟩ := I.base.slot L o ho (I.ok.frf L hL) hL fun z => I.ok.exfs L z hL
      exact ⟨hk, ⟨L, _, hf, hn, e, hd⟩, ih (fun b hb => hs b (by unfold frs; rw [List.filterMap_cons, hf]; exact List.mem_cons_of_mem _ hb)) hr⟩
  exact all X.outer (fun _ hb => hb) I.ok.funs
theorem Inv.stack (I : Inv X pins σ H s) : s.heap.FunFrames X.base X.stack := by
  rcases I.ok.stk with e | ⟨e, hf⟩
  · rw [e]; exact I.funs
  · rw [e]
    obtain ⟨m, hn, _⟩ := I.loc
    refine .cons (by rw [I.ok.kind]; decide) hf hn ?_ I.funs
    exact Heap.get?_none_of_le (Nat.le_trans I.ok.bsz I.ok.above)
theorem Inv.stkSub (I : Inv X pins σ H s) : ∀ b ∈ frs X.stack, b ∈ X.env.locals :: X.fs := fun b hb => by
  rcases I.ok.stk with e | ⟨e, hf⟩
  · rw [e] at hb; exact List.mem_cons_of_mem _ hb
  · rw [e] at hb
    unfold frs at hb
    rw [List.filterMap_cons, hf] at hb
    exact hb
theorem Inv.stkFree (I : Inv X pins σ H s) : ∀ b ∈ frs X.stack, H b = none := fun b hb => by
  rcases List.mem_cons.mp (I.stkSub b hb) with e | hb
  · rw [e]; exact I.free
  · obtain ⟨_, o, ho, _⟩ := I.ok.funs.mem hb
    exact I.base.free b o ho (I.ok.frf b hb) fun z => I.ok.exfs b z hb
theorem Inv.step {g' : Array GenState} {t' : Nat} {d' : Drawn} {ch : List Addr} (I : Inv X pins σ H s)
    (hch : ∀ b ∈ ch, (b ∈ X.ex ∨ X.s₀.heap.objs.size ≤ b) ∧ b ≠ X.env.locals ∧ (∀ x c, X.env.cells.lookup x = some c → c ≠ b) ∧ ∀ p ∈ X.pn ++ pins, p.1 ≠ b)
    (keep : ∀ b o, b ≠ X.env.locals → b ∉ X.fs → b ∉ ch → s.heap.get? b = some o → H b = none → h'.get? b = some o)
    (slot : ∀ b o, b ≠ X.env.locals → b ∈ X.fs → b ∉ ch → s.heap.get? b = some o → H b = none → ∃ sl, h'.get? b = some { o with slots := sl }) (free : ∀ b o, b ∉ ch → s.heap.get? b = some o → H b = none → H' b = none)
    (there : ∀ b o, b ∉ ch → s.heap.get? b = some o → ∃ o', h'.get? b = some o')
    (tups : ∀ b xs, H b = some (.tup xs) → H' b = some (.tup xs)) (frzs : ∀ b o u, H b = some (.frz o u) → H' b = some (.frz o u)) (tbls : ∀ b ps, H b = some (.tbl ps) → ∃ more, H' b = some (.tbl (ps ++ more)))
    (ns : ∀ m, s.heap.Ns X.env.locals m → h'.Ns X.env.locals m) (hok : HOk X.prog X.w H' h') (hg : AllBare g') :
    Inv X pins σ H' { s with heap := h', gens := g', drawn := d', toks := t' } := by
  have neL : ∀ b o, X.s₀.heap.get? b = some o → b ≠ X.env.locals := fun b o e => Nat.ne_of_lt (Nat.lt_of_lt_of_le (Heap.lt_size e) I.ok.above)
  have neC : ∀ b o, X.s₀.heap.get? b = some o → b ∉ X.ex → b ∉ ch := fun b o e hx hb => by
    rcases (hch b hb).1 with z | z
    · exact hx z
    · exact absurd (Nat.lt_of_lt_of_le (Heap.lt_size e) z) (Nat.lt_irrefl _)
  have cellK : ∀ x c, X.env.cells.lookup x = some c → ∀ v, s.heap.IsCell c v → h'.IsCell c v := fun x c e v ⟨o, ho, hd⟩ => by
    have nch : c ∉ ch := fun z => (hch c z).2.2.1 x c e rfl
    by_cases hc : c ∈ X.fs
    · obtain ⟨sl, q⟩ := slot c o (I.cne x c e) hc nch ho (I.freeC x c e)
      exact ⟨_, q, hd⟩
    · exact ⟨o, keep c o (I.cne x c e) hc nch ho (I.freeC x c e), hd⟩
  refine ⟨I.ok, I.os, hg, ⟨fun b o e n hb hx => ?_, fun b o e n hb hx => ?_, fun b o e n hx => ?_, fun b o e hx => ?_, fun b xs e => tups b xs (I.base.tups b xs e), fun b o xs e => frzs b o xs (I.base.frzs b o xs e), fun b ps e => ?_⟩, ?_, fun x c e => ?_, ?_, fun x c e => ?_, fun p hp => ?_, hok, I.len⟩
  · exact keep b o (neL b o e) hb (neC b o e hx) (I.base.keep b o e n hb hx) (I.base.free b o e n hx)
  · obtain ⟨sl, e1⟩ := I.base.slot b o e n hb hx
    obtain ⟨sl', e2⟩ := slot b _ (neL b o e) hb (neC b o e hx) e1 (I.base.free b o e n hx)
    exact ⟨sl', e2⟩
  · obtain ⟨o', e1⟩ := I.base.there b o e hx
    exact free b o' (neC b o e hx) e1 (I.base.free b o e n hx)
  · obtain ⟨o', e1⟩ := I.base.there b o e hx
    exact there b o' (neC b o e hx) e1
  · obtain ⟨m1, e1⟩ := I.base.tbls b ps e
    obtain ⟨m2, e2⟩ := tbls b _ e1
    exact ⟨m1 ++ m2, by rw [e2, Array.append_assoc]⟩
  · obtain ⟨m, hn, hl⟩ := I.loc
    refine ⟨m, ns m hn, fun i x v e1 e2 e3 => ?_⟩
    obtain ⟨u, r, l⟩ := hl i x v e1 e2 e3
    refine ⟨u, r, ?_⟩
    rcases l with l | ⟨k, c, e, z⟩
    · exact .inl l
    · exact .inr ⟨k, c, e, cellK x c e _ z⟩
  · obtain ⟨v, z⟩ := I.cell x c e
    exact ⟨v, cellK x c e v z⟩
  · obtain ⟨m, ⟨o, _, _, ho, _⟩, _⟩ := I.loc
    exact free _ o (fun z => (hch _ z).2.1 rfl) ho I.free
  · obtain ⟨v, o, ho, hd⟩ := I.cell x c e
    exact free c o (fun z => (hch c z).2.2.1 x c e rfl) ho (I.freeC x c e)
  · obtain ⟨e, n, ne, nf, d⟩ := I.pin p hp
    have nch : p.1 ∉ ch := fun z => (hch p.1 z).2.2.2 p hp rfl
    exact ⟨keep p.1 p.2 ne nf nch e n, free p.1 p.2 nch e n, ne, nf, d⟩
theorem Inv.un {t' : Nat} (I : Inv X pins σ H s) (u : Un X.fs [] H H' s.heap h') (hok : HOk X.prog X.w H' h') : Inv X pins σ H' { s with heap := h', toks := t' } := by
  obtain ⟨m, ⟨o, es, ep, ho, r⟩, _⟩ := id I.loc
  obtain ⟨sl, hL⟩ := u.any ho I.free (by simp)
  exact I.step (g' := s.gens) (d' := s.drawn) (ch := []) (fun _ z => nomatch z) (fun b o _ hb _ e n => u.keep b o e n hb (by simp)) (fun b o _ hb _ e n => u.slot b o e n hb (by simp)) (fun b o _ e n => u.free b o e n (by simp)) (fun b o _ e => u.there b o e (by simp)) u.tups u.frzs u.tbls (fun m' hm => by
    obtain ⟨o', es', ep', ho', r'⟩ := hm
    rw [ho] at ho'; cases ho'
    exact ⟨_, es', ep', hL, r'⟩) hok I.bare
theorem Inv.call {g' : Array GenState} {t' : Nat} {d' : Drawn} {ch : List Addr} (I : Inv X pins σ H s) (u : Un (frs X.stack) ch H H' s.heap h') (hok : HOk X.prog X.w H' h') (hg : AllBare g')
    (hch : ∀ b ∈ ch, (b ∈ X.ex ∨ X.s₀.heap.objs.size ≤ b) ∧ b ≠ X.env.locals ∧ (∀ x c, X.env.cells.lookup x = some c → c ≠ b) ∧ ∀ p ∈ X.pn ++ pins, p.1 ≠ b) :
    Inv X pins σ H' { s with heap := h', gens := g', drawn := d', toks := t' } := by
  obtain ⟨m, ⟨o, es, ep, ho, r⟩, _⟩ := id I.loc
  obtain ⟨sl, hL⟩ := u.any ho I.free fun z => (hch _ z).2.1 rfl
  exact I.step (ch := ch) hch (fun b o hL hb hc e n => u.keep b o e n (fun z => (List.mem_cons.mp (I.stkSub b z)).elim hL hb) hc) (fun b o _ _ hc e n => u.any e n hc) (fun b o hc e n => u.free b o e n hc) (fun b o hc e => u.there b o e hc) u.tups u.frzs u.tbls (fun m' hm => by
    obtain ⟨o', es', ep', ho', r'⟩ := hm
    rw [ho] at ho'; cases ho'
    exact ⟨_, es', ep', hL, r'⟩) hok hg
theorem Inv.turned {t' : Nat} {it : Addr} (I : Inv X pins σ H s) (k : ∀ b o, b ≠ it → s.heap.get? b = some o → h'.get? b = some o) (hn : H it = none) (hL : it ≠ X.env.locals)
    (h1 : it ∈ X.ex ∨ X.s₀.heap.objs.size ≤ it) (h2 : ∀ x c, X.env.cells.lookup x = some c → c ≠ it) (h3 : ∀ p ∈ X.pn ++ pins, p.1 ≠ it) : Inv X pins σ H { s with heap := h', toks := t' } := by
  have nit : ∀ b u, H b = some u → b ≠ it := fun b u e z => by rw [z, hn] at e; cases e
  refine I.step (g' := s.gens) (d' := s.drawn) (ch := [it]) (fun b hb => ?_) (fun b o _ _ hc e _ => k b o (fun z => hc (by simp [z])) e) (fun b o _ _ hc e _ => ⟨o.slots, k b o (fun z => hc (by simp [z])) e⟩) (fun _ _ _ _ n => n)
    (fun b o hc e => ⟨o, k b o (fun z => hc (by simp [z])) e⟩) (fun _ _ e => e) (fun _ _ _ e => e) (fun b ps e => ⟨#[], by rw [e]; simp⟩) (fun m hm => ?_) (fun b u e => ?_) I.bare
  · have e : b = it := by simpa using hb
    subst e
    exact ⟨h1, hL, h2, h3⟩
  · obtain ⟨o, es, ep, ho, r⟩ := hm
    exact ⟨o, es, ep, k _ o (Ne.symm hL) ho, r⟩
  · refine (I.hok b u e).stay (fun c v hc q => k c v ?_ q) (fun _ q => q) fun _ _ q => q
    rcases hc with z | z
    · rw [z]; exact nit b u e
    · exact nit c _ z
theorem Inv.tok (I : Inv X pins σ H s) (t : Nat) : Inv X pins σ H { s with toks := t } := I.un (h' := s.heap) (t' := t) Un.refl I.hok
theorem Inv.kept {t' : Nat} (I : Inv X pins σ H s) (k : ∀ b u, s.heap.get? b = some u → h'.get? b = some u) : Inv X pins σ H { s with heap := h', toks := t' } := I.un (Un.kept k) (I.hok.kept k)
theorem Inv.laid {a : Addr} {o : HO} {t' : Nat} (I : Inv X pins σ H s) (k : ∀ b u, s.heap.get? b = some u → h'.get? b = some u) (hp : s.heap.objs.size ≤ a) (new : ObjOk X.prog X.w (upd H a o) h' a o) :
    Inv X pins σ (upd H a o) { s with heap := h', toks := t' } := I.un (Un.laid k hp (I.hok.fresh hp)) (I.hok.laid k hp new)
theorem Inv.write {x e : Addr} {o : HO} {t' : Nat} (I : Inv X pins σ H s) (mu : Mut (H x)) (he : e = x ∨ H e = some (.own x)) (k : ∀ b u, b ≠ e → s.heap.get? b = some u → h'.get? b = some u) (heo : ∃ u, h'.get? e = some u)
    (new : ObjOk X.prog X.w (upd H x o) h' x o) : Inv X pins σ (upd H x o) { s with heap := h', toks := t' } := I.un (Un.write mu he k heo) (I.hok.write mu he k heo new)
theorem Inv.weak {σ' : List (Option V)} (I : Inv X pins σ H s) (hl : σ'.length = σ.length) (w : ∀ (i : Nat) v, σ'[i]? = some (some v) → σ[i]? = some (some v)) : Inv X pins σ' H s :=
  ⟨I.ok, I.os, I.bare, I.base, let ⟨m, hn, hl'⟩ := I.loc; ⟨m, hn, fun i x v e1 e2 e3 => hl' i x v e1 (w i v e2) e3⟩, I.cell, I.free, I.freeC, I.pin, I.hok, hl.trans I.len⟩
theorem Inv.pins_of {pins' : List (Addr × Obj)} (I : Inv X pins σ H s) (h : ∀ p ∈ pins', s.heap.get? p.1 = some p.2 ∧ H p.1 = none ∧ p.1 ≠ X.env.locals ∧ p.1 ∉ X.fs ∧ ∀ v, p.2.data ≠ .cell v) : Inv X pins' σ H s :=
  ⟨I.ok, I.os, I.bare, I.base, I.loc, I.cell, I.free, I.freeC, fun p hp => (List.mem_append.mp hp).elim (fun z => I.pin p (List.mem_append_left _ z)) (h p), I.hok, I.len⟩
theorem nodup_ix {N : List Str} (hN : N.Nodup) {i j : Nat} {x : Str} (a : N[i]? = some x) (b : N[j]? = some x) : i = j := by
  obtain ⟨h1, e1⟩ := List.getElem?_eq_some_iff.mp a
  obtain ⟨h2, e2⟩ := List.getElem?_eq_some_iff.mp b
  exact (List.getElem_inj hN).mp (e1.trans e2.symm)
theorem store_ok2 {M : Model} {A : Around} {E : Value → Shared → Prop} {i : Nat} {x : Str} {v : V} {u : Value} {Q : Unit → Shared → Prop} (I : Inv X pins σ H s) (hN : X.N.Nodup) (hi : X.N[i]? = some x) (hx : Loc X.env.scope x) (r : RelV v u)
    (h : ∀ s', Inv X pins (σ.set i (some v)) H s' → (∃ a, Heap.SameBut a s.heap s'.heap ∧ (a = X.env.locals ∨ X.env.cells.lookup x = some a)) → Q () s') (hf : X.fn x = true ∨ X.env.scope.names.lookup x = some .local := by first | exact .inl rfl | exact .inr rfl | assumption) : wpAny M A (storeName X.env x u) Q E s := by
  obtain ⟨m, hn, hl⟩ := id I.loc
  have hcls : (X.env.scope.kind == .class || (X.env.scope.kind == .module && X.env.locals != X.env.globals)) = false := by rw [I.ok.kind]; rfl
  have hiσ : i < σ.length := by rw [I.len]; exact (List.getElem?_eq_some_iff.mp hi).1
  have cne := I.cne
  have tracked : ∀ {a : Addr} {h' : Heap}, (∃ o, s.heap.get? a = some o ∧ H a = none) → Heap.SameBut a s.heap h' → HOk X.prog X.w H h' := fun {a h'} ha hs b ob e => by
    obtain ⟨_, _, hfree⟩ := ha
    refine (I.hok b ob e).stay (fun c w' hc q => (hs.2 c ?_).trans q) (fun _ q => q) fun _ _ q => q
    rintro rfl
    rcases hc with rfl | hc
    · rw [hfree] at e; cases e
    · rw [hfree] at hc; cases hc
  rcases hx with hk | hk
  · refine wpAny_storeName_local hk hn (fun h' hn' hs => ?_) hcls
    obtain ⟨oL, _, _, hoL, _⟩ := id hn
    refine h _ ⟨I.ok, I.os, I.bare, ⟨fun b o e n hb hx => ?_, fun b o e n hb hx => ?_, I.base.free, fun b o e hx => ?_, I.base.tups, I.base.frzs, I.base.tbls⟩, ⟨_, hn', fun j y v' e1 e2 e3 => ?_⟩, fun y c e => ?_, I.free, I.freeC, fun p hp => ?_, tracked ⟨oL, hoL, I.free⟩ hs, by simpa using I.len⟩ ⟨_, hs, .inl rfl⟩
    · exact (hs.2 b (Nat.ne_of_lt (Nat.lt_of_lt_of_le (Heap.lt_size e) I.ok.above))).trans (I.base.keep b o e n hb hx)
    · obtain ⟨sl, e1⟩ := I.base.slot b o e n hb hx
      exact ⟨sl, (hs.2 b (Nat.ne_of_lt (Nat.lt_of_lt_of_le (Heap.lt_size e) I.ok.above))).trans e1⟩
    · obtain ⟨o', e1⟩ := I.base.there b o e hx
      exact ⟨o', (hs.2 b (Nat.ne_of_lt (Nat.lt_of_lt_of_le (Heap.lt_size e) I.ok.above))).trans e1⟩
    · by_cases hj : j = i
      · subst hj
        rw [hi] at e1; cases e1
        rw [List.getElem?_set_self hiσ] at e2
        cases e2
        exact ⟨u, r, .inl ⟨hk, by simp⟩⟩
      · rw [List.getElem?_set_ne (Ne.symm hj)] at e2
        obtain ⟨u', r', q⟩ := hl j y v' e1 e2 e3
        refine ⟨u', r', ?_⟩
        rcases q with ⟨k, e⟩ | ⟨k, c, e, z⟩
        · refine .inl ⟨k, ?_⟩
          have : y ≠ x := fun e => hj (nodup_ix hN e1 (e ▸ hi))
          simp [this, e]
        · exact .inr ⟨k, c, e, z.sameBut hs (cne y c e)⟩
    · obtain ⟨w', z⟩ := I.cell y c e
      exact ⟨w', z.sameBut hs (cne y c e)⟩
    · obtain ⟨e, n, ne, nf, d⟩ := I.pin p hp
      exact ⟨(hs.2 p.1 ne).trans e, n, ne, nf, d⟩
  · have hfn : X.fn x = true := by
      rcases hf with z | z
      · exact z
      · rw [z] at hk; cases hk
    obtain ⟨c, hc⟩ := I.ok.has x (.inl hk)
    obtain ⟨w', z⟩ := I.cell x c hc
    refine wpAny_storeName_cell I.ok.kind hk hc z (fun h' hc' hs => ?_)
    obtain ⟨oc, hoc, hocd⟩ := id z
    refine h { s with heap := h' } ⟨I.ok, I.os, I.bare, ⟨fun b o e n hb hx => ?_, fun b o e n hb hx => ?_, I.base.free, fun b o e hx => ?_, I.base.tups, I.base.frzs, I.base.tbls⟩, ⟨m, hn.sameBut hs (Ne.symm (cne x c hc)), fun j y v' e1 e2 e3 => ?_⟩, fun y c' e => ?_, I.free, I.freeC, fun p hp => ?_, tracked ⟨oc, hoc, I.freeC x c hc⟩ hs, by simpa using I.len⟩ ⟨c, hs, .inr hc⟩
    · exact (hs.2 b (Nat.ne_of_lt (Nat.lt_of_lt_of_le (Heap.lt_size e) (I.ok.cab x c hfn hc)))).trans (I.base.keep b o e n hb hx)
    · obtain ⟨sl, e1⟩ := I.base.slot b o e n hb hx
      exact ⟨sl, (hs.2 b (Nat.ne_of_lt (Nat.lt_of_lt_of_le (Heap.lt_size e) (I.ok.cab x c hfn hc)))).trans e1⟩
    · obtain ⟨o', e1⟩ := I.base.there b o e hx
      exact ⟨o', (hs.2 b (Nat.ne_of_lt (Nat.lt_of_lt_of_le (Heap.lt_size e) (I.ok.cab x c hfn hc)))).trans e1⟩
    · by_cases hj : j = i
      · subst hj
        rw [hi] at e1; cases e1
        rw [List.getElem?_set_self hiσ] at e2
        cases e2
        exact ⟨u, r, .inr ⟨.inl hk, c, hc, hc'⟩⟩
      · rw [List.getElem?_set_ne (Ne.symm hj)] at e2
        obtain ⟨u', r', q⟩ := hl j y v' e1 e2 e3
        refine ⟨u', r', ?_⟩
        rcases q with q | ⟨k, c', e, z'⟩
        · exact .inl q
        · refine .inr ⟨k, c', e, z'.sameBut hs ?_⟩
          rintro rfl
          exact hj (nodup_ix hN e1 (I.ok.inj _ _ _ e hc ▸ hi))
    · by_cases hcc : c' = c
      · subst hcc; exact ⟨_, hc'⟩
      · obtain ⟨w2, z2⟩ := I.cell y c' e
        exact ⟨w2, z2.sameBut hs hcc⟩
    · obtain ⟨e, n, ne, nf, d⟩ := I.pin p hp
      refine ⟨(hs.2 p.1 ?_).trans e, n, ne, nf, d⟩
      intro q
      rw [q, hoc] at e
      have q' : oc = p.2 := Option.some.inj e
      exact d w' (by rw [← q']; exact hocd)
theorem store_ok {M : Model} {A : Around} {E : Value → Shared → Prop} {i : Nat} {x : Str} {v : V} {u : Value} {Q : Unit → Shared → Prop} (I : Inv X pins σ H s) (hN : X.N.Nodup) (hi : X.N[i]? = some x) (hx : Loc X.env.scope x) (r : RelV v u)
    (h : ∀ s', Inv X pins (σ.set i (some v)) H s' → Q () s') (hf : X.fn x = true ∨ X.env.scope.names.lookup x = some .local := by first | exact .inl rfl | exact .inr rfl | assumption) : wpAny M A (storeName X.env x u) Q E s :=
  store_ok2 I hN hi hx r (fun s' I' _ => h s' I') hf
theorem Inv.call' {s' : Shared} {ch : List Addr} (I : Inv X pins σ H s) (ho : s'.os = s.os) (u : Un (frs X.stack) ch H H' s.heap s'.heap) (hok : HOk X.prog X.w H' s'.heap) (hg : AllBare s'.gens)
    (hch : ∀ b ∈ ch, (b ∈ X.ex ∨ X.s₀.heap.objs.size ≤ b) ∧ b ≠ X.env.locals ∧ (∀ x c, X.env.cells.lookup x = some c → c ≠ b) ∧ ∀ p ∈ X.pn ++ pins, p.1 ≠ b) : Inv X pins σ H' s' := by
  obtain ⟨h', g', d', t', o'⟩ := s'
  have e : o' = s.os := ho
  subst e
  exact I.call (g' := g') (t' := t') (d' := d') u hok hg hch
end
abbrev XK := Value → Option Addr → Hp → Prop
abbrev St := List (Option V)
abbrev VK := V → Hp → Prop
abbrev TE := St → Hp → VK → Prop
abbrev TT := St → Hp → (Bool → Hp → Prop) → Prop
abbrev TA := St → Hp → (List V → Hp → Prop) → Prop
structure Ends where
  nx : St → Hp → Prop
  rt : VK
  bk : St → Hp → Prop := fun _ _ => False
  ct : St → Hp → Prop := fun _ _ => False
abbrev TS := Ends → St → Hp → Prop
def EP (X : Cx) (pins : List (Addr × Obj)) (σ : St) (Q : VK) (u : Value) (s' : Shared) : Prop := ∃ v H', Inv X pins σ H' s' ∧ RelV v u ∧ Q v H'
def TP (X : Cx) (pins : List (Addr × Obj)) (σ : St) (Q : Bool → Hp → Prop) (b : Bool) (s' : Shared) : Prop := ∃ H', Inv X pins σ H' s' ∧ Q b H'
def AP (X : Cx) (pins : List (Addr × Obj)) (σ : St) (Q : List V → Hp → Prop) (us : List Value) (s' : Shared) : Prop := ∃ vs H', Inv X pins σ H' s' ∧ Vals vs us ∧ Q vs H'
def SP (X : Cx) (pins : List (Addr × Obj)) (D : Ends) (f : Flow) (s' : Shared) : Prop :=
  match f with
  | .next => ∃ σ' H', Inv X pins σ' H' s' ∧ D.nx σ' H'
  | .brk => ∃ σ' H', Inv X pins σ' H' s' ∧ D.bk σ' H'
  | .cont => ∃ σ' H', Inv X pins σ' H' s' ∧ D.ct σ' H'
  | .ret u => ∃ v σ' H', Inv X pins σ' H' s' ∧ RelV v u ∧ D.rt v H'
def PE (X : Cx) (e : Expr) (t : TE) : Prop :=
  ∀ (pins : List (Addr × Obj)) (s : Shared) (σ : St) (H : Hp) (Q : VK), Inv X pins σ H s → t σ H Q → wpAny (model X.prog X.w) X.A (eval e X.env) (EP X pins σ Q) X.xe s
def PT (X : Cx) (e : Expr) (t : TT) : Prop :=
  ∀ (pins : List (Addr × Obj)) (s : Shared) (σ : St) (H : Hp) (Q : Bool → Hp → Prop), Inv X pins σ H s → t σ H Q → wpAny (model X.prog X.w) X.A (isTrue e X.env (eval e X.env)) (TP X pins σ Q) X.xe s
def PW (X : Cx) (e : Expr) (t : TT) : Prop :=
  ∀ (whole : Sem Value) (pins : List (Addr × Obj)) (s : Shared) (σ : St) (H : Hp) (Q : Bool → Hp → Prop), Inv X pins σ H s → t σ H Q → wpAny (model X.prog X.w) X.A (isTrue e X.env whole) (TP X pins σ Q) X.xe s
theorem PW.pt {X : Cx} {e : Expr} {t : TT} (h : PW X e t) : PT X e t := h _
def PA (X : Cx) (es : List Expr) (t : TA) : Prop :=
  ∀ (pos : Pos) (pins : List (Addr × Obj)) (s : Shared) (σ : St) (H : Hp) (Q : List V → Hp → Prop), Inv X pins σ H s → t σ H Q → wpAny (model X.prog X.w) X.A (spliced (backTo pos (starEach es X.env))) (AP X pins σ Q) X.xe s
def PS (X : Cx) (st : Stmt) (t : TS) : Prop :=
  ∀ (pins : List (Addr × Obj)) (s : Shared) (σ : St) (H : Hp) (D : Ends), Inv X pins σ H s → t D σ H → wpAny (model X.prog X.w) X.A (exec st X.env) (SP X pins D) X.xe s
def PSs (X : Cx) (st : List Stmt) (t : TS) : Prop :=
  ∀ (pins : List (Addr × Obj)) (s : Shared) (σ : St) (H : Hp) (D : Ends), Inv X pins σ H s → t D σ H → wpAny (model X.prog X.w) X.A (execs st X.env) (SP X pins D) X.xe s
theorem thn {α : Type} {t : Sem α} {Q Q' : α → Shared → Prop} {M : Model} {A : Around} {E : Value → Shared → Prop} {s : Shared} (h : wpAny M A t Q E s) (hQ : ∀ a s, Q a s → Q' a s) : wpAny M A t Q' E s := wpAny_mono h hQ fun _ _ x => x
end L2
namespace L2
open PySem PySem.Spec PyProof.Rows
section
variable {X : Cx}
def tVar (i : Nat) : TE := fun σ H Q => ∃ v, σ[i]? = some (some v) ∧ Q v H
def tC (v : V) : TE := fun _ H Q => Q v H
theorem pe_var {i : Nat} {x : Str} {pos : Pos} (hN : X.N[i]? = some x) (hv : Vis X.env.scope x) (hd : (x == ("__debug__" : Str)) = false := by decide) (hcd : (x == ("__classdict__" : Str)) = false := by decide) : PE X (.Name x pos) (tVar i) := by
  intro pins s σ H Q I h
  obtain ⟨v, e, h⟩ := h
  obtain ⟨m, hn, hl⟩ := I.loc
  obtain ⟨u, r, l⟩ := hl i x v hN e hv
  have fin : EP X pins σ Q u s := ⟨v, H, I, r, h⟩
  rcases l with ⟨hk, hm⟩ | ⟨hk, c, hc, hcell⟩
  · exact wpAny_Name (wpAny_loadName_local I.ok.kind hk hn hm fin) hd
  · rcases hk with hk | hk
    · exact wpAny_Name (wpAny_loadName_cell I.ok.kind hk hc hcell fin) hd
    · exact wpAny_Name (wpAny_loadName_free I.ok.kind hk hc hcell fin hcd) hd
theorem pe_int {i j pos} : PE X (.Constant (.int i) j pos) (tC (.int i)) := fun _ _ _ H _ I h => wpAny_Constant_int ⟨.int i, H, I.tok _, ⟨_, rfl⟩, h⟩
theorem pe_bl {b j pos} : PE X (.Constant (.bool b) j pos) (tC (.bl b)) := fun _ _ _ H _ I h => Constant_bool ⟨.bl b, H, I, rfl, h⟩
theorem pe_str {x j pos} : PE X (.Constant (.str x) j pos) (tC (.str x)) := fun _ _ _ H _ I h => Calls.Constant_str ⟨.str x, H, I.tok _, ⟨_, rfl⟩, h⟩
def Gl (X : Cx) (x : Str) : Prop := X.env.kindOf x = some .globalImplicit
theorem ld_glob {E : Value → Shared → Prop} {pins : List (Addr × Obj)} {s : Shared} {σ : St} {H : Hp} {x : Str} {u : Value} {pos : Pos} {Q : Value → Shared → Prop} (I : Inv X pins σ H s) (hg : Gl X x) (hm : X.mg x = some u) (h : Q u s)
    (hd : (x == ("__debug__" : Str)) = false := by decide) : wpAny (model X.prog X.w) X.A (eval (.Name x pos) X.env) Q E s :=
  Calls.Name_function_global I.ok.kind hg (Calls.loadGlobal_global (by rw [I.ok.glob]; exact I.mod.glob.keeps I.bk) hm h) hd
theorem ld_blt {E : Value → Shared → Prop} {pins : List (Addr × Obj)} {s : Shared} {σ : St} {H : Hp} {x : Str} {u : Value} {pos : Pos} {Q : Value → Shared → Prop} (I : Inv X pins σ H s) (hg : Gl X x) (hm : X.mg x = none) (hv : bootBuiltins x = some u) (h : Q u s)
    (hn : x ≠ "__name__" := by decide) (hd : (x == ("__debug__" : Str)) = false := by decide) : wpAny (model X.prog X.w) X.A (eval (.Name x pos) X.env) Q E s := by
  obtain ⟨mb, h1, h2⟩ := I.mod.blt
  exact Calls.Name_function_global I.ok.kind hg (Calls.loadGlobal_builtin (by rw [I.ok.glob]; exact I.mod.glob.keeps I.bk) hm (by rw [I.ok.blt]; exact h1.keeps I.bk) ((h2 x hn).trans hv) h) hd
theorem pe_glob {x : Str} {v : V} {u : Value} {pos : Pos} (hg : Gl X x) (hm : X.mg x = some u) (r : RelV v u) (hd : (x == ("__debug__" : Str)) = false := by decide) : PE X (.Name x pos) (tC v) :=
  fun _ _ _ H _ I h => ld_glob I hg hm ⟨v, H, I, r, h⟩ hd
theorem pe_bltn {x : Str} {v : V} {u : Value} {pos : Pos} (hg : Gl X x) (hm : X.mg x = none) (hv : bootBuiltins x = some u) (r : RelV v u) (hn : x ≠ "__name__" := by decide) (hd : (x == ("__debug__" : Str)) = false := by decide) : PE X (.Name x pos) (tC v) :=
  fun _ _ _ H _ I h => ld_blt I hg hm hv ⟨v, H, I, r, h⟩ hn hd
def t2I (ta tb : TE) (k : Int → Int → Hp → Prop) : St → Hp → Prop := fun σ H => ta σ H fun x H1 => tb σ H1 fun y H2 => ∃ i j, x = .int i ∧ y = .int j ∧ k i j H2
def tAdd (ta tb : TE) : TE := fun σ H Q => t2I ta tb (fun i j H2 => Q (.int (i + j)) H2) σ H
def tSub (ta tb : TE) : TE := fun σ H Q => t2I ta tb (fun i j H2 => Q (.int (i - j)) H2) σ H
def tMul (ta tb : TE) : TE := fun σ H Q => t2I ta tb (fun i j H2 => (-(2 ^ 64) < i ∧ i < 2 ^ 64) ∧ Q (.int (i * j)) H2) σ H
variable {a b : Expr} {ta tb : TE} {pos : Pos}
def PC (X : Cx) (op : CmpOp) (a b : Expr) (t : TE) : Prop :=
  ∀ (pins : List (Addr × Obj)) (s : Shared) (σ : St) (H : Hp) (Q : VK), Inv X pins σ H s → t σ H Q →
    wpAny (model X.prog X.w) X.A (eval a X.env) (fun v s₁ => wpAny (model X.prog X.w) X.A (eval b X.env) (fun u s₂ => wpAny (model X.prog X.w) X.A (compareOp op v u) (EP X pins σ Q) X.xe s₂) X.xe s₁) X.xe s
def tCmp (p : Int → Int → Bool) (ta tb : TE) : TE := fun σ H Q => t2I ta tb (fun i j H2 => Q (.bl (p i j)) H2) σ H
abbrev tLt : TE → TE → TE := tCmp fun i j => decide (i < j)
abbrev tLe : TE → TE → TE := tCmp fun i j => decide (i ≤ j)
abbrev tGt : TE → TE → TE := tCmp fun i j => decide (j < i)
abbrev tGe : TE → TE → TE := tCmp fun i j => decide (j ≤ i)
abbrev tEqI : TE → TE → TE := tCmp fun i j => decide (i = j)
abbrev tNeI : TE → TE → TE := tCmp fun i j => !decide (i = j)
def tIsN (ta : TE) : TE := fun σ H Q => ta σ H fun x H1 => Q (.bl (decide (x = .non))) H1
def tNotN (ta : TE) : TE := fun σ H Q => ta σ H fun x H1 => Q (.bl (!decide (x = .non))) H1
def tB (t : TE) : TT := fun σ H Q => t σ H fun x H1 => ∃ c, x = .bl c ∧ Q c H1
theorem pt_val {e : Expr} {t : TE} (h : PE X e t) (he : ∀ whole, isTrue e X.env whole = (do let v ← whole; standAt e.pos; holding [v] (truthy v)) := by intro _; rfl) : PT X e (tB t) := by
  intro pins s σ H Q I hw
  refine isTrue_plain (thn (h pins s σ H _ I hw) fun v s1 ⟨x, H1, I1, r1, q1⟩ => ?_) (he _)
  obtain ⟨d, rfl, q⟩ := q1
  cases r1
  exact wpAny_truthy_bool ⟨H1, I1, q⟩
variable {tA tB' : TT} {rest : List Expr}
def tAnd (t u : TT) : TT := fun σ H Q => t σ H fun c H1 => if c = true then u σ H1 Q else Q false H1
def tOr (t u : TT) : TT := fun σ H Q => t σ H fun c H1 => if c = true then Q true H1 else u σ H1 Q
def tNot (t : TT) : TT := fun σ H Q => t σ H fun c H1 => Q (!c) H1
theorem pw_and1 (ha : PT X a tA) : PW X (.BoolOp .And [a] pos) tA := by
  intro wh pins s σ H Q I h
  refine isTrue_and (thn (ha pins s σ H Q I h) fun c s1 e => ?_)
  cases c with
  | true => exact isTrue_and_nil e
  | false => exact e
theorem pw_or1 (ha : PT X a tA) : PW X (.BoolOp .Or [a] pos) tA := by
  intro wh pins s σ H Q I h
  refine isTrue_or (thn (ha pins s σ H Q I h) fun c s1 e => ?_)
  cases c with
  | false => exact isTrue_or_nil e
  | true => exact e
theorem pw_and (ha : PT X a tA) (hb : PW X (.BoolOp .And (b :: rest) pos) tB') : PW X (.BoolOp .And (a :: b :: rest) pos) (tAnd tA tB') := by
  intro wh pins s σ H Q I h
  refine isTrue_and (thn (ha pins s σ H _ I h) fun c s1 ⟨H1, I1, q1⟩ => ?_)
  cases c with
  | true => exact hb wh pins s1 σ H1 Q I1 q1
  | false => exact ⟨H1, I1, q1⟩
theorem pw_or (ha : PT X a tA) (hb : PW X (.BoolOp .Or (b :: rest) pos) tB') : PW X (.BoolOp .Or (a :: b :: rest) pos) (tOr tA tB') := by
  intro wh pins s σ H Q I h
  refine isTrue_or (thn (ha pins s σ H _ I h) fun c s1 ⟨H1, I1, q1⟩ => ?_)
  cases c with
  | true => exact ⟨H1, I1, q1⟩
  | false => exact hb wh pins s1 σ H1 Q I1 q1
theorem pt_not (ha : PT X a tA) : PT X (.UnaryOp .Not a pos) (tNot tA) := by
  intro pins s σ H Q I h
  exact isTrue_not (ha pins s σ H (fun c H1 => Q (!c) H1) I h)
def tAndV (ta tb : TE) : TE := fun σ H Q => ta σ H fun x H1 => ∃ c, x = .bl c ∧ if c = true then tb σ H1 Q else Q (.bl false) H1
def tOrV (ta tb : TE) : TE := fun σ H Q => ta σ H fun x H1 => ∃ c, x = .bl c ∧ if c = true then Q (.bl true) H1 else tb σ H1 Q
def tNotV (ta : TE) : TE := fun σ H Q => ta σ H fun x H1 => ∃ c, x = .bl c ∧ Q (.bl (!c)) H1
theorem pe_one {op} {t : TE} (h : PE X a t) : PE X (.BoolOp op [a] pos) t := fun pins s σ H Q I hw => BoolOp_one (h pins s σ H Q I hw)
theorem pe_and (ha : PE X a ta) (hb : PE X (.BoolOp .And (b :: rest) pos) tb) : PE X (.BoolOp .And (a :: b :: rest) pos) (tAndV ta tb) := by
  intro pins s σ H Q I h
  refine BoolOp_and (thn (ha pins s σ H _ I h) fun v s1 ⟨x, H1, I1, r1, q1⟩ => ?_)
  obtain ⟨c, rfl, q1⟩ := q1
  cases r1
  refine wpAny_truthy_bool ?_
  cases c with
  | true => exact hb pins s1 σ H1 Q I1 q1
  | false => exact ⟨.bl false, H1, I1, rfl, q1⟩
theorem pe_not (ha : PE X a ta) : PE X (.UnaryOp .Not a pos) (tNotV ta) := by
  intro pins s σ H Q I h
  refine UnaryOp_ (thn (ha pins s σ H _ I h) fun v s1 ⟨x, H1, I1, r1, q1⟩ => ?_)
  obtain ⟨c, rfl, q1⟩ := q1
  cases r1
  exact not_of (wpAny_truthy_bool ⟨.bl (!c), H1, I1, rfl, q1⟩)
def tIf (t : TT) (ta tb : TE) : TE := fun σ H Q => t σ H fun c H1 => if c = true then ta σ H1 Q else tb σ H1 Q
end
end L2
namespace L2
open PySem PySem.Spec PyProof.Rows
def SqL (K : PySem.W.Frag) (H : Hp) (a : Addr) (xs : List V) : Prop :=
  Rd H a (.lst xs) ∨
    ∃ (o : Obj) (its : Array Value) (n : Nat), K.lookup a = some o ∧ o.cls = .type "list" ∧ o.dict = none ∧ o.data = .seq its n ∧ its.size ≤ sizeLine ∧ Vals xs its.toList
def SqT (K : PySem.W.Frag) (H : Hp) (a : Addr) (xs : List V) : Prop :=
  Rd H a (.tup xs) ∨
    ∃ (o : Obj) (its : Array Value) (n : Nat), K.lookup a = some o ∧ o.cls = .type "tuple" ∧ o.data = .seq its n ∧ its.size ≤ sizeLine ∧ Vals xs its.toList
def absV : Value → Option V
  | .none => some .non
  | .bool b => some (.bl b)
  | .int i _ => some (.int i)
  | .str x _ => some (.str x)
  | .bytes b _ => some (.byt b)
  | .float b _ => some (.flt b)
  | .ref a => some (.ref a)
  | .type n => some (.ty n)
  | _ => none
theorem RelV.abs {x : V} {u : Value} (r : RelV x u) : absV u = some x := by
  cases x with
  | non => cases r; rfl
  | bl _ => cases r; rfl
  | int _ => obtain ⟨t, rfl⟩ := r; rfl
  | str _ => obtain ⟨t, rfl⟩ := r; rfl
  | byt _ => obtain ⟨t, rfl⟩ := r; rfl
  | flt _ => obtain ⟨t, rfl⟩ := r; rfl
  | ref _ => cases r; rfl
  | ty _ => cases r; rfl
theorem RelV.inj {x y : V} {u : Value} (r : RelV x u) (q : RelV y u) : x = y := Option.some.inj (r.abs.symm.trans q.abs)
theorem Vals.inj : ∀ {xs ys : List V} {us : List Value}, Vals xs us → Vals ys us → xs = ys
  | _, _, _, .nil, .nil => rfl
  | _, _, _, .cons r t, .cons r' t' => by rw [r.inj r', Vals.inj t t']
section
variable {X : Cx} {pins : List (Addr × Obj)} {σ : St} {H : Hp} {s : Shared} {a : Addr} {xs ys : List V}
theorem SqL.of {K : PySem.W.Frag} (h : H a = some (.lst xs)) : SqL K H a xs := .inl (.inl h)
theorem SqT.of {K : PySem.W.Frag} (h : H a = some (.tup xs)) : SqT K H a xs := .inl (.inl h)
theorem Inv.list (I : Inv X pins σ H s) (h : SqL X.K H a xs) : ∃ its : List Value, Vals xs its ∧ PlainL s.heap a its.toArray ∧ xs.length ≤ sizeLine := by
  rcases h with h | ⟨o, its, n, hk, hc, hd, hs, hz, r⟩
  · obtain ⟨z, its, n, r, e⟩ := h.ok I.hok
    exact ⟨its, r, ⟨_, n, e, rfl, rfl, rfl⟩, z⟩
  · refine ⟨its.toList, r, ⟨o, n, I.kIn a o hk, hc, hd, by simpa using hs⟩, ?_⟩
    have e := r.length
    simp only [Array.length_toList] at e
    omega
theorem Inv.tuple (I : Inv X pins σ H s) (h : SqT X.K H a xs) : ∃ its : List Value, Vals xs its ∧ IsTup s.heap a its.toArray ∧ xs.length ≤ sizeLine := by
  rcases h with h | ⟨o, its, n, hk, hc, hs, hz, r⟩
  · obtain ⟨z, its, r, p⟩ := h.ok I.hok
    exact ⟨its, r, p, z⟩
  · refine ⟨its.toList, r, ⟨o, I.kIn a o hk, hc, n, by simpa using hs⟩, ?_⟩
    have e := r.length
    simp only [Array.length_toList] at e
    omega
theorem Inv.list_inj (I : Inv X pins σ H s) (h : SqL X.K H a xs) (h' : SqL X.K H a ys) : xs = ys := by
  obtain ⟨its, r, ⟨o, n, e, _, _, d⟩, _⟩ := I.list h
  obtain ⟨its', r', ⟨o', n', e', _, _, d'⟩, _⟩ := I.list h'
  rw [e] at e'; cases e'
  rw [d] at d'
  injection d' with d1 _
  have : its = its' := by simpa using congrArg Array.toList d1
  subst this
  exact r.inj r'
theorem Inv.tuple_inj (I : Inv X pins σ H s) (h : SqT X.K H a xs) (h' : SqT X.K H a ys) : xs = ys := by
  obtain ⟨its, r, ⟨o, e, _, n, d⟩, _⟩ := I.tuple h
  obtain ⟨its', r', ⟨o', e', _, n', d'⟩, _⟩ := I.tuple h'
  rw [e] at e'; cases e'
  rw [d] at d'
  injection d' with d1 _
  have : its = its' := by simpa using congrArg Array.toList d1
  subst this
  exact r.inj r'
end
abbrev Cx.wish (X : Cx) (E : Value → Shared → Prop) : Cx := { X with xe := E }
abbrev Cx.nox (X : Cx) : Cx := X.wish fun _ _ => False
theorem Cx.Ok.wish {X : Cx} (ok : X.Ok) (E : Value → Shared → Prop) : (X.wish E).Ok :=
  ⟨ok.mod, ok.kind, ok.glob, ok.blt, ok.above, ok.inj, ok.has, ok.cab, ok.hd, ok.frames, ok.stk, ok.exf, ok.bs, ok.bsz, ok.noex, ok.exfs, ok.funs, ok.frf⟩
theorem Cx.Ok.unwish {X : Cx} {E : Value → Shared → Prop} (ok : (X.wish E).Ok) : X.Ok :=
  ⟨ok.mod, ok.kind, ok.glob, ok.blt, ok.above, ok.inj, ok.has, ok.cab, ok.hd, ok.frames, ok.stk, ok.exf, ok.bs, ok.bsz, ok.noex, ok.exfs, ok.funs, ok.frf⟩
section
variable {X : Cx} {pins : List (Addr × Obj)} {σ : St} {H : Hp} {s : Shared} {E : Value → Shared → Prop}
theorem Inv.wish (I : Inv X pins σ H s) (E : Value → Shared → Prop) : Inv (X.wish E) pins σ H s := ⟨I.ok.wish E, I.os, I.bare, I.base, I.loc, I.cell, I.free, I.freeC, I.pin, I.hok, I.len⟩
theorem Inv.unwish (I : Inv (X.wish E) pins σ H s) : Inv X pins σ H s := ⟨I.ok.unwish, I.os, I.bare, I.base, I.loc, I.cell, I.free, I.freeC, I.pin, I.hok, I.len⟩
theorem SP.unwish {D : Ends} {f : Flow} {s' : Shared} (h : SP (X.wish E) pins D f s') : SP X pins D f s' := by
  cases f with
  | next => obtain ⟨σ', H', I, q⟩ := h; exact ⟨σ', H', I.unwish, q⟩
  | brk => obtain ⟨σ', H', I, q⟩ := h; exact ⟨σ', H', I.unwish, q⟩
  | cont => obtain ⟨σ', H', I, q⟩ := h; exact ⟨σ', H', I.unwish, q⟩
  | ret u => obtain ⟨v, σ', H', I, r, q⟩ := h; exact ⟨v, σ', H', I.unwish, r, q⟩
theorem PSs.nox {st : List Stmt} {t : TS} (h : PSs X.nox st t) : PSs X st t := fun pins s σ H D I hw =>
  wpAny_mono (h pins s σ H D (I.wish _) hw) (fun _ _ q => q.unwish) fun _ _ z => False.elim z
end
section
variable {X : Cx} {st : Stmt} {rest : List Stmt} {t u : TS} {e : Expr} {te : TE} {pos : Pos}
def tNext : TS := fun D σ H => D.nx σ H
def tSeq (t u : TS) : TS := fun D σ H => t { D with nx := u D } σ H
theorem pss_nil : PSs X [] tNext := fun _ _ σ H _ I h => wpAny_execs_nil ⟨σ, H, I, h⟩
theorem pss_cons (h1 : PS X st t) (h2 : PSs X rest u) : PSs X (st :: rest) (tSeq t u) := by
  intro pins s σ H D I h
  refine wpAny_execs_cons (thn (h1 pins s σ H { D with nx := u D } I h) fun f s1 q => ?_)
  cases f with
  | next =>
    obtain ⟨σ', H', I', q⟩ := q
    exact h2 pins s1 σ' H' D I' q
  | ret v => exact q
  | brk => exact q
  | cont => exact q
theorem pss_one (h1 : PS X st t) : PSs X [st] t := by
  intro pins s σ H D I h
  refine wpAny_execs_cons (thn (h1 pins s σ H D I h) fun f s1 q => ?_)
  cases f with
  | next => exact wpAny_execs_nil q
  | ret v => exact q
  | brk => exact q
  | cont => exact q
def tBreak : TS := fun D σ H => D.bk σ H
def tCont : TS := fun D σ H => D.ct σ H
theorem Inv.quiet {pins : List (Addr × Obj)} {σ : St} {H : Hp} {s : Shared} (I : Inv X pins σ H s) : interactive X.env = false := by simp [interactive, I.ok.kind]
def tDrop (te : TE) : TS := fun D σ H => te σ H fun _ H1 => D.nx σ H1
theorem ps_expr (he : PE X e te) (hs : swapsWith e none pos.line X.env = pure false := by rfl) : PS X (.Expr e pos) (tDrop te) := by
  intro pins s σ H D I h
  exact wpAny_Expr_any (thn (he pins s σ H _ I h) fun v s1 ⟨x, H1, I1, r1, q1⟩ => ⟨σ, H1, I1, q1⟩) I.quiet hs
def tRet (te : TE) : TS := fun D σ H => te σ H D.rt
theorem ps_ret (he : PE X e te) : PS X (.Return (some e) pos) (tRet te) := by
  intro pins s σ H D I h
  exact wpAny_Return_some (thn (he pins s σ H _ I h) fun v s1 ⟨x, H1, I1, r1, q1⟩ => ⟨x, σ, H1, I1, r1, q1⟩)
def tRetN : TS := fun D _ H => D.rt .non H
theorem ps_retN : PS X (.Return none pos) tRetN := fun _ _ σ H _ I h => wpAny_Return_none ⟨.non, σ, H, I, rfl, h⟩
def tIfS (c : TT) (t u : TS) : TS := fun D σ H => c σ H fun b H1 => if b = true then t D σ H1 else u D σ H1
theorem ps_if {c : Expr} {a b : List Stmt} {tc : TT} (hc : PT X c tc) (ha : PSs X a t) (hb : PSs X b u) : PS X (.If c a b pos) (tIfS tc t u) := by
  intro pins s σ H D I h
  refine wpAny_If (thn (hc pins s σ H _ I h) fun d s1 ⟨H1, I1, q1⟩ => ?_)
  cases d with
  | true => exact ha pins s1 σ H1 D I1 q1
  | false => exact hb pins s1 σ H1 D I1 q1
def tNever : TS := fun _ _ _ => False
end
abbrev TG := V → St → Hp → (St → Hp → Prop) → Prop
abbrev TGs := List V → St → Hp → (St → Hp → Prop) → Prop
def PG (X : Cx) (target : Expr) (t : TG) : Prop :=
  ∀ (pins : List (Addr × Obj)) (s : Shared) (σ : St) (H : Hp) (v : V) (u : Value) (Q : St → Hp → Prop), Inv X pins σ H s → RelV v u → t v σ H Q →
    wpAny (model X.prog X.w) X.A (assign target X.env u) (fun _ s' => ∃ σ' H', Inv X pins σ' H' s' ∧ Q σ' H') X.xe s
def PGs (X : Cx) (ts : List Expr) (t : TGs) : Prop :=
  ∀ (pins : List (Addr × Obj)) (s : Shared) (σ : St) (H : Hp) (vs : List V) (us : List Value) (Q : St → Hp → Prop), Inv X pins σ H s → Vals vs us → t vs σ H Q →
    wpAny (model X.prog X.w) X.A (assignInOrder ((assignEach ts X.env).map (·.2)) us) (fun _ s' => ∃ σ' H', Inv X pins σ' H' s' ∧ Q σ' H') X.xe s
abbrev TSet := V → V → V → Hp → (Hp → Prop) → Prop
def PSet (X : Cx) (t : TSet) : Prop :=
  ∀ (pins : List (Addr × Obj)) (s : Shared) (σ : St) (H : Hp) (o i v : V) (ov iv u : Value) (Q : Hp → Prop), Inv X pins σ H s → RelV o ov → RelV i iv → RelV v u → t o i v H Q →
    wpAny (model X.prog X.w) X.A (setItem ov iv u) (fun _ s' => ∃ H', Inv X pins σ H' s' ∧ Q H') X.xe s
abbrev TIp := V → V → Hp → VK → Prop
def PIp (X : Cx) (op : Operator) (t : TIp) : Prop :=
  ∀ (pins : List (Addr × Obj)) (s : Shared) (σ : St) (H : Hp) (x y : V) (v u : Value) (Q : VK), Inv X pins σ H s → RelV x v → RelV y u → t x y H Q →
    wpAny (model X.prog X.w) X.A (inplaceOp op v u) (EP X pins σ Q) X.xe s
section
variable {X : Cx} {pos : Pos}
def gName (i : Nat) : TG := fun v σ H Q => Q (σ.set i (some v)) H
theorem pg_name {i : Nat} {x : Str} (hN : X.N.Nodup) (hi : X.N[i]? = some x) (hx : Loc X.env.scope x) (hf : X.fn x = true ∨ X.env.scope.names.lookup x = some .local := by first | exact .inl rfl | exact .inr rfl | assumption) : PG X (.Name x pos) (gName i) := by
  intro pins s σ H v u Q I r h
  exact wpAny_assign_Name (store_ok I hN hi hx r (fun s' I' => ⟨_, H, I', h⟩) hf)
def gNil : TGs := fun vs σ H Q => vs = [] ∧ Q σ H
def gCons (t : TG) (u : TGs) : TGs := fun vs σ H Q => ∃ v r, vs = v :: r ∧ t v σ H fun σ' H' => u r σ' H' Q
theorem pgs_nil : PGs X [] gNil := by
  intro pins s σ H vs us Q I r h
  obtain ⟨e, h⟩ := h
  subst e
  cases r
  exact assignInOrder_nil ⟨σ, H, I, h⟩
theorem pgs_cons {e : Expr} {es : List Expr} {t : TG} {u : TGs} (h1 : PG X e t) (h2 : PGs X es u)
    (hs : (assignEach (e :: es) X.env).map (·.2) = assign e X.env :: (assignEach es X.env).map (·.2) := by rfl) : PGs X (e :: es) (gCons t u) := by
  intro pins s σ H vs us Q I r h
  obtain ⟨v, vr, e1, h⟩ := h
  subst e1
  cases r with
  | cons r rr =>
    rw [hs]
    refine assignInOrder_cons (thn (h1 pins s σ H _ _ _ I r h) fun _ s1 ⟨σ1, H1, I1, q1⟩ => ?_)
    exact h2 pins s1 σ1 H1 _ _ Q I1 rr q1
def gTup (K : PySem.W.Frag) (n : Nat) (t : TGs) : TG := fun v σ H Q => ∃ a xs, v = .ref a ∧ SqT K H a xs ∧ xs.length = n ∧ t xs σ H Q
theorem pg_tup {es : List Expr} {k : Nat} {t : TGs} {n : Nat} (hc : X.calm = true) (h : PGs X es t)
    (hn : (assignEach es X.env).length = n := by rfl) (hst : (assignEach es X.env).findIdx? (·.1) = none := by rfl) : PG X (.Tuple es k pos) (gTup X.K n t) := by
  intro pins s σ H v u Q I r hw
  obtain ⟨a, xs, e1, hq, hl, hw⟩ := hw
  subst e1
  cases r
  obtain ⟨its, rv, ht, hz⟩ := I.tuple hq
  refine assign_Tuple_tuple (I.ok.hd hc) ht (by simp [hn, ← hl, rv.length]) hst fun h' hx => ?_
  have I1 : Inv X pins σ H { s with heap := h' } := I.kept (t' := s.toks) fun b o e => hx b o (Nat.ne_of_lt (Heap.lt_size e)) e
  exact h pins _ σ H xs _ Q I1 (by simpa using rv) hw
def gSub (to ti : TE) (t : TSet) : TG := fun v σ H Q => to σ H fun o H1 => ti σ H1 fun i H2 => t o i v H2 fun H3 => Q σ H3
theorem pg_sub {o i : Expr} {to ti : TE} {t : TSet} (ho : PE X o to) (hi : PE X i ti) (hs : PSet X t)
    (ha : ∀ v, assign (.Subscript o i pos) X.env v = (do
      let ov ← holding [v] (eval o X.env)
      let iv ← holding [v, ov] (eval i X.env)
      standAt pos
      holding [v, ov, iv] (setItem ov iv v)
      release [v, ov, iv] []) := by intro _; rfl) : PG X (.Subscript o i pos) (gSub to ti t) := by
  intro pins s σ H v u Q I r h
  rw [ha]
  refine wpAny_bind (wpAny_holding (thn (ho pins s σ H _ I h) fun ov s1 ⟨x, H1, I1, r1, q1⟩ => ?_))
  refine wpAny_bind (wpAny_holding (thn (hi pins s1 σ H1 _ I1 q1) fun iv s2 ⟨y, H2, I2, r2, q2⟩ => ?_))
  refine wpAny_bind (wpAny_standAt (wpAny_bind (wpAny_holding (thn (hs pins s2 σ H2 x y v ov iv u _ I2 r1 r2 r q2) fun _ s3 ⟨H3, I3, q3⟩ => ?_))))
  exact wpAny_release ⟨σ, H3, I3, q3⟩
def tAsg (te : TE) (g : TG) : TS := fun D σ H => te σ H fun x H1 => g x σ H1 D.nx
theorem ps_asg {tg e : Expr} {te : TE} {g : TG} (he : PE X e te) (hg : PG X tg g) (hs : swapsWithSole [tg] e pos.line X.env = pure false := by rfl) (hw : swappedStores [tg] e X.env = pure none := by rfl)
    (h1 : (assignEach [tg] X.env).map (·.2) = [assign tg X.env] := by rfl) : PS X (.Assign [tg] e pos) (tAsg te g) := by
  intro pins s σ H D I h
  refine wpAny_Assign_stores (thn (he pins s σ H _ I h) fun v s1 ⟨x, H1, I1, r1, q1⟩ => ?_) hs hw
  rw [h1]
  exact thn (hg pins s1 σ H1 x v _ I1 r1 q1) fun _ s2 q => q
theorem ps_set {i : Nat} {x : Str} {e : Expr} {te : TE} {pos' : Pos} (hN : X.N.Nodup) (hi : X.N[i]? = some x) (hx : Loc X.env.scope x) (he : PE X e te) (hs : swapsWith e (some (.Name x pos')) pos.line X.env = pure false := by rfl) (hf : X.fn x = true ∨ X.env.scope.names.lookup x = some .local := by first | exact .inl rfl | exact .inr rfl | assumption) :
    PS X (.Assign [.Name x pos'] e pos) (tAsg te (gName i)) := by
  intro pins s σ H D I h
  refine wpAny_Assign_Name (thn (he pins s σ H _ I h) fun v s1 ⟨y, H1, I1, r1, q1⟩ => ?_) hs
  exact store_ok I1 hN hi hx r1 (fun s2 I2 => ⟨_, H1, I2, q1⟩) hf
def tPar (i j : Nat) (ta : TA) : TS := fun D σ H => ta σ H fun vs H1 => ∃ v w, vs = [v, w] ∧ D.nx ((σ.set i (some v)).set j (some w)) H1
def tAug (i : Nat) (te : TE) (ti : TIp) : TS := fun D σ H => ∃ x, σ[i]? = some (some x) ∧ te σ H fun y H1 => ti x y H1 fun z H2 => D.nx (σ.set i (some z)) H2
def tAugS (to ti te : TE) (tget : V → V → Hp → VK → Prop) (tip : TIp) (tset : TSet) : TS := fun D σ H => to σ H fun o H1 => ti σ H1 fun i H2 => tget o i H2 fun x H3 => te σ H3 fun y H4 => tip x y H4 fun z H5 => tset o i z H5 fun H6 => D.nx σ H6
def PGet (X : Cx) (t : V → V → Hp → VK → Prop) : Prop :=
  ∀ (pins : List (Addr × Obj)) (s : Shared) (σ : St) (H : Hp) (o i : V) (ov iv : Value) (Q : VK), Inv X pins σ H s → RelV o ov → RelV i iv → t o i H Q →
    wpAny (model X.prog X.w) X.A (getItem ov iv) (EP X pins σ Q) X.xe s
def ipI (f : Int → Int → Int) : TIp := fun x y H Q => ∃ i j, x = .int i ∧ y = .int j ∧ Q (.int (f i j)) H
end
section
variable {X : Cx} {pos : Pos}
def tWhile (c : TT) (tb : TS) : TS := fun D σ H => ∃ W : Nat → St → Hp → Prop, (∃ m, W m σ H) ∧ ∀ m σ H, W m σ H →
  c σ H fun b H1 => if b = true then ∃ N : St → Hp → Prop, (∀ σ' H', N σ' H' → ∃ m', m' < m ∧ W m' σ' H') ∧ tb { D with nx := N, ct := N, bk := D.nx } σ H1 else D.nx σ H1
theorem ps_while {c : Expr} {body : List Stmt} {tc : TT} {tb : TS} (hp : PassesOwn (model X.prog X.w) X.A X.env X.xe) (hc : PT X c tc) (hb : PSs X body tb) : PS X (.While c body [] pos) (tWhile tc tb) := by
  intro pins s σ H D I h
  obtain ⟨W, ⟨m0, w0⟩, turn⟩ := h
  refine wpAny_While (codeAny_whileLoop (fun n s' => ∃ σ' H', Inv X pins σ' H' s' ∧ W n σ' H') ?_ m0 ⟨σ, H, I, w0⟩)
  rintro n s1 ⟨σ1, H1, I1, w1⟩
  refine wpAny_passesOwn hp (thn (hc pins s1 σ1 H1 _ I1 (turn n σ1 H1 w1)) fun b s2 ⟨H2, I2, q2⟩ => ?_)
  cases b with
  | true =>
    obtain ⟨N, hN, q2⟩ := q2
    rw [if_pos rfl]
    refine wpAny_passesOwn hp (thn (hb pins s2 σ1 H2 _ I2 q2) fun f s3 q3 => ?_)
    cases f with
    | next =>
      obtain ⟨σ3, H3, I3, n3⟩ := q3
      obtain ⟨m', hm, w3⟩ := hN σ3 H3 n3
      exact ⟨m', hm, σ3, H3, I3, w3⟩
    | cont =>
      obtain ⟨σ3, H3, I3, n3⟩ := q3
      obtain ⟨m', hm, w3⟩ := hN σ3 H3 n3
      exact ⟨m', hm, σ3, H3, I3, w3⟩
    | brk => exact q3
    | ret v => exact q3
  | false =>
    rw [if_neg Bool.false_ne_true]
    exact wpAny_execs_nil ⟨σ1, H2, I2, q2⟩
end
structure It where
  go : Nat → Hp → Prop
  yld : Nat → Hp → V → Hp → Prop
  stop : Nat → Hp → Prop
def FpOk (X : Cx) (pins : List (Addr × Obj)) (H : Hp) (b : Addr) : Prop :=
  H b = none ∧ b ≠ X.env.locals ∧ b ∉ X.fs ∧ (b ∈ X.ex ∨ X.s₀.heap.objs.size ≤ b) ∧ (∀ x c, X.env.cells.lookup x = some c → c ≠ b) ∧ ∀ p ∈ X.pn ++ pins, p.1 ≠ b
theorem Inv.fpOk {X : Cx} {pins : List (Addr × Obj)} {σ : St} {H H' : Hp} {s : Shared} {b : Addr} (I : Inv X pins σ H s) (hb : s.heap.objs.size ≤ b) (hn : H' b = none) : FpOk X pins H' b := by
  refine ⟨hn, Nat.ne_of_gt (Nat.lt_of_lt_of_le I.lt hb), I.nofs hb, .inr (Nat.le_trans I.sz hb), fun x c e z => ?_, fun p hp z => ?_⟩
  · obtain ⟨v, q⟩ := I.cell x c e
    exact absurd (Nat.lt_of_lt_of_le q.lt (by rw [z]; exact hb)) (Nat.lt_irrefl _)
  · exact absurd (Nat.lt_of_lt_of_le (Heap.lt_size (I.pin p hp).1) (by rw [z]; exact hb)) (Nat.lt_irrefl _)
structure Turn (P : Program) (w : World) (K : PySem.W.Frag) (tg : Expr) (J : It) (fp : List Addr) (it : Addr) (tn : Nat → Heap → Prop) : Prop where
  mem : it ∈ fp
  obj : ∀ i h, tn i h → ∀ b ∈ fp, ∃ o, h.get? b = some o ∧ ∀ v, o.data ≠ .cell v
  keep : ∀ i h h', tn i h → (∀ b ∈ fp, ∀ o, h.get? b = some o → h'.get? b = some o) → tn i h'
  item : ∀ (X : Cx), X.prog = P → X.w = w → X.K = K → X.calm = true → ∀ (i : Nat) (pins : List (Addr × Obj)) (s : Shared) (σ : St) (H : Hp) (E : Value → Shared → Prop), Inv X pins σ H s → (∀ b ∈ fp, FpOk X pins H b) → tn i s.heap → J.go i H →
    wpAny (model P w) X.A (pyNext (.ref it)) (fun r s1 => ∃ u, r = some u ∧
      wpAny (model P w) X.A (letOwnedTupleGo tg (.ref it) u) (fun _ s2 => ∃ x H', Inv X pins σ H' s2 ∧ RelV x u ∧ J.yld i H x H' ∧ tn (i + 1) s2.heap ∧ ∀ b ∈ fp, H' b = none) E s1) E s
  done : ∀ (X : Cx), X.prog = P → X.w = w → X.K = K → X.calm = true → ∀ (i : Nat) (pins : List (Addr × Obj)) (s : Shared) (σ : St) (H : Hp) (E : Value → Shared → Prop), Inv X pins σ H s → (∀ b ∈ fp, FpOk X pins H b) → tn i s.heap → J.stop i H →
    wpAny (model P w) X.A (pyNext (.ref it)) (fun r s1 => r = none ∧ Inv X pins σ H s1) E s
  self : ∀ (A : Around) (i : Nat) (s : Shared) (Q : Value → Shared → Prop) (E : Value → Shared → Prop), tn i s.heap → Q (.ref it) s → wpAny (model P w) A (pyIter (.ref it)) Q E s
abbrev TI := St → Hp → (It → Hp → Prop) → Prop
def PIE (X : Cx) (pins : List (Addr × Obj)) (σ : St) (tg : Expr) (R : It → Hp → Prop) (itv : Value) (s2 : Shared) : Prop :=
  ∃ (it : Addr) (fp : List Addr) (tn : Nat → Heap → Prop) (J : It) (H' : Hp), itv = .ref it ∧ Inv X pins σ H' s2 ∧ Turn X.prog X.w X.K tg J fp it tn ∧ tn 0 s2.heap ∧ (∀ b ∈ fp, FpOk X pins H' b) ∧ R J H'
def PI (X : Cx) (tg iter : Expr) (wi : TI) : Prop :=
  ∀ (pins : List (Addr × Obj)) (s : Shared) (σ : St) (H : Hp) (R : It → Hp → Prop), Inv X pins σ H s → wi σ H R →
    wpAny (model X.prog X.w) X.A (eval iter X.env) (fun v s1 => wpAny (model X.prog X.w) X.A (pyIter v) (PIE X pins σ tg R) X.xe s1) X.xe s
theorem go_of {M : Model} {A : Around} {E : Value → Shared → Prop} {s : Shared} {tg : Expr} {it : Addr} {u : Value} {o : Obj} {n : String} {vs : Array Value} {Q : Unit → Shared → Prop} (ho : s.heap.get? it = some o) (hc : o.cls = .type n) (hd : o.data = .fields vs)
    (hn : ["enumerate", "zip", "dict_itemiterator", "dict_reverseitemiterator", "odict_iterator", "itertools.zip_longest", "itertools.pairwise"].contains n = false) (hQ : Q () s) : wpAny M A (letOwnedTupleGo tg (.ref it) u) Q E s := by
  unfold letOwnedTupleGo
  cases tg <;> first
    | exact wpAny_pure hQ
    | (cases u <;> first
        | exact wpAny_pure hQ
        | (refine wpAny_bind (wpAny_load ho ?_)
           rw [hc, hd]
           show wpAny M A (if (["enumerate", "zip", "dict_itemiterator", "dict_reverseitemiterator", "odict_iterator", "itertools.zip_longest", "itertools.pairwise"].contains n && vs[0]? == some (rawInt _)) = true then _ else _) Q E s
           rw [if_neg (by intro h; rw [hn, Bool.false_and] at h; cases h)]
           exact wpAny_pure hQ))
def Itl (K : PySem.W.Frag) (a : Addr) : It :=
  ⟨fun i H => ∃ xs x, SqL K H a xs ∧ xs[i]? = some x, fun i H x H' => H' = H ∧ ∀ xs, SqL K H a xs → xs[i]? = some x, fun i H => ∃ xs, SqL K H a xs ∧ xs.length ≤ i⟩
def Itt (K : PySem.W.Frag) (a : Addr) : It :=
  ⟨fun i H => ∃ xs x, SqT K H a xs ∧ xs[i]? = some x, fun i H x H' => H' = H ∧ ∀ xs, SqT K H a xs → xs[i]? = some x, fun i H => ∃ xs, SqT K H a xs ∧ xs.length ≤ i⟩
def Itr (lo : Int) (n : Nat) : It := ⟨fun i _ => i < n, fun i H x H' => H' = H ∧ x = .int (lo + i), fun i _ => n ≤ i⟩
theorem turn_list {P : Program} {w : World} {K : PySem.W.Frag} {tg : Expr} (a it : Addr) : Turn P w K tg (Itl K a) [it] it (fun i h => h.IsListIter it a i) where
  mem := by simp
  obj := fun i h st b hb => by
    have e : b = it := by simpa using hb
    subst e
    obtain ⟨o, e, c, d⟩ := st
    exact ⟨o, e, fun v z => by rw [d] at z; cases z⟩
  keep := fun i h h' st k => st.at fun o e => k it (by simp) o e
  item := by
    intro X hP hw hK hc i pins s σ H E I hf st hg
    subst hP hw hK
    obtain ⟨xs, x, hq, hx⟩ := hg
    obtain ⟨its, rv, p, hz⟩ := I.list hq
    obtain ⟨u, hu, ru⟩ := rv.get hx
    obtain ⟨f0, f1, f2, f3, f4, f5⟩ := hf it (by simp)
    refine wpAny_pyNext_list_item st p.isList (x := u) (by simpa using hu) fun h' st' sb => ?_
    have I1 : Inv X pins σ H { s with heap := h' } := I.turned (t' := s.toks) (fun b o hb e => (sb.2 b hb).trans e) f0 f1 f3 f4 f5
    obtain ⟨o, e, c, d⟩ := id st'
    exact ⟨u, rfl, go_of (s := { s with heap := h' }) e c d (by decide) ⟨x, H, I1, ru, ⟨rfl, fun ys hy => by rw [I.list_inj hy hq]; exact hx⟩, st', fun b hb => (hf b hb).1⟩⟩
  done := by
    intro X hP hw hK hc i pins s σ H E I hf st hg
    subst hP hw hK
    obtain ⟨xs, hq, hx⟩ := hg
    obtain ⟨its, rv, p, hz⟩ := I.list hq
    obtain ⟨f0, f1, f2, f3, f4, f5⟩ := hf it (by simp)
    have hl := rv.length
    exact wpAny_pyNext_list_end (I.ok.hd hc) st p.isList (by simp; omega) fun h' eb => ⟨rfl, I.turned (t' := s.toks) (fun b o hb e => eb b o hb e) f0 f1 f3 f4 f5⟩
  self := fun _ _ _ _ _ st h => wpAny_pyIter_listiter st h
theorem turn_tuple {P : Program} {w : World} {K : PySem.W.Frag} {tg : Expr} (a it : Addr) : Turn P w K tg (Itt K a) [it] it (fun i h => h.IsTupleIter it a i) where
  mem := by simp
  obj := fun i h st b hb => by
    have e : b = it := by simpa using hb
    subst e
    obtain ⟨o, e, c, d⟩ := st
    exact ⟨o, e, fun v z => by rw [d] at z; cases z⟩
  keep := fun i h h' st k => st.at fun o e => k it (by simp) o e
  item := by
    intro X hP hw hK hc i pins s σ H E I hf st hg
    subst hP hw hK
    obtain ⟨xs, x, hq, hx⟩ := hg
    obtain ⟨its, rv, p, hz⟩ := I.tuple hq
    obtain ⟨u, hu, ru⟩ := rv.get hx
    obtain ⟨f0, f1, f2, f3, f4, f5⟩ := hf it (by simp)
    refine wpAny_pyNext_tuple_item st (show s.heap.IsTuple a its.toArray from p) (x := u) (by simpa using hu) fun h' st' sb => ?_
    have I1 : Inv X pins σ H { s with heap := h' } := I.turned (t' := s.toks) (fun b o hb e => (sb.2 b hb).trans e) f0 f1 f3 f4 f5
    obtain ⟨o, e, c, d⟩ := id st'
    exact ⟨u, rfl, go_of (s := { s with heap := h' }) e c d (by decide) ⟨x, H, I1, ru, ⟨rfl, fun ys hy => by rw [I.tuple_inj hy hq]; exact hx⟩, st', fun b hb => (hf b hb).1⟩⟩
  done := by
    intro X hP hw hK hc i pins s σ H E I hf st hg
    subst hP hw hK
    obtain ⟨xs, hq, hx⟩ := hg
    obtain ⟨its, rv, p, hz⟩ := I.tuple hq
    obtain ⟨f0, f1, f2, f3, f4, f5⟩ := hf it (by simp)
    have hl := rv.length
    exact wpAny_pyNext_tuple_end (I.ok.hd hc) st (show s.heap.IsTuple a its.toArray from p) (by simp; omega) fun h' eb => ⟨rfl, I.turned (t' := s.toks) (fun b o hb e => eb b o hb e) f0 f1 f3 f4 f5⟩
  self := fun _ _ _ _ _ st h => wpAny_pyIter_tupleiter st h
theorem turn_range {P : Program} {w : World} {K : PySem.W.Frag} {tg : Expr} (it : Addr) (lo : Int) (n : Nat) : Turn P w K tg (Itr lo n) [it] it (fun i h => IsRangeIter h it (lo + (i : Nat) * 1) ((n : Int) - (i : Nat)) 1) where
  mem := by simp
  obj := fun i h st b hb => by
    have e : b = it := by simpa using hb
    subst e
    exact ⟨_, st, fun v z => by
      have z' : Data.fields _ = Data.cell v := z
      cases z'⟩
  keep := fun i h h' st k => k it (by simp) _ st
  item := by
    intro X hP hw hK hc i pins s σ H E I hf st hg
    subst hP hw hK
    obtain ⟨f0, f1, f2, f3, f4, f5⟩ := hf it (by simp)
    have W := Walks.range (prog := X.prog) (w := X.w) (I.ok.hd hc) it lo 1 n
    refine W.item i s _ _ hg st fun v h' tk hv st' kk => ?_
    obtain ⟨t, rfl⟩ := hv
    have I1 : Inv X pins σ H { s with heap := h', toks := tk } := I.turned (fun b o hb e => kk b o (by simpa using hb) e) f0 f1 f3 f4 f5
    refine ⟨_, rfl, go_of (s := { s with heap := h', toks := tk }) (n := "range_iterator") st' rfl rfl (by decide) ⟨.int (lo + i), H, I1, ⟨t, ?_⟩, ⟨rfl, rfl⟩, st', fun b hb => (hf b hb).1⟩⟩
    rw [Int.mul_one]
  done := by
    intro X hP hw hK hc i pins s σ H E I hf st hg
    subst hP hw hK
    obtain ⟨f0, f1, f2, f3, f4, f5⟩ := hf it (by simp)
    exact wpAny_pyNext_range_end (I.ok.hd hc) st (by have : n ≤ i := hg; omega) fun h' eb => ⟨rfl, I.turned (t' := s.toks) (fun b o hb e => eb b o hb e) f0 f1 f3 f4 f5⟩
  self := fun _ _ _ _ _ st h => wpAny_pyIter_rangeiter st h
end L2
namespace L2
open PySem PySem.Spec PyProof.Rows
section
variable {X : Cx} {tg : Expr}
def iList (K : PySem.W.Frag) (tl : TE) : TI := fun σ H R => tl σ H fun x H1 => ∃ a, x = .ref a ∧ (∃ xs, SqL K H1 a xs) ∧ R (Itl K a) H1
def iTup (K : PySem.W.Frag) (tl : TE) : TI := fun σ H R => tl σ H fun x H1 => ∃ a, x = .ref a ∧ (∃ xs, SqT K H1 a xs) ∧ R (Itt K a) H1
theorem pi_list {l : Expr} {tl : TE} (hl : PE X l tl) : PI X tg l (iList X.K tl) := by
  intro pins s σ H R I h
  refine thn (hl pins s σ H _ I h) fun v s1 ⟨x, H1, I1, r1, q1⟩ => ?_
  obtain ⟨a, e, ⟨xs, hq⟩, q⟩ := q1
  subst e
  cases r1
  obtain ⟨its, rv, p, hz⟩ := I1.list hq
  refine wpAny_pyIter_list p.isList ?_
  refine ⟨s1.heap.objs.size, [s1.heap.objs.size], _, _, H1, rfl, I1.kept (t' := s1.toks) fun b o e => Heap.get?_push_of_some _ e, turn_list a _, ⟨_, Heap.get?_push_size _ rfl, rfl, rfl⟩, fun b hb => ?_, q⟩
  have e : b = s1.heap.objs.size := by simpa using hb
  subst e
  exact I1.fpOk (Nat.le_refl _) (I1.hok.fresh (Nat.le_refl _))
theorem pi_tup {l : Expr} {tl : TE} (hl : PE X l tl) : PI X tg l (iTup X.K tl) := by
  intro pins s σ H R I h
  refine thn (hl pins s σ H _ I h) fun v s1 ⟨x, H1, I1, r1, q1⟩ => ?_
  obtain ⟨a, e, ⟨xs, hq⟩, q⟩ := q1
  subst e
  cases r1
  obtain ⟨its, rv, p, hz⟩ := I1.tuple hq
  refine wpAny_pyIter_tuple (show s1.heap.IsTuple a its.toArray from p) ?_
  refine ⟨s1.heap.objs.size, [s1.heap.objs.size], _, _, H1, rfl, I1.kept (t' := s1.toks) fun b o e => Heap.get?_push_of_some _ e, turn_tuple a _, ⟨_, Heap.get?_push_size _ rfl, rfl, rfl⟩, fun b hb => ?_, q⟩
  have e : b = s1.heap.objs.size := by simpa using hb
  subst e
  exact I1.fpOk (Nat.le_refl _) (I1.hok.fresh (Nat.le_refl _))
theorem range_it {pins : List (Addr × Obj)} {σ : St} {H : Hp} {s : Shared} {R : It → Hp → Prop} {E : Value → Shared → Prop} {lo hi : Int} {t u v : Tok} {tk : Nat} (I : Inv X pins σ H s) (h1 : -(2 ^ 62) ≤ lo) (h2 : lo < 2 ^ 62) (h3 : -(2 ^ 62) ≤ hi) (h4 : hi < 2 ^ 62)
    (q : R (Itr lo (hi - lo).toNat) H) : wpAny (model X.prog X.w) X.A (pyIter (.ref s.heap.objs.size)) (PIE X pins σ tg R) E { s with heap := s.heap.push { cls := .type "range", data := .fields #[.int lo t, .int hi u, .int 1 v] }, toks := tk } := by
  refine wpAny_pyIter_range (IsRange.new ..) (small_one h1 h2 h3 h4) ?_
  have I1 : Inv X pins σ H { s with heap := s.heap.push { cls := .type "range", data := .fields #[.int lo t, .int hi u, .int 1 v] }, toks := tk } := I.kept fun b o e => Heap.get?_push_of_some _ e
  refine ⟨(s.heap.push { cls := .type "range", data := .fields #[.int lo t, .int hi u, .int 1 v] }).objs.size, [(s.heap.push { cls := .type "range", data := .fields #[.int lo t, .int hi u, .int 1 v] }).objs.size], _, _, H, rfl,
    I1.kept (t' := tk) fun b o e => Heap.get?_push_of_some _ e, turn_range _ lo (hi - lo).toNat, ?_, fun b hb => ?_, q⟩
  · have e1 : lo + ((0 : Nat) : Int) * 1 = lo := by simp
    have e2 : (((hi - lo).toNat : Nat) : Int) - ((0 : Nat) : Int) = Builtin.Range.rangeSize lo hi 1 := by rw [rangeSize_one]; split <;> omega
    show IsRangeIter _ _ (lo + ((0 : Nat) : Int) * 1) ((((hi - lo).toNat : Nat) : Int) - ((0 : Nat) : Int)) 1
    rw [e1, e2]
    exact Heap.get?_push_size _ rfl
  · have e : b = (s.heap.push { cls := .type "range", data := .fields #[.int lo t, .int hi u, .int 1 v] }).objs.size := by simpa using hb
    subst e
    exact I1.fpOk (Nat.le_refl _) (I1.hok.fresh (Nat.le_refl _))
def iRng1 (ta : TA) : TI := fun σ H R => ta σ H fun vs H1 => ∃ j : Int, vs = [.int j] ∧ -(2 ^ 62) ≤ j ∧ j < 2 ^ 62 ∧ R (Itr 0 j.toNat) H1
def iRng2 (ta : TA) : TI := fun σ H R => ta σ H fun vs H1 => ∃ i j : Int, vs = [.int i, .int j] ∧ (-(2 ^ 62) ≤ i ∧ i < 2 ^ 62 ∧ -(2 ^ 62) ≤ j ∧ j < 2 ^ 62) ∧ R (Itr i (j - i).toNat) H1
theorem pi_range1 {a : Expr} {ta : TA} {p pos : Pos} (hg : Gl X "range") (hm : X.mg "range" = none) (ha : PA X [a] ta) (hs : starEach [a] X.env = [(false, eval a X.env)] := by rfl) : PI X tg (.Call (.Name "range" p) [a] [] pos) (iRng1 ta) := by
  intro pins s σ H R I h
  refine Call_ (ld_blt I hg hm boot_range (PyProof.Rows.callWith_type1 (thn (ha pos pins s σ H _ I h) fun us s1 ⟨vs, H1, I1, r1, q1⟩ => ?_) hs rfl))
  obtain ⟨j, e, q1, q2, q⟩ := q1
  subst e
  cases r1 with
  | cons r rr =>
    cases rr
    obtain ⟨t, rfl⟩ := r
    exact call_range_1 (range_it I1 (by omega) (by omega) q1 q2 (by simpa using q))
def tFor (wi : TI) (g : TG) (tb : TS) : TS := fun D σ H => wi σ H fun J H1 => ∃ W : Nat → Nat → St → Hp → Prop, (∃ m, W 0 m σ H1) ∧ ∀ i m σ H, W i m σ H →
  (J.stop i H ∧ D.nx σ H) ∨ (J.go i H ∧ ∃ N : St → Hp → Prop, (∀ σ' H', N σ' H' → ∃ m', m' < m ∧ W (i + 1) m' σ' H') ∧ ∀ x H', J.yld i H x H' → g x σ H' fun σ2 H2 => tb { D with nx := N, ct := N, bk := D.nx } σ2 H2)
def pinsAt (fp : List Addr) (h : Heap) : List (Addr × Obj) := fp.filterMap fun b => (h.get? b).map fun o => (b, o)
theorem mem_pinsAt {fp : List Addr} {h : Heap} {b : Addr} {o : Obj} (hb : b ∈ fp) (e : h.get? b = some o) : (b, o) ∈ pinsAt fp h := List.mem_filterMap.mpr ⟨b, hb, by rw [e]; rfl⟩
theorem of_pinsAt {fp : List Addr} {h : Heap} {p : Addr × Obj} (hp : p ∈ pinsAt fp h) : p.1 ∈ fp ∧ h.get? p.1 = some p.2 := by
  obtain ⟨b, hb, e⟩ := List.mem_filterMap.mp hp
  cases q : h.get? b with
  | none => rw [q] at e; cases e
  | some o =>
    rw [q] at e
    have e' : (b, o) = p := Option.some.inj e
    subst e'
    exact ⟨hb, q⟩
theorem Inv.pinned {pins : List (Addr × Obj)} {σ : St} {H : Hp} {s : Shared} {fp : List Addr} (I : Inv X pins σ H s) (hf : ∀ b ∈ fp, FpOk X pins H b) (ho : ∀ b ∈ fp, ∃ o, s.heap.get? b = some o ∧ ∀ v, o.data ≠ .cell v) : Inv X (pins ++ pinsAt fp s.heap) σ H s :=
  I.pins_of fun p hp => (List.mem_append.mp hp).elim (fun z => I.pin p (List.mem_append_right _ z)) fun z => by
    obtain ⟨hb, e⟩ := of_pinsAt z
    obtain ⟨f0, f1, f2, _⟩ := hf p.1 hb
    obtain ⟨o, e', d⟩ := ho p.1 hb
    rw [e] at e'; cases e'
    exact ⟨e, f0, f1, f2, d⟩
theorem Inv.unpinned {pins pl : List (Addr × Obj)} {σ : St} {H : Hp} {s : Shared} (I : Inv X (pins ++ pl) σ H s) : Inv X pins σ H s := I.pins_of fun p hp => I.pin p (List.mem_append_right _ (List.mem_append_left _ hp))
theorem ps_for {iter : Expr} {body : List Stmt} {wi : TI} {g : TG} {tb : TS} {pos : Pos} (hp : PassesOwn (model X.prog X.w) X.A X.env X.xe) (hc : X.calm = true) (hi : PI X tg iter wi) (hg : PG X tg g) (hb : PSs X body tb)
    (hs : ∀ x, foldedSetIterable iter X.env x = pure x := by intro _; rfl) : PS X (.For tg iter body [] pos) (tFor wi g tb) := by
  intro pins s σ H D I h
  refine wpAny_For (thn (hi pins s σ H _ I h) fun v s1 h1 => thn h1 fun itv s2 h2 => ?_) hs
  obtain ⟨it, fp, tn, J, H2, e, I2, T, st2, f2, W, ⟨m0, w0⟩, turn⟩ := h2
  subst e
  have stat : ∀ {H' : Hp}, (∀ b ∈ fp, H' b = none) → ∀ b ∈ fp, FpOk X pins H' b := fun hn b hb => ⟨hn b hb, (f2 b hb).2⟩
  refine codeAny_forLoop_any (fun n s' => ∃ i σ' H', Inv X pins σ' H' s' ∧ tn i s'.heap ∧ (∀ b ∈ fp, H' b = none) ∧ W i n σ' H') ?_ m0 ⟨0, σ, H2, I2, st2, fun b hb => (f2 b hb).1, w0⟩
  rintro n s3 ⟨i, σ3, H3, I3, st3, fr3, w3⟩
  rcases turn i n σ3 H3 w3 with ⟨stop, qn⟩ | ⟨go, N, hN, step⟩
  · refine wpAny_passesOwn hp (thn (T.done X rfl rfl rfl hc i pins s3 σ3 H3 X.xe I3 (stat fr3) st3 stop) fun r s4 ⟨hr, I4⟩ => ?_)
    subst hr
    exact wpAny_execs_nil ⟨σ3, H3, I4, qn⟩
  · refine wpAny_passesOwn hp (thn (T.item X rfl rfl rfl hc i pins s3 σ3 H3 X.xe I3 (stat fr3) st3 go) fun r s4 ⟨u, hr, h4⟩ => ?_)
    subst hr
    refine wpAny_passesOwn hp (thn h4 fun _ s5 ⟨x, H5, I5, r5, y5, st5, fr5⟩ => ?_)
    have I5' := I5.pinned (stat fr5) (T.obj _ _ st5)
    refine wpAny_passesOwn hp (thn (hg _ s5 σ3 H5 x u _ I5' r5 (step x H5 y5)) fun _ s6 ⟨σ6, H6, I6, q6⟩ => ?_)
    refine wpAny_passesOwn hp (thn (hb _ s6 σ6 H6 _ I6 q6) fun f s7 q7 => ?_)
    have again : ∀ {σ7 : St} {H7 : Hp}, Inv X (pins ++ pinsAt fp s5.heap) σ7 H7 s7 → N σ7 H7 → ∃ m, m < n ∧ ∃ i σ' H', Inv X pins σ' H' s7 ∧ tn i s7.heap ∧ (∀ b ∈ fp, H' b = none) ∧ W i m σ' H' := fun {σ7 H7} I7 n7 => by
      obtain ⟨m', hm, w7⟩ := hN σ7 H7 n7
      refine ⟨m', hm, i + 1, σ7, H7, I7.unpinned, T.keep _ _ _ st5 fun b hb o e => (I7.pin (b, o) (List.mem_append_right _ (List.mem_append_right _ (mem_pinsAt hb e)))).1, fun b hb => ?_, w7⟩
      obtain ⟨o, e, d⟩ := T.obj _ _ st5 b hb
      exact (I7.pin (b, o) (List.mem_append_right _ (List.mem_append_right _ (mem_pinsAt hb e)))).2.1
    cases f with
    | next => obtain ⟨σ7, H7, I7, n7⟩ := q7; exact again I7 n7
    | cont => obtain ⟨σ7, H7, I7, n7⟩ := q7; exact again I7 n7
    | brk => obtain ⟨σ7, H7, I7, q7⟩ := q7; exact ⟨σ7, H7, I7.unpinned, q7⟩
    | ret v => obtain ⟨x7, σ7, H7, I7, r7, q7⟩ := q7; exact ⟨x7, σ7, H7, I7.unpinned, r7, q7⟩
end
theorem for_list {K : PySem.W.Frag} {a : Addr} {xs : List V} {g : TG} {tb : TS} {D : Ends} {σ : St} {H : Hp} (Pv : Nat → St → Hp → Prop) (h0 : Pv 0 σ H) (hl : ∀ i σ H, i ≤ xs.length → Pv i σ H → SqL K H a xs)
    (hs : ∀ i x σ H, xs[i]? = some x → Pv i σ H → g x σ H fun σ2 H2 => tb { D with nx := Pv (i + 1), ct := Pv (i + 1), bk := D.nx } σ2 H2) (hd : ∀ σ H, Pv xs.length σ H → D.nx σ H) :
    ∃ W : Nat → Nat → St → Hp → Prop, (∃ m, W 0 m σ H) ∧ ∀ i m σ H, W i m σ H →
      ((Itl K a).stop i H ∧ D.nx σ H) ∨ ((Itl K a).go i H ∧ ∃ N : St → Hp → Prop, (∀ σ' H', N σ' H' → ∃ m', m' < m ∧ W (i + 1) m' σ' H') ∧ ∀ x H', (Itl K a).yld i H x H' → g x σ H' fun σ2 H2 => tb { D with nx := N, ct := N, bk := D.nx } σ2 H2) := by
  refine ⟨fun i m σ H => m = xs.length - i ∧ i ≤ xs.length ∧ Pv i σ H, ⟨xs.length, by simp, Nat.zero_le _, h0⟩, ?_⟩
  rintro i m σ H ⟨rfl, hi, p⟩
  have q := hl i σ H hi p
  by_cases hlt : i < xs.length
  · refine .inr ⟨⟨xs, xs[i], q, by simp [hlt]⟩, Pv (i + 1), fun σ' H' p' => ⟨xs.length - (i + 1), by omega, rfl, hlt, p'⟩, fun x H' y => ?_⟩
    obtain ⟨e, y⟩ := y
    subst e
    exact hs i x σ _ (y xs q) p
  · have e : i = xs.length := by omega
    subst e
    exact .inl ⟨⟨xs, q, Nat.le_refl _⟩, hd σ H p⟩
theorem for_tup {K : PySem.W.Frag} {a : Addr} {xs : List V} {g : TG} {tb : TS} {D : Ends} {σ : St} {H : Hp} (Pv : Nat → St → Hp → Prop) (h0 : Pv 0 σ H) (hl : ∀ i σ H, i ≤ xs.length → Pv i σ H → SqT K H a xs)
    (hs : ∀ i x σ H, xs[i]? = some x → Pv i σ H → g x σ H fun σ2 H2 => tb { D with nx := Pv (i + 1), ct := Pv (i + 1), bk := D.nx } σ2 H2) (hd : ∀ σ H, Pv xs.length σ H → D.nx σ H) :
    ∃ W : Nat → Nat → St → Hp → Prop, (∃ m, W 0 m σ H) ∧ ∀ i m σ H, W i m σ H →
      ((Itt K a).stop i H ∧ D.nx σ H) ∨ ((Itt K a).go i H ∧ ∃ N : St → Hp → Prop, (∀ σ' H', N σ' H' → ∃ m', m' < m ∧ W (i + 1) m' σ' H') ∧ ∀ x H', (Itt K a).yld i H x H' → g x σ H' fun σ2 H2 => tb { D with nx := N, ct := N, bk := D.nx } σ2 H2) := by
  refine ⟨fun i m σ H => m = xs.length - i ∧ i ≤ xs.length ∧ Pv i σ H, ⟨xs.length, by simp, Nat.zero_le _, h0⟩, ?_⟩
  rintro i m σ H ⟨rfl, hi, p⟩
  have q := hl i σ H hi p
  by_cases hlt : i < xs.length
  · refine .inr ⟨⟨xs, xs[i], q, by simp [hlt]⟩, Pv (i + 1), fun σ' H' p' => ⟨xs.length - (i + 1), by omega, rfl, hlt, p'⟩, fun x H' y => ?_⟩
    obtain ⟨e, y⟩ := y
    subst e
    exact hs i x σ _ (y xs q) p
  · have e : i = xs.length := by omega
    subst e
    exact .inl ⟨⟨xs, q, Nat.le_refl _⟩, hd σ H p⟩
theorem for_range {lo : Int} {n : Nat} {g : TG} {tb : TS} {D : Ends} {σ : St} {H : Hp} (Pv : Nat → St → Hp → Prop) (h0 : Pv 0 σ H)
    (hs : ∀ i σ H, i < n → Pv i σ H → g (.int (lo + i)) σ H fun σ2 H2 => tb { D with nx := Pv (i + 1), ct := Pv (i + 1), bk := D.nx } σ2 H2) (hd : ∀ σ H, Pv n σ H → D.nx σ H) :
    ∃ W : Nat → Nat → St → Hp → Prop, (∃ m, W 0 m σ H) ∧ ∀ i m σ H, W i m σ H →
      ((Itr lo n).stop i H ∧ D.nx σ H) ∨ ((Itr lo n).go i H ∧ ∃ N : St → Hp → Prop, (∀ σ' H', N σ' H' → ∃ m', m' < m ∧ W (i + 1) m' σ' H') ∧ ∀ x H', (Itr lo n).yld i H x H' → g x σ H' fun σ2 H2 => tb { D with nx := N, ct := N, bk := D.nx } σ2 H2) := by
  refine ⟨fun i m σ H => m = n - i ∧ i ≤ n ∧ Pv i σ H, ⟨n, by simp, Nat.zero_le _, h0⟩, ?_⟩
  rintro i m σ H ⟨rfl, hi, p⟩
  by_cases hlt : i < n
  · refine .inr ⟨hlt, Pv (i + 1), fun σ' H' p' => ⟨n - (i + 1), by omega, rfl, hlt, p'⟩, fun x H' y => ?_⟩
    obtain ⟨e, y⟩ := y
    subst e y
    exact hs i σ _ hlt p
  · have e : i = n := by omega
    subst e
    exact .inl ⟨Nat.le_refl _, hd σ H p⟩
end L2
namespace L2
open PySem PySem.Spec PyProof.Rows
abbrev R2 := V → V → Hp → VK → Prop
def OpR (X : Cx) (f : Value → Value → Sem Value) (r : R2) : Prop :=
  ∀ (pins : List (Addr × Obj)) (s : Shared) (σ : St) (H : Hp) (x y : V) (v u : Value) (Q : VK), Inv X pins σ H s → RelV x v → RelV y u → r x y H Q →
    wpAny (model X.prog X.w) X.A (f v u) (EP X pins σ Q) X.xe s
def UnR (X : Cx) (f : Value → Sem Value) (r : V → Hp → VK → Prop) : Prop :=
  ∀ (pins : List (Addr × Obj)) (s : Shared) (σ : St) (H : Hp) (x : V) (v : Value) (Q : VK), Inv X pins σ H s → RelV x v → r x H Q →
    wpAny (model X.prog X.w) X.A (f v) (EP X pins σ Q) X.xe s
def CallR (X : Cx) (f : Value) (r : List V → Hp → VK → Prop) : Prop :=
  ∀ (pins : List (Addr × Obj)) (s : Shared) (σ : St) (H : Hp) (xs : List V) (us : List Value) (Q : VK), Inv X pins σ H s → Vals xs us → r xs H Q →
    wpAny (model X.prog X.w) X.A (call f us) (EP X pins σ Q) X.xe s
def TruR (X : Cx) (r : V → Hp → (Bool → Hp → Prop) → Prop) : Prop :=
  ∀ (pins : List (Addr × Obj)) (s : Shared) (σ : St) (H : Hp) (x : V) (v : Value) (Q : Bool → Hp → Prop), Inv X pins σ H s → RelV x v → r x H Q →
    wpAny (model X.prog X.w) X.A (truthy v) (TP X pins σ Q) X.xe s
def tOp (r : R2) (ta tb : TE) : TE := fun σ H Q => ta σ H fun x H1 => tb σ H1 fun y H2 => r x y H2 Q
def tUn (r : V → Hp → VK → Prop) (ta : TE) : TE := fun σ H Q => ta σ H fun x H1 => r x H1 Q
def rI (C : Int → Int → Prop) (g : Int → Int → V) : R2 := fun x y H Q => ∃ i j, x = .int i ∧ y = .int j ∧ C i j ∧ Q (g i j) H
def rI0 (g : Int → Int → V) : R2 := fun x y H Q => ∃ i j, x = .int i ∧ y = .int j ∧ Q (g i j) H
def rU (g : Int → V) : V → Hp → VK → Prop := fun x H Q => ∃ i, x = .int i ∧ Q (g i) H
section
variable {X : Cx} {a b c : Expr} {ta tb tc : TE} {pos : Pos}
theorem binT (ha : PE X a ta) (hb : PE X b tb) {pins : List (Addr × Obj)} {s : Shared} {σ : St} {H : Hp} {R : V → V → Hp → Prop} (I : Inv X pins σ H s)
    (h : ta σ H fun x H1 => tb σ H1 fun y H2 => R x y H2) {Q : Value → Shared → Prop} {f : Value → Value → Sem Value}
    (hf : ∀ v u s2 x y H2, Inv X pins σ H2 s2 → RelV x v → RelV y u → R x y H2 → wpAny (model X.prog X.w) X.A (f v u) Q X.xe s2) :
    wpAny (model X.prog X.w) X.A (eval a X.env) (fun v s₁ => wpAny (model X.prog X.w) X.A (eval b X.env) (fun u s₂ => wpAny (model X.prog X.w) X.A (f v u) Q X.xe s₂) X.xe s₁) X.xe s := by
  refine thn (ha pins s σ H _ I h) fun v s1 ⟨x, H1, I1, r1, q1⟩ => ?_
  refine thn (hb pins s1 σ H1 _ I1 q1) fun u s2 ⟨y, H2, I2, r2, q2⟩ => ?_
  exact hf v u s2 x y H2 I2 r1 r2 q2
theorem pe_op {op : Operator} {r : R2} (ho : OpR X (binaryOp op) r) (ha : PE X a ta) (hb : PE X b tb) : PE X (.BinOp a op b pos) (tOp r ta tb) := by
  intro pins s σ H Q I h
  exact wpAny_BinOp (binT ha hb I h fun v u s2 x y H2 I2 rx ry q => ho pins s2 σ H2 x y v u Q I2 rx ry q)
theorem opI {f : Value → Value → Sem Value} {C : Int → Int → Prop} {g : Int → Int → Int}
    (rule : ∀ (i j : Int) (t u : Tok) (s : Shared) (Q : Value → Shared → Prop) (E : Value → Shared → Prop), C i j → Q (.int (g i j) s.toks) { s with toks := s.toks + 1 } → wpAny (model X.prog X.w) X.A (f (.int i t) (.int j u)) Q E s) :
    OpR X f (rI C fun i j => .int (g i j)) := by
  intro pins s σ H x y v u Q I rx ry h
  obtain ⟨i, j, rfl, rfl, hc, q⟩ := h
  obtain ⟨t, rfl⟩ := rx
  obtain ⟨t', rfl⟩ := ry
  exact rule i j t t' s _ _ hc ⟨.int (g i j), H, I.tok _, ⟨_, rfl⟩, q⟩
theorem opI0 {f : Value → Value → Sem Value} {g : Int → Int → Int}
    (rule : ∀ (i j : Int) (t u : Tok) (s : Shared) (Q : Value → Shared → Prop) (E : Value → Shared → Prop), Q (.int (g i j) s.toks) { s with toks := s.toks + 1 } → wpAny (model X.prog X.w) X.A (f (.int i t) (.int j u)) Q E s) :
    OpR X f (rI0 fun i j => .int (g i j)) := by
  intro pins s σ H x y v u Q I rx ry h
  obtain ⟨i, j, rfl, rfl, q⟩ := h
  obtain ⟨t, rfl⟩ := rx
  obtain ⟨t', rfl⟩ := ry
  exact rule i j t t' s _ _ ⟨.int (g i j), H, I.tok _, ⟨_, rfl⟩, q⟩
theorem opB0 {f : Value → Value → Sem Value} {g : Int → Int → Bool}
    (rule : ∀ (i j : Int) (t u : Tok) (s : Shared) (Q : Value → Shared → Prop) (E : Value → Shared → Prop), Q (.bool (g i j)) s → wpAny (model X.prog X.w) X.A (f (.int i t) (.int j u)) Q E s) :
    OpR X f (rI0 fun i j => .bl (g i j)) := by
  intro pins s σ H x y v u Q I rx ry h
  obtain ⟨i, j, rfl, rfl, q⟩ := h
  obtain ⟨t, rfl⟩ := rx
  obtain ⟨t', rfl⟩ := ry
  exact rule i j t t' s _ _ ⟨.bl (g i j), H, I, rfl, q⟩
def CDiv (i j : Int) : Prop := 0 < j ∧ j < 1073741824
def CDivN (i j : Int) : Prop := j ≠ 0 ∧ j.natAbs < 1073741824
def CPow (i j : Int) : Prop := 0 ≤ j ∧ j ≤ 1000000 ∧ i.natAbs < 2 ^ 64
def CMul (i j : Int) : Prop := (-(2 ^ 64) < i ∧ i < 2 ^ 64) ∨ (-(2 ^ 64) < j ∧ j < 2 ^ 64)
theorem CMul.ok {i j : Int} (h : CMul i j) : IntMulOk i j := by
  rcases h with ⟨h1, h2⟩ | ⟨h1, h2⟩
  · exact .of_left (intBits_le_64 h1 h2)
  · exact .of_right (intBits_le_64 h1 h2)
theorem op_add : OpR X (binaryOp .Add) (rI0 fun i j => .int (i + j)) := opI0 fun _ _ _ _ _ _ _ q => add_int q
theorem op_sub : OpR X (binaryOp .Sub) (rI0 fun i j => .int (i - j)) := opI0 fun _ _ _ _ _ _ _ q => sub_int q
theorem op_mul : OpR X (binaryOp .Mult) (rI CMul fun i j => .int (i * j)) := opI fun _ _ _ _ _ _ _ hc q => mul_int q hc.ok
theorem op_fdiv : OpR X (binaryOp .FloorDiv) (rI CDiv fun i j => .int (i / j)) := opI fun i j _ _ _ _ _ hc q => by
  have h1 : (0 : Int) < j := hc.1
  have h2 : j < 1073741824 := hc.2
  exact floordiv_int (by omega) (by rw [Int.fdiv_eq_ediv_of_nonneg i (by omega)]; exact q) (.inl (PyProof.noPylong_small (by omega)))
theorem op_mod : OpR X (binaryOp .Mod) (rI (fun _ j => 0 < j) fun i j => .int (i % j)) := opI fun i j _ _ _ _ _ hc q => by
  have h1 : (0 : Int) < j := hc
  exact mod_int' (by omega) (by rw [Int.fmod_eq_emod_of_nonneg i (by omega)]; exact q)
theorem op_pow : OpR X (binaryOp .Pow) (rI CPow fun i j => .int (i ^ j.toNat)) := opI fun _ _ _ _ _ _ _ hc q => pow_int_small hc.1 hc.2.1 hc.2.2 q
end
def scal : V → V → Bool
  | .non, .non => true | .non, .int _ => true | .int _, .non => true | .non, .bl _ => true | .bl _, .non => true | .non, .str _ => true | .str _, .non => true
  | .int _, .int _ => true | .bl _, .bl _ => true | .str _, .str _ => true | .byt _, .byt _ => true
  | .int _, .str _ => true | .str _, .int _ => true | .bl _, .str _ => true | .str _, .bl _ => true
  | _, _ => false
def rEq : R2 := fun x y H Q => scal x y = true ∧ Q (.bl (decide (x = y))) H
def rNe : R2 := fun x y H Q => scal x y = true ∧ Q (.bl (!decide (x = y))) H
theorem dec_int {i j : Int} : decide (V.int i = V.int j) = (i == j) := by
  rw [Bool.eq_iff_iff]
  simp
theorem dec_bl {i j : Bool} : decide (V.bl i = V.bl j) = (i == j) := by
  rw [Bool.eq_iff_iff]
  simp
theorem dec_str {i j : Str} : decide (V.str i = V.str j) = (i == j) := by
  rw [Bool.eq_iff_iff]
  simp
theorem dec_byt {i j : Array UInt8} : decide (V.byt i = V.byt j) = (i.toList == j.toList) := by
  rw [Bool.eq_iff_iff]
  cases i
  cases j
  simp
section
variable {X : Cx} {a b c : Expr} {ta tb tc : TE} {pos : Pos}
theorem fin_bl {pins : List (Addr × Obj)} {σ : St} {H : Hp} {s : Shared} {Q : VK} {k k' : Bool} (I : Inv X pins σ H s) (q : Q (.bl k) H) (e : k = k') : EP X pins σ Q (.bool k') s := by
  subst e
  exact ⟨.bl k, H, I, rfl, q⟩
theorem op_eq : OpR X (compareOp .Eq) rEq := by
  intro pins s σ H x y v u Q I rx ry h
  obtain ⟨hs, q⟩ := h
  cases x with
  | non =>
    cases rx
    cases y with
    | non => cases ry; exact PySem.EqNone.eq_none_none (fin_bl I q (by simp))
    | bl j => cases ry; exact PySem.EqNone.eq_none_bool (fin_bl I q (by simp))
    | int j => obtain ⟨t', rfl⟩ := ry; exact PySem.EqNone.eq_none_int (fin_bl I q (by simp))
    | str j => obtain ⟨t', rfl⟩ := ry; exact PySem.EqNone.eq_none_str (fin_bl I q (by simp))
    | _ => exact absurd (show false = true from hs) Bool.false_ne_true
  | bl i =>
    cases rx
    cases y with
    | non => cases ry; exact PySem.EqNone.eq_bool_none (fin_bl I q (by simp))
    | bl j => cases ry; exact eq_bool (fin_bl I q dec_bl)
    | str j => obtain ⟨t', rfl⟩ := ry; exact PySem.EqMixed.eq_bool_str (fin_bl I q (by simp))
    | _ => exact absurd (show false = true from hs) Bool.false_ne_true
  | int i =>
    obtain ⟨t, rfl⟩ := rx
    cases y with
    | non => cases ry; exact PySem.EqNone.eq_int_none (fin_bl I q (by simp))
    | int j => obtain ⟨t', rfl⟩ := ry; exact eq_int (fin_bl I q dec_int)
    | str j => obtain ⟨t', rfl⟩ := ry; exact PySem.EqMixed.eq_int_str (fin_bl I q (by simp))
    | _ => exact absurd (show false = true from hs) Bool.false_ne_true
  | str i =>
    obtain ⟨t, rfl⟩ := rx
    cases y with
    | non => cases ry; exact PySem.EqNone.eq_str_none (fin_bl I q (by simp))
    | bl j => cases ry; exact PySem.EqMixed.eq_str_bool (fin_bl I q (by simp))
    | int j => obtain ⟨t', rfl⟩ := ry; exact PySem.EqMixed.eq_str_int (fin_bl I q (by simp))
    | str j => obtain ⟨t', rfl⟩ := ry; exact eq_str (fin_bl I q dec_str)
    | _ => exact absurd (show false = true from hs) Bool.false_ne_true
  | byt i =>
    obtain ⟨t, rfl⟩ := rx
    cases y with
    | byt j => obtain ⟨t', rfl⟩ := ry; exact PySem.W.eq_bytes (fin_bl I q dec_byt)
    | _ => exact absurd (show false = true from hs) Bool.false_ne_true
  | _ => cases y <;> exact absurd (show false = true from hs) Bool.false_ne_true
theorem op_ne : OpR X (compareOp .NotEq) rNe := by
  intro pins s σ H x y v u Q I rx ry h
  obtain ⟨hs, q⟩ := h
  cases x with
  | non =>
    cases rx
    cases y with
    | non => cases ry; exact PySem.EqNone.ne_none_none (fin_bl I q (by simp))
    | bl j => cases ry; exact PySem.EqNone.ne_none_bool (fin_bl I q (by simp))
    | int j => obtain ⟨t', rfl⟩ := ry; exact PySem.EqNone.ne_none_int (fin_bl I q (by simp))
    | str j => obtain ⟨t', rfl⟩ := ry; exact PySem.EqNone.ne_none_str (fin_bl I q (by simp))
    | _ => exact absurd (show false = true from hs) Bool.false_ne_true
  | bl i =>
    cases rx
    cases y with
    | non => cases ry; exact PySem.EqNone.ne_bool_none (fin_bl I q (by simp))
    | bl j => cases ry; exact ne_bool (fin_bl I q (congrArg not dec_bl))
    | str j => obtain ⟨t', rfl⟩ := ry; exact PySem.EqMixed.ne_bool_str (fin_bl I q (by simp))
    | _ => exact absurd (show false = true from hs) Bool.false_ne_true
  | int i =>
    obtain ⟨t, rfl⟩ := rx
    cases y with
    | non => cases ry; exact PySem.EqNone.ne_int_none (fin_bl I q (by simp))
    | int j => obtain ⟨t', rfl⟩ := ry; exact ne_int (fin_bl I q (congrArg not dec_int))
    | str j => obtain ⟨t', rfl⟩ := ry; exact PySem.EqMixed.ne_int_str (fin_bl I q (by simp))
    | _ => exact absurd (show false = true from hs) Bool.false_ne_true
  | str i =>
    obtain ⟨t, rfl⟩ := rx
    cases y with
    | non => cases ry; exact PySem.EqNone.ne_str_none (fin_bl I q (by simp))
    | bl j => cases ry; exact PySem.EqMixed.ne_str_bool (fin_bl I q (by simp))
    | int j => obtain ⟨t', rfl⟩ := ry; exact PySem.EqMixed.ne_str_int (fin_bl I q (by simp))
    | str j => obtain ⟨t', rfl⟩ := ry; exact ne_str (fin_bl I q (congrArg not dec_str))
    | _ => exact absurd (show false = true from hs) Bool.false_ne_true
  | byt i =>
    obtain ⟨t, rfl⟩ := rx
    cases y with
    | byt j => obtain ⟨t', rfl⟩ := ry; exact PySem.W.ne_bytes (fin_bl I q (congrArg not dec_byt))
    | _ => exact absurd (show false = true from hs) Bool.false_ne_true
  | _ => cases y <;> exact absurd (show false = true from hs) Bool.false_ne_true
theorem op_lt : OpR X (compareOp .Lt) (rI0 fun i j => .bl (decide (i < j))) := opB0 fun _ _ _ _ _ _ _ q => lt_int q
theorem op_gt : OpR X (compareOp .Gt) (rI0 fun i j => .bl (decide (j < i))) := opB0 fun _ _ _ _ _ _ _ q => gt_int q
def isObj : HO → Bool
  | .lst _ => true
  | .ins _ _ _ => true
  | _ => false
theorem nomark (b : Expr) {op : CmpOp} (h : op ≠ .In := by decide) (h2 : op ≠ .NotIn := by decide) : behindInMarks op b = false := by
  have e1 : (op == CmpOp.In) = false := by cases op <;> first | rfl | exact absurd rfl h
  have e2 : (op == CmpOp.NotIn) = false := by cases op <;> first | rfl | exact absurd rfl h2
  cases b <;> simp [behindInMarks, e1, e2]
theorem pe_cmpR {op : CmpOp} {r : R2} (ho : OpR X (compareOp op) r) (ha : PE X a ta) (hb : PE X b tb) (hm : behindInMarks op b = false) : PE X (.Compare a [op] [b] pos) (tOp r ta tb) := by
  intro pins s σ H Q I h
  exact wpAny_Compare1 (binT ha hb I h fun v u s2 x y H2 I2 rx ry q => ho pins s2 σ H2 x y v u Q I2 rx ry q) hm
def tTest (t : TE) : TT := fun σ H Q => t σ H fun x H' => ∃ k, x = .bl k ∧ Q k H'
theorem pt_cmpR {op : CmpOp} {r : R2} (ho : OpR X (compareOp op) r) (ha : PE X a ta) (hb : PE X b tb) (hm : behindInMarks op b = false) : PT X (.Compare a [op] [b] pos) (tTest (tOp r ta tb)) := by
  intro pins s σ H Q I h
  refine wpAny_isTrue_Compare1 (thn (ha pins s σ H _ I h) fun v s1 ⟨x, H1, I1, r1, q1⟩ => thn (hb pins s1 σ H1 _ I1 q1) fun u s2 ⟨y, H2, I2, r2, q2⟩ =>
    thn (ho pins s2 σ H2 x y v u _ I2 r1 r2 q2) fun c s3 ⟨z, H3, I3, r3, k, e, q3⟩ => ?_) hm
  subst e
  cases r3
  exact wpAny_truthy_bool ⟨H3, I3, q3⟩
def tChain (r r' : R2) (ta tb tc : TE) : TE := fun σ H Q => ta σ H fun x H1 => tb σ H1 fun y H2 => r x y H2 fun z H3 => ∃ k, z = .bl k ∧
  (if k = true then tc σ H3 fun w' H4 => r' y w' H4 Q else Q (.bl false) H3)
def TruV (K : PySem.W.Frag) (x : V) (H : Hp) (k : Bool) : Prop :=
  match x with
  | .non => k = false
  | .bl b => k = b
  | .int i => k = (i != 0)
  | .str y => y.length ≤ sizeLine ∧ k = ((y.length : Int) != 0)
  | .byt y => y.size ≤ sizeLine ∧ k = ((y.size : Int) != 0)
  | .ref p => (∃ xs, SqL K H p xs ∧ k = !xs.isEmpty) ∨ (∃ xs, SqT K H p xs ∧ k = !xs.isEmpty) ∨ ∃ kvs, H p = some (.dK kvs) ∧ k = !kvs.isEmpty
  | _ => False
theorem isEmpty_kv {κ : Type} {kvs : List (κ × V)} {vs : List (κ × Value)} (r : KV kvs vs) : (!vs.isEmpty) = !kvs.isEmpty := by
  cases r <;> rfl
theorem isEmpty_of {xs : List V} {its : List Value} (r : Vals xs its) : (!its.toArray.isEmpty) = !xs.isEmpty := by
  cases r <;> simp
theorem line63 : (sizeLine : Nat) < 2 ^ 63 := by rw [sizeLine_eq]; decide
theorem tru_ok : TruR X (fun x H Q => ∃ k, TruV X.K x H k ∧ Q k H) := by
  intro pins s σ H x v Q I rx h
  obtain ⟨k, e, q⟩ := h
  have hl := line63
  have hs : sizeLine = 16777216 := sizeLine_eq
  cases x with
  | non =>
    cases rx
    have e' : k = false := e
    subst e'
    exact truthy_none ⟨H, I, q⟩
  | bl b =>
    cases rx
    have e' : k = b := e
    subst e'
    exact wpAny_truthy_bool ⟨H, I, q⟩
  | int i =>
    obtain ⟨t, rfl⟩ := rx
    have e' : k = (i != 0) := e
    subst e'
    exact PySem.P.truthy_int ⟨H, I, q⟩
  | str y =>
    obtain ⟨t, rfl⟩ := rx
    obtain ⟨hy, e'⟩ : y.length ≤ sizeLine ∧ k = ((y.length : Int) != 0) := e
    subst e'
    exact PySem.P.truthy_str (by omega) ⟨H, I.tok _, q⟩
  | byt y =>
    obtain ⟨t, rfl⟩ := rx
    obtain ⟨hy, e'⟩ : y.size ≤ sizeLine ∧ k = ((y.size : Int) != 0) := e
    subst e'
    exact PySem.W.truthy_bytes (by omega) ⟨H, I.tok _, q⟩
  | ref p =>
    cases rx
    have e' : (∃ xs, SqL X.K H p xs ∧ k = !xs.isEmpty) ∨ (∃ xs, SqT X.K H p xs ∧ k = !xs.isEmpty) ∨ ∃ kvs, H p = some (.dK kvs) ∧ k = !kvs.isEmpty := e
    rcases e' with ⟨xs, hx, e'⟩ | ⟨xs, hx, e'⟩ | ⟨kvs, hx, e'⟩
    · subst e'
      obtain ⟨its, r, pl, hz⟩ := I.list hx
      have hlen := r.length
      exact wpAny_truthy_list pl.isList (by simp only [List.size_toArray]; omega) ⟨H, I.tok _, by rw [isEmpty_of r]; exact q⟩
    · subst e'
      obtain ⟨its, r, pl, hz⟩ := I.tuple hx
      have hlen := r.length
      exact truthy_tuple pl (by simp only [List.size_toArray]; omega) ⟨H, I.tok _, by rw [isEmpty_of r]; exact q⟩
    · subst e'
      obtain ⟨hz, hS, vs, r, m⟩ : kvs.length ≤ sizeLine ∧ (p == sysModules) = false ∧ ∃ vs, KV kvs vs ∧ s.heap.DictOf (mixKind X.prog X.w) p vs := I.hok p _ hx
      have hlen : kvs.length = vs.length := Paired.length r
      exact wpAny_truthy_dict hS m (by omega) ⟨H, I.tok _, by rw [isEmpty_kv r]; exact q⟩
  | _ => exact (show False from e).elim
theorem pt_truth (ha : PE X a ta) (he : ∀ whole, isTrue a X.env whole = (do let v ← whole; standAt a.pos; holding [v] (truthy v))) :
    PT X a (fun σ H Q => ta σ H fun x H' => ∃ k, TruV X.K x H' k ∧ Q k H') := by
  intro pins s σ H Q I h
  exact isTrue_plain (thn (ha pins s σ H _ I h) fun v s1 ⟨x, H1, I1, r1, q1⟩ => tru_ok pins s1 σ H1 x v Q I1 r1 q1) (he _)
def PlainIxT (b : Expr) : Prop := ∀ o i, subscripted b false o i = operate [o, i] (getItem o i)
theorem vals1 {x : V} {us : List Value} (r : Vals [x] us) : ∃ u, us = [u] ∧ RelV x u := by
  cases r with
  | cons r1 r2 => cases r2; exact ⟨_, rfl, r1⟩
theorem vals2 {x y : V} {us : List Value} (r : Vals [x, y] us) : ∃ u w', us = [u, w'] ∧ RelV x u ∧ RelV y w' := by
  cases r with
  | cons r1 r2 =>
    cases r2 with
    | cons r3 r4 => cases r4; exact ⟨_, _, rfl, r1, r3⟩
def LenV (K : PySem.W.Frag) (x : V) (H : Hp) (n : Nat) : Prop :=
  match x with
  | .str y => y.length ≤ sizeLine ∧ n = y.length
  | .byt y => y.size ≤ sizeLine ∧ n = y.size
  | .ref p => (∃ xs, SqL K H p xs ∧ n = xs.length) ∨ ∃ xs, SqT K H p xs ∧ n = xs.length
  | _ => False
end
end L2
namespace L2
open PySem PySem.Spec PyProof.Rows
structure ObjM (h : Heap) (x dx C : Addr) (mA : Str → Option Value) : Prop where
  obj : h.get? x = some (PySem.W.instObj C dx)
  ns : h.Ns1 dx mA
  ne : dx ≠ x
theorem lookIn_ns {h : Heap} {dx : Addr} {mA : Str → Option Value} (n : h.Ns1 dx mA) : ∃ od, h.get? dx = some od ∧ ∀ name, PySem.W.lookIn name od = some (mA name) := by
  obtain ⟨o, es, ep, ho, hd, hk, _, hm⟩ := n
  refine ⟨o, ho, fun name => ?_⟩
  have e := hm name
  unfold nsFind findBy at e
  rw [← Array.find?_toList] at e
  unfold PySem.W.lookIn
  rw [hd]
  dsimp only
  split
  · rename_i y q
    rw [q] at e
    exact congrArg some e
  · rename_i q
    rw [q] at e
    have a : es.toList.any (·.refKey) = false := by
      rw [List.any_eq_false]
      intro y hy
      obtain ⟨z, t, hkey⟩ := hk y (Array.mem_toList_iff.mp hy)
      simp [DictEntry.refKey, hkey]
    have a' : ¬ es.toList.any (·.refKey) = true := by rw [a]; exact Bool.false_ne_true
    rw [if_neg a']
    exact congrArg some e
theorem ObjM.look {h : Heap} {x dx C : Addr} {mA : Str → Option Value} (I : ObjM h x dx C mA) : ∃ od, PySem.W.InstAt h x (PySem.W.instObj C dx) C (some od) ∧ ∀ name, PySem.W.lookIn name od = some (mA name) :=
  let ⟨od, ho, hl⟩ := lookIn_ns I.ns
  ⟨od, ⟨I.obj, rfl, rfl, ho⟩, hl⟩
section
variable {prog : Program} {w : World} {A : Around} {E : Value → Shared → Prop} {s : Shared} {K : PySem.W.Frag} {x dx C f : Addr} {mA : Str → Option Value} {name : Str} {v : Value}
end
def putF (f : Str) (v : V) : List (Str × V) → List (Str × V)
  | [] => [(f, v)]
  | (g, x) :: r => if g = f then (g, v) :: r else (g, x) :: putF f v r
theorem RelO.some_of {v : V} {o : Option Value} (r : RelO (some v) o) : ∃ u, o = some u ∧ RelV v u := by
  cases o with
  | none => exact (show False from r).elim
  | some u => exact ⟨u, rfl, r⟩
section
variable {P : Program} {w : World} {H H' : Hp} {h h' : Heap} {a C dx : Addr} {fs fs' : List (Str × V)}
theorem ins_get (hok : HOk P w H h) (e : H a = some (.ins C dx fs)) : ∃ mA, ObjM h a dx C mA ∧ (∀ f, RelO (fs.lookup f) (mA f)) ∧ PySem.Within mA (fs.map (·.1)) ∧ fs.length ≤ 1000 ∧ H dx = some (.own a) := by
  obtain ⟨d, z, ne, ob, mA, n, r, q⟩ := (show ObjOk P w H h a (.ins C dx fs) from hok a _ e)
  exact ⟨mA, ⟨ob, n, ne⟩, r, q, z, d⟩
end
structure Cls (K : PySem.W.Frag) (C : Addr) : Prop where
  pg : PySem.W.plainGet K C Str.empty = true
  hd : PySem.W.hasDictIn K C = true
  po : PySem.W.plainOver K C = true
  sa : PySem.W.findIn K (.ref C) "__setattr__" = some (some (.builtin "object.__setattr__"))
theorem Cls.get {K : PySem.W.Frag} {C : Addr} (c : Cls K C) (f : Str) : PySem.W.plainGet K C f = true := c.pg
def NoAttr (K : PySem.W.Frag) (C : Addr) (f : Str) : Prop := PySem.W.findIn K (.ref C) f = some none
structure Con (K : PySem.W.Frag) (C : Addr) (f : Str) (v : V) (u : Value) : Prop where
  at_ : PySem.W.findIn K (.ref C) f = some (some u)
  rel : RelV v u
  get : PySem.W.specialIn K u "__get__" = some none
  cp : PySem.W.copiedNames.contains f = false
structure Meth (K : PySem.W.Frag) (C : Addr) (m : Str) (f : Addr) : Prop where
  at_ : PySem.W.findIn K (.ref C) m = some (some (.ref f))
  fn : PySem.W.isFn K (.ref f) = true
  kp : PySem.W.keepIn K (.ref f) = true
section
variable {X : Cx} {pins : List (Addr × Obj)} {σ : St} {H : Hp} {s : Shared} {a C dx : Addr} {fs : List (Str × V)} {f : Str} {v : V} {A : Around} {E : Value → Shared → Prop}
end
def tFld (K : PySem.W.Frag) (ta : TE) (f : Str) : TE := fun σ H Q => ta σ H fun x H1 => ∃ a C dx fs v, x = .ref a ∧ H1 a = some (.ins C dx fs) ∧ Cls K C ∧ NoAttr K C f ∧ fs.lookup f = some v ∧ Q v H1
def tCon (K : PySem.W.Frag) (ta : TE) (f : Str) : TE := fun σ H Q => ta σ H fun x H1 => ∃ a C dx fs v u, x = .ref a ∧ H1 a = some (.ins C dx fs) ∧ Cls K C ∧ Con K C f v u ∧ fs.lookup f = none ∧ Q v H1
def sFld (K : PySem.W.Frag) (ta tv : TE) (f : Str) : TS := fun D σ H => tv σ H fun y H1 => ta σ H1 fun x H2 => ∃ a C dx fs, x = .ref a ∧ H2 a = some (.ins C dx fs) ∧ Cls K C ∧ NoAttr K C f ∧ fs.length < 1000 ∧
  D.nx σ (upd H2 a (.ins C dx (putF f y fs)))
def InOp (X : Cx) (op : Operator) (rd : V → V → Hp → VK → Prop) : Prop :=
  ∀ (pins : List (Addr × Obj)) (s : Shared) (σ : St) (H : Hp) (x y : V) (u v : Value) (Q : VK), Inv X pins σ H s → RelV x u → RelV y v → rd x y H Q → wpAny (model X.prog X.w) X.A (inplaceOp op u v) (EP X pins σ Q) X.xe s
def sFldAug (K : PySem.W.Frag) (ta tv : TE) (rd : V → V → Hp → VK → Prop) (f : Str) : TS := fun D σ H => ta σ H fun x H1 => ∃ a C dx fs v, x = .ref a ∧ H1 a = some (.ins C dx fs) ∧ Cls K C ∧ NoAttr K C f ∧ fs.lookup f = some v ∧
  tv σ H1 fun y H2 => rd v y H2 fun z H3 => ∃ dx' fs', H3 a = some (.ins C dx' fs') ∧ fs'.length < 1000 ∧ D.nx σ (upd H3 a (.ins C dx' (putF f z fs')))
section
variable {X : Cx} {o e value : Expr} {f : Str} {pos pos' tpos : Pos} {ta tv : TE}
def rAdd : V → V → Hp → VK → Prop := fun x y H Q => ∃ i j, x = .int i ∧ y = .int j ∧ Q (.int (i + j)) H
def rSub : V → V → Hp → VK → Prop := fun x y H Q => ∃ i j, x = .int i ∧ y = .int j ∧ Q (.int (i - j)) H
end
section
variable {X : Cx} {pins : List (Addr × Obj)} {σ : St} {H : Hp} {s : Shared} {A : Around} {E : Value → Shared → Prop} {Q : Value → Shared → Prop} {c : Value} {b : Bool}
inductive TyOf (K : PySem.W.Frag) (H : Hp) : V → Value → Prop where
  | non : TyOf K H .non (.type "NoneType")
  | bl (x : Bool) : TyOf K H (.bl x) (.type "bool")
  | int (i : Int) : TyOf K H (.int i) (.type "int")
  | str (x : Str) : TyOf K H (.str x) (.type "str")
  | flt (x : UInt64) : TyOf K H (.flt x) (.type "float")
  | lst {a : Addr} {xs : List V} (e : H a = some (.lst xs)) : TyOf K H (.ref a) (.type "list")
  | frz {a : Addr} {o : Obj} {xs : List V} (e : H a = some (.frz o (.lst xs))) : TyOf K H (.ref a) (.type "list")
  | tup {a : Addr} {xs : List V} (e : H a = some (.tup xs)) : TyOf K H (.ref a) (.type "tuple")
  | dK {a : Addr} {kvs : List (Key × V)} (e : H a = some (.dK kvs)) : TyOf K H (.ref a) (.type "dict")
  | dT {a : Addr} {kvs : List (List Key × V)} (e : H a = some (.dT kvs)) : TyOf K H (.ref a) (.type "dict")
  | ins {a C dx : Addr} {fs : List (Str × V)} (e : H a = some (.ins C dx fs)) (cl : Cls K C) (ha : PySem.W.findIn K (.ref C) "__class__" = some (some (.builtin "object.__class__")))
      (hn : PySem.W.specialIn K (.builtin "object.__class__") "__get__" = some (some (.builtin "getset_descriptor.__get__"))) (htk : PySem.W.takesIn K (.builtin "object.__class__") = some true)
      (hm : PySem.W.mroIn K C (.type "object") = some true) : TyOf K H (.ref a) (.ref C)
theorem isinst_ok {x : V} {u t : Value} (I : Inv X pins σ H s) (rx : RelV x u) (ty : TyOf X.K H x t) (e : PySem.W.kitOne X.K t c = some b) (h : ∀ tk, Q (.bool b) { s with toks := tk }) :
    wpAny (model X.prog X.w) A (call (.builtin "isinstance") [u, c]) Q E s := by
  cases ty with
  | non => cases (show u = Value.none from rx); exact PySem.W.kia_one PySem.W.kitx_none I.kIn True.intro e (fun z => nomatch z) h
  | bl y => cases (show u = Value.bool y from rx); exact PySem.W.kia_one PySem.W.kitx_bool I.kIn True.intro e (fun z => nomatch z) h
  | int i => obtain ⟨t, q⟩ := (show ∃ t, u = Value.int i t from rx); cases q; exact PySem.W.kia_one PySem.W.kitx_int I.kIn True.intro e (fun z => nomatch z) h
  | str y => obtain ⟨t, q⟩ := (show ∃ t, u = Value.str y t from rx); cases q; exact PySem.W.kia_one PySem.W.kitx_str I.kIn True.intro e (fun z => nomatch z) h
  | flt y => obtain ⟨t, q⟩ := (show ∃ t, u = Value.float y t from rx); cases q; exact PySem.W.kia_one PySem.W.kitx_float I.kIn True.intro e (fun z => nomatch z) h
  | @lst a xs ea =>
    cases (show u = Value.ref a from rx)
    obtain ⟨_, _, n, _, h1⟩ := (show ObjOk X.prog X.w H s.heap a (.lst xs) from I.hok a _ ea)
    exact PySem.W.kia_one PySem.W.kitx_list I.kIn ⟨_, h1, rfl⟩ e (fun z => nomatch z) h
  | @frz a ob xs ea =>
    cases (show u = Value.ref a from rx)
    obtain ⟨_, _, _, n, _, h1⟩ := (show ObjOk X.prog X.w H s.heap a (.frz ob (.lst xs)) from I.hok a _ ea)
    exact PySem.W.kia_one PySem.W.kitx_list I.kIn ⟨_, h1, rfl⟩ e (fun z => nomatch z) h
  | @tup a xs ea =>
    cases (show u = Value.ref a from rx)
    obtain ⟨_, _, _, p⟩ := (show ObjOk X.prog X.w H s.heap a (.tup xs) from I.hok a _ ea)
    obtain ⟨o, h1, h2, _⟩ := p
    exact PySem.W.kia_one PySem.W.kitx_tuple I.kIn ⟨o, h1, h2⟩ e (fun z => nomatch z) h
  | @dK a kvs ea =>
    cases (show u = Value.ref a from rx)
    obtain ⟨_, _, vs, _, p⟩ := (show ObjOk X.prog X.w H s.heap a (.dK kvs) from I.hok a _ ea)
    obtain ⟨o, es, ep, h1, h2, _⟩ := p
    exact PySem.W.kia_one PySem.W.kitx_dict I.kIn ⟨o, h1, h2.1⟩ e (fun z => nomatch z) h
  | @dT a kvs ea =>
    cases (show u = Value.ref a from rx)
    obtain ⟨_, _, xs, _, o, es, ep, h1, h2, _⟩ := (show ObjOk X.prog X.w H s.heap a (.dT kvs) from I.hok a _ ea)
    exact PySem.W.kia_one PySem.W.kitx_dict I.kIn ⟨o, h1, h2.1⟩ e (fun z => nomatch z) h
  | @ins a C dx fs ea cl ha hn htk hm =>
    cases (show u = Value.ref a from rx)
    obtain ⟨mA, O, _⟩ := ins_get I.hok ea
    obtain ⟨od, J, _⟩ := O.look
    exact PySem.W.kia_one (PySem.W.kitx_own (cl.get _) cl.hd ha hn htk hm) I.kIn J e (fun z => nomatch z) h
end
end L2
namespace L2
open PySem PySem.Spec PyProof.Rows
structure Room (k : Nat) (A : Around) : Prop where
  hd : A.handled = none
  dp : A.depth + 3 * k + 5 < recursionLimit
  un : A.units + 16 * k + 200 < cLine
theorem Room.mono {j k : Nat} {A : Around} (r : Room k A) (h : j ≤ k) : Room j A := ⟨r.hd, by have := r.dp; omega, by have := r.un; omega⟩
theorem Room.deeper {k : Nat} {A : Around} (r : Room (k + 1) A) (env : Env) : Room k (A.deeper env) :=
  ⟨r.hd, by have := r.dp; show A.depth + 1 + 3 * k + 5 < _; omega, by have := r.un; show A.units + 3 + 16 * k + 200 < _; omega⟩
theorem Room.depth {k : Nat} {A : Around} (r : Room k A) : A.depth < recursionLimit := by have := r.dp; omega
theorem Room.units {k : Nat} {A : Around} (r : Room k A) : A.units + 64 < cLine := by have := r.un; omega
def tNil : TA := fun _ H Q => Q [] H
def tCons (ta : TE) (tr : TA) : TA := fun σ H Q => ta σ H fun x H1 => tr σ H1 fun xs H2 => Q (x :: xs) H2
section
variable {X : Cx} {e : Expr} {es : List Expr} {te : TE} {t : TA} {pos : Pos}
theorem pa_nil : PA X [] tNil := fun _ _ _ _ H Q I h => Calls.spliced_nil ⟨[], H, I, .nil, h⟩
theorem pa_cons (ha : PE X e te) (hr : PA X es t) (hs : starEach (e :: es) X.env = (false, eval e X.env) :: starEach es X.env := by rfl) : PA X (e :: es) (tCons te t) := by
  intro pos pins s σ H Q I h
  rw [hs]
  show wpAny _ _ (spliced ((false, eval e X.env) :: backTo pos (starEach es X.env))) _ _ s
  refine Calls.spliced_cons (thn (ha pins s σ H _ I h) fun u s1 ⟨x, H1, I1, r1, q1⟩ => ?_)
  exact thn (hr pos pins s1 σ H1 _ I1 q1) fun us s2 ⟨xs, H2, I2, r2, q2⟩ => ⟨x :: xs, H2, I2, .cons r1 r2, q2⟩
def tTup (t : TA) : TE := fun σ H Q => t σ H fun xs H1 => xs.length ≤ sizeLine ∧ ∀ p, H1 p = none → Q (.ref p) (upd H1 p (.tup xs))
def tLst (t : TA) : TE := fun σ H Q => t σ H fun xs H1 => xs.length ≤ sizeLine ∧ ∀ p, H1 p = none → Q (.ref p) (upd H1 p (.lst xs))
theorem pe_tup {x1} (h : PA X es t) : PE X (.Tuple es x1 pos) (tTup t) := by
  intro pins s σ H Q I hq
  refine wpAny_Tuple_spliced (thn (h pos pins s σ H _ I hq) fun us s1 ⟨xs, H1, I1, r, z, q⟩ => ⟨by rw [← r.length]; exact z, ?_⟩)
  have hf : H1 s1.heap.objs.size = none := I1.hok.fresh (Nat.le_refl _)
  refine ⟨.ref s1.heap.objs.size, upd H1 s1.heap.objs.size (.tup xs), I1.laid (t' := s1.toks) (fun b u e => Heap.get?_push_of_some _ e) (Nat.le_refl _) ?_, rfl, q _ hf⟩
  exact ⟨z, us, r, ⟨_, Heap.get?_push_size _ rfl, rfl, _, rfl⟩⟩
theorem pe_lst (h : PA X es t) : PE X (.List es pos) (tLst t) := by
  intro pins s σ H Q I hq
  refine wpAny_List_spliced (thn (h pos pins s σ H _ I hq) fun us s1 ⟨xs, H1, I1, r, z, q⟩ => ⟨by rw [← r.length]; exact z, ?_⟩)
  have hf : H1 s1.heap.objs.size = none := I1.hok.fresh (Nat.le_refl _)
  refine ⟨.ref s1.heap.objs.size, upd H1 s1.heap.objs.size (.lst xs), I1.laid (t' := s1.toks) (fun b u e => Heap.get?_push_of_some _ e) (Nat.le_refl _) ?_, rfl, q _ hf⟩
  exact ⟨z, us, 0, r, Heap.get?_push_size _ rfl⟩
end
abbrev Sp := List V → Hp → VK → XK → Prop
abbrev CXT := List Env → Hp → Shared → XK → Value → Shared → Prop
structure Env0 (P : Program) (w : World) (K : PySem.W.Frag) (mg : Str → Option Value) (base : Heap) (A : Around) (outer : List Env) (s : Shared) (H : Hp) : Prop where
  frames : A.frames = some outer
  mod : Mod K mg base
  bs : ∀ b o, base.get? b = some o → s.heap.get? b = some o ∧ H b = none
  bsz : base.objs.size ≤ s.heap.objs.size
  funs : s.heap.FunFrames base outer
  frf : ∀ b ∈ frs outer, H b = none
  hok : HOk P w H s.heap
  bare : AllBare s.gens
def CE (outer : List Env) (P : Program) (w : World) (H : Hp) (s : Shared) (Q : VK) (u : Value) (s' : Shared) : Prop :=
  ∃ v H', s'.os = s.os ∧ AllBare s'.gens ∧ Un (frs outer) [] H H' s.heap s'.heap ∧ HOk P w H' s'.heap ∧ RelV v u ∧ Q v H'
def CR (CX : CXT) (outer : List Env) (P : Program) (w : World) (H : Hp) (s : Shared) (Q : VK) (E : XK) (r : Result) (s' : Shared) : Prop :=
  match r with
  | .ok (.ret u) => CE outer P w H s Q u s'
  | .ok _ => False
  | .error e => CX outer H s E e s'
structure FnOk (P : Program) (w : World) (K : PySem.W.Frag) (mg : Str → Option Value) (base : Heap) (CX : CXT) (k : Nat) (f : Addr) (fd : FuncData) (ps : List Str) (sp : Sp) : Prop where
  len : ∀ vs H Q E, sp vs H Q E → vs.length = ps.length
  run : ∀ (A : Around) (outer : List Env) (s : Shared) (H : Hp) (args : Args) (us : List Value) (vs : List V) (Q : VK) (E : XK), Room k A → Env0 P w K mg base A outer s H → BindsTo s fd args (ps.zip us) → Vals vs us → sp vs H Q E →
    codeAny (model P w) A (.call (.ref f) args) (CR CX outer P w H s Q E) s
theorem FnOk.mono {P : Program} {w : World} {K : PySem.W.Frag} {mg : Str → Option Value} {base : Heap} {CX : CXT} {j k : Nat} {f : Addr} {fd : FuncData} {ps : List Str} {sp : Sp} (F : FnOk P w K mg base CX j f fd ps sp) (h : j ≤ k) :
    FnOk P w K mg base CX k f fd ps sp := ⟨F.len, fun A outer s H args us vs Q E hr => F.run A outer s H args us vs Q E (hr.mono h)⟩
section
variable {X : Cx} {pins : List (Addr × Obj)} {σ : St} {H : Hp} {s s' : Shared}
theorem Inv.env0 (I : Inv X pins σ H s) : Env0 X.prog X.w X.K X.mg X.base X.A X.stack s H :=
  ⟨I.ok.frames, I.ok.mod, I.bs, Nat.le_trans I.ok.bsz I.sz, I.stack, I.stkFree, I.hok, I.bare⟩
theorem Inv.after {Q : VK} {u : Value} (I : Inv X pins σ H s) (h : CE X.stack X.prog X.w H s Q u s') : EP X pins σ Q u s' := by
  obtain ⟨v, H', os, bare, un, hok, r, q⟩ := h
  obtain ⟨hh, g, d, t, os'⟩ := s'
  obtain rfl : os' = s.os := os
  exact ⟨v, H', I.call (h' := hh) (g' := g) (d' := d) (t' := t) (ch := []) un hok bare (fun b z => absurd z (by simp)), r, q⟩
end
def tCall (sp : Sp) (dvs : List V) (E : XK) (t : TA) : TE := fun σ H Q => t σ H fun vs H1 => sp (vs ++ dvs) H1 Q E
def tMeth (C : Addr) (m : Str) (sp : Sp) (dvs : List V) (E : XK) (ta : TE) (t : TA) : TE := fun σ H Q => ta σ H fun x H1 => ∃ a dx fs, x = .ref a ∧ H1 a = some (.ins C dx fs) ∧ fs.lookup m = none ∧
  t σ H1 fun vs H2 => sp (x :: (vs ++ dvs)) H2 Q E
def tMake (C : Addr) (sp : Sp) (dvs : List V) (E : XK) (t : TA) : TE := fun σ H Q => t σ H fun vs H1 => ∀ x dx, H1 x = none → H1 dx = none → dx ≠ x →
  sp (.ref x :: (vs ++ dvs)) (upd (upd H1 dx (.own x)) x (.ins C dx [])) (fun v H2 => v = .non ∧ Q (.ref x) H2) E
def Binds (K : PySem.W.Frag) (fd : FuncData) (ps : List Str) (ds : List Value) : Prop :=
  ∀ (s : Shared) (us : List Value), K.In s.heap → (us ++ ds).length = ps.length → BindsTo s fd ⟨us, []⟩ (ps.zip (us ++ ds))
theorem Binds.all {K : PySem.W.Frag} {fd : FuncData} {ps : List Str} (h : ∀ us : List Value, us.length = ps.length → bindArgs fd ⟨us, []⟩ = pure (ps.zip us)) : Binds K fd ps [] := fun s us _ hl => by
  rw [List.append_nil] at hl ⊢
  exact .of_eq (h us hl)
def Passes (CX : CXT) (X : Cx) (E : XK) : Prop := ∀ (pins : List (Addr × Obj)) (σ : St) (H : Hp) (s : Shared) (e : Value) (s' : Shared), Inv X pins σ H s → CX X.stack H s E e s' → X.xe e s'
section
variable {X : Cx} {CX : CXT} {k : Nat} {f C : Addr} {fd : FuncData} {ps : List Str} {sp : Sp} {dvs : List V} {ds : List Value} {E : XK} {x m : Str} {p pos apos : Pos} {e o : Expr} {es : List Expr} {ta : TE} {t : TA}
theorem run_fn {pins : List (Addr × Obj)} {σ : St} {H : Hp} {s : Shared} {Q : VK} {us : List Value} {vs : List V} (F : FnOk X.prog X.w X.K X.mg X.base CX k f fd ps sp) (hr : Room k X.A) (hb : Binds X.K fd ps ds) (hd : Vals dvs ds) (hx : Passes CX X E)
    (I : Inv X pins σ H s) (r : Vals vs us) (h : sp (vs ++ dvs) H Q E) : wpAny (model X.prog X.w) X.A (call (.ref f) us) (EP X pins σ Q) X.xe s := by
  have r2 : Vals (vs ++ dvs) (us ++ ds) := r.append hd
  have hl : (us ++ ds).length = ps.length := by rw [← r2.length]; exact F.len _ _ _ _ h
  refine wpAny_call (codeAny_mono (F.run X.A X.stack s H ⟨us, []⟩ (us ++ ds) (vs ++ dvs) Q E hr I.env0 (hb s us I.kIn hl) r2 h) fun r s' hq => ?_)
  cases r with
  | error e => exact hx pins σ H s e s' I hq
  | ok fl =>
    cases fl with
    | ret u => exact I.after hq
    | next => exact False.elim hq
    | brk => exact False.elim hq
    | cont => exact False.elim hq
theorem pe_call (F : FnOk X.prog X.w X.K X.mg X.base CX k f fd ps sp) (hr : Room k X.A) (hg : Gl X x) (hm : X.mg x = some (.ref f)) (hk : PySem.W.keepIn X.K (.ref f) = true) (hb : Binds X.K fd ps ds) (hd : Vals dvs ds) (hx : Passes CX X E)
    (ha : PA X (e :: es) t) (hdb : (x == ("__debug__" : Str)) = false := by decide) (he : starEach (e :: es) X.env = (false, eval e X.env) :: starEach es X.env := by rfl) (hpl : (backTo pos (starEach es X.env)).any (·.1) = false := by rfl) :
    PE X (.Call (.Name x p) (e :: es) [] pos) (tCall sp dvs E t) := by
  intro pins s σ H Q I h
  refine wpAny_Call_Name_kw (ld_glob I hg hm ?_ hdb)
  refine PySem.W.callWith_K (h₀ := X.base) I.ok.mod.kin hk (thn (ha pos pins s σ H _ I h) fun us s1 ⟨vs, H1, I1, r, q⟩ => ⟨I1.kIn, ?_⟩) he hpl
  exact run_fn F hr hb hd hx I1 r q
structure Mk (K : PySem.W.Frag) (C f : Addr) : Prop where
  makes : PySem.W.makesIn K C = true
  init : PySem.W.findIn K (.ref C) "__init__" = some (some (.ref f))
  fn : PySem.W.isFn K (.ref f) = true
  kp : PySem.W.keepIn K (.ref C) = true
end
def PK (X : Cx) (kws : List Keyword) (t : TA) : Prop :=
  ∀ (pos : Pos) (pins : List (Addr × Obj)) (s : Shared) (σ : St) (H : Hp) (Q : List V → Hp → Prop), Inv X pins σ H s → t σ H Q → wpAny (model X.prog X.w) X.A (evalAll ((backToKw pos (keywordEach kws X.env)).map (·.2))) (AP X pins σ Q) X.xe s
section
variable {X : Cx} {CX : CXT} {k : Nat} {f C : Addr} {fd : FuncData} {ps ks : List Str} {sp : Sp} {E : XK} {x m : Str} {p pos apos kpos : Pos} {e o : Expr} {es : List Expr} {kws : List Keyword} {te ta : TE} {t tk : TA} {nm : Option Str}
structure KBinds (K : PySem.W.Frag) (fd : FuncData) (ps ks : List Str) (g : List Value → List Value → List Value) (gV : List V → List V → List V) : Prop where
  to : ∀ (s : Shared) (us ws : List Value), K.In s.heap → (g us ws).length = ps.length → BindsTo s fd ⟨us, ks.zip ws⟩ (ps.zip (g us ws))
  rel : ∀ {vs : List V} {us : List Value} {zs : List V} {ws : List Value}, Vals vs us → Vals zs ws → Vals (gV vs zs) (g us ws)
def tCallK (sp : Sp) (gV : List V → List V → List V) (E : XK) (t tk : TA) : TE := fun σ H Q => t σ H fun vs H1 => tk σ H1 fun zs H2 => sp (gV vs zs) H2 Q E
variable {g : List Value → List Value → List Value} {gV : List V → List V → List V}
end
structure FnScope (N P : List Str) (sc : Scope) : Prop where
  kind : sc.kind = .function
  co : sc.isCoroutine = false
  gen : sc.isGenerator = false
  nd : N.Nodup
  pre : N.take P.length = P
  par : ∀ x ∈ P, sc.names.lookup x = some .local ∨ sc.names.lookup x = some .cell
  nofree : ∀ y ∈ sc.names, y.2 ≠ .free
theorem bindL_out {kindOf : Str → Option NameKind} {x : Str} : ∀ {binds : List (Str × Value)} {m : Str → Option Value}, (∀ v, (x, v) ∉ binds) → bindL kindOf binds m x = m x
  | [], _, _ => rfl
  | (n, v) :: r, m, h => by
    unfold bindL
    rw [bindL_out fun w hw => h w (List.mem_cons_of_mem _ hw)]
    split
    · have : x ≠ n := by rintro rfl; exact h v List.mem_cons_self
      simp [this]
    · rfl
theorem bindC_out {kindOf : Str → Option NameKind} {x : Str} : ∀ {binds : List (Str × Value)} {m : Str → Option Value}, (∀ v, (x, v) ∉ binds) → bindC kindOf binds m x = m x
  | [], _, _ => rfl
  | (n, v) :: r, m, h => by
    unfold bindC
    rw [bindC_out fun w hw => h w (List.mem_cons_of_mem _ hw)]
    split
    · rfl
    · have : x ≠ n := by rintro rfl; exact h v List.mem_cons_self
      simp [this]
theorem bindL_get {kindOf : Str → Option NameKind} {x : Str} {v : Value} : ∀ {P : List Str} {vs : List Value} {i : Nat} {m : Str → Option Value}, P.Nodup → P[i]? = some x → vs[i]? = some v → kindOf x = some .local →
    bindL kindOf (P.zip vs) m x = some v
  | [], _, _, _, _, h, _, _ => by simp at h
  | _ :: _, [], _, _, _, _, h, _ => by simp at h
  | p :: P, w :: vs, 0, m, nd, h1, h2, hk => by
    simp at h1 h2; subst h1; subst h2
    show bindL kindOf ((p, w) :: P.zip vs) m p = _
    unfold bindL
    rw [bindL_out fun v hv => (List.nodup_cons.mp nd).1 (List.of_mem_zip hv).1, if_pos hk]
    simp
  | p :: P, w :: vs, i + 1, m, nd, h1, h2, hk => by
    show bindL kindOf ((p, w) :: P.zip vs) m x = _
    unfold bindL
    exact bindL_get (i := i) (List.nodup_cons.mp nd).2 (by simpa using h1) (by simpa using h2) hk
theorem bindC_get {kindOf : Str → Option NameKind} {x : Str} {v : Value} : ∀ {P : List Str} {vs : List Value} {i : Nat} {m : Str → Option Value}, P.Nodup → P[i]? = some x → vs[i]? = some v → kindOf x ≠ some .local →
    bindC kindOf (P.zip vs) m x = some v
  | [], _, _, _, _, h, _, _ => by simp at h
  | _ :: _, [], _, _, _, _, h, _ => by simp at h
  | p :: P, w :: vs, 0, m, nd, h1, h2, hk => by
    simp at h1 h2; subst h1; subst h2
    show bindC kindOf ((p, w) :: P.zip vs) m p = _
    unfold bindC
    rw [bindC_out fun v hv => (List.nodup_cons.mp nd).1 (List.of_mem_zip hv).1, if_neg hk]
    simp
  | p :: P, w :: vs, i + 1, m, nd, h1, h2, hk => by
    show bindC kindOf ((p, w) :: P.zip vs) m x = _
    unfold bindC
    exact bindC_get (i := i) (List.nodup_cons.mp nd).2 (by simpa using h1) (by simpa using h2) hk
def start (N : List Str) (vs : List V) : St := vs.map some ++ List.replicate (N.length - vs.length) none
def cxOf (CX : CXT) (P : Program) (w : World) (K : PySem.W.Frag) (mg : Str → Option Value) (base : Heap) (N : List Str) (qual : Str) (scope : Scope) (f : Addr) (cd : Value) (A : Around) (outer : List Env) (s : Shared) (H : Hp) (E : XK) : Cx where
  prog := P
  w := w
  K := K
  mg := mg
  base := base
  A := A.deeper (envOfC qual scope s.heap.objs.size f cd)
  N := N
  s₀ := s
  H₀ := H
  env := envOfC qual scope s.heap.objs.size f cd
  outer := outer
  stack := envOfC qual scope s.heap.objs.size f cd :: outer
  ex := []
  calm := true
  fn := fun _ => true
  pn := []
  xe := fun e s' => wpAny (model P w) (A.deeper (envOfC qual scope s.heap.objs.size f cd)) (leaving (envOfC qual scope s.heap.objs.size f cd) e) (fun _ s'' => CX outer H s E e s'') (fun e' s'' => CX outer H s E e' s'') s'
theorem cell_has {sc : Scope} {n : Nat} {x : Str} (h : sc.names.lookup x = some .cell) : ∃ c, (cellsFrom n sc.names []).lookup x = some c := by
  have q := PySem.W.cellsFrom_some sc.names n [] (.inl h)
  exact Option.isSome_iff_exists.mp q
theorem inv_start {CX : CXT} {P : Program} {w : World} {K : PySem.W.Frag} {mg : Str → Option Value} {base : Heap} {N ps : List Str} {qual : Str} {scope : Scope} {f : Addr} {cd : Value} {A : Around} {outer : List Env} {s s1 : Shared} {H : Hp} {E : XK} {us : List Value} {vs : List V}
    (S : FnScope N ps scope) (hd : A.handled = none) (e0 : Env0 P w K mg base A outer s H) (hl : vs.length = ps.length) (r : Vals vs us)
    (x : InCallC s s.heap.objs.size (bindL (envOfC qual scope s.heap.objs.size f cd).kindOf (ps.zip us) fun _ => none) (cellsFrom (s.heap.objs.size + 1) scope.names []) (bindC (envOfC qual scope s.heap.objs.size f cd).kindOf (ps.zip us) fun _ => none) s1) :
    Inv (cxOf CX P w K mg base N qual scope f cd A outer s H E) [] (start N vs) H s1 := by
  have hpl : ps.length ≤ N.length := by have := congrArg List.length S.pre; rw [List.length_take] at this; omega
  obtain ⟨h1, tk, rfl, hk⟩ := x.done
  have noA : ∀ b : Addr, b ∉ (cxOf CX P w K mg base N qual scope f cd A outer s H E).ex := fun b z => absurd (show b ∈ ([] : List Addr) from z) (by simp)
  refine ⟨⟨e0.mod, S.kind, rfl, rfl, Nat.le_refl _, fun y z c h1 h2 => ?_, fun y hy => ?_, fun y c _ h => ?_, fun _ => hd, Around.frames_deeper e0.frames, .inr ⟨rfl, rfl⟩, fun b z => absurd z (noA b), e0.bs, e0.bsz, fun b _ _ => noA b, fun b z => absurd z (noA b), e0.funs, e0.frf⟩,
    rfl, e0.bare, Un.kept hk, ⟨_, x.toInCall.ns, fun i y v h1 h2 h3 => ?_⟩, fun y c h => ⟨_, x.cell y c h⟩, e0.hok.fresh (Nat.le_refl _), fun y c h => ?_, fun p hp => absurd (show p ∈ ([] : List (Addr × Obj)) from hp) (by simp), e0.hok.kept hk, ?_⟩
  · exact name_of_addr x.apart (PySem.mem_of_lookup h1) (PySem.mem_of_lookup h2)
  · have hy : scope.names.lookup y = some .cell ∨ scope.names.lookup y = some .free := hy
    rcases hy with hy | hy
    · exact cell_has hy
    · exact absurd rfl (S.nofree _ (PySem.mem_of_lookup hy))
  · exact Nat.le_of_lt (x.above y c (PySem.mem_of_lookup h))
  · have hi : i < vs.length := by
      unfold start at h2
      by_cases hi : i < vs.length
      · exact hi
      · rw [List.getElem?_append_right (by simpa using hi)] at h2
        rw [List.getElem?_replicate] at h2
        split at h2 <;> cases h2
    have ha : vs[i]? = some v := by
      unfold start at h2
      rw [List.getElem?_append_left (by simpa using hi), List.getElem?_map] at h2
      cases e : vs[i]? with
      | none => rw [e] at h2; cases h2
      | some a => rw [e] at h2; cases h2; rfl
    obtain ⟨u, hu, rv⟩ := r.get ha
    have hp : ps[i]? = some y := by
      rw [← S.pre, List.getElem?_take_of_lt (by omega)]; exact h1
    have ndP : ps.Nodup := by rw [← S.pre]; exact S.nd.sublist (List.take_sublist _ _)
    refine ⟨u, rv, ?_⟩
    rcases S.par y (List.mem_of_getElem? hp) with k | k
    · exact .inl ⟨k, bindL_get ndP hp hu k⟩
    · obtain ⟨c, e⟩ := cell_has (n := s.heap.objs.size + 1) k
      refine .inr ⟨.inl k, c, e, ?_⟩
      have q := x.cell y c e
      rw [bindC_get ndP hp hu (by show scope.names.lookup y ≠ _; rw [k]; decide)] at q
      exact q
  · exact e0.hok.fresh (Nat.le_of_lt (x.above y c (PySem.mem_of_lookup h)))
  · unfold start
    show _ = N.length
    rw [List.length_append, List.length_map, List.length_replicate]
    omega
theorem fn_of {CX : CXT} {P : Program} {w : World} {K : PySem.W.Frag} {mg : Str → Option Value} {base : Heap} {k : Nat} {f : Addr} {name qual : Str} {params : Arguments} {body : List Stmt} {scope : Scope} {dV kV doc pm cdv ct oc : Value} {an od : Option Addr}
    {osl : Array (Option Value)} {N ps : List Str} {sp : Sp} (lk : K.lookup f = some ⟨oc, od, .func (PySem.W.fnOf name qual params body scope dV kV doc pm an cdv ct), osl⟩) (hcd : PySem.W.codeIn K cdv qual = true) (S : FnScope N ps scope)
    (len : ∀ vs H Q E, sp vs H Q E → vs.length = ps.length)
    (hbody : ∀ (A : Around) (outer : List Env) (s : Shared) (H : Hp) (vs : List V) (Q : VK) (E : XK), Room k (A.deeper (envOfC qual scope s.heap.objs.size f cdv)) → sp vs H Q E →
      ∃ t, PSs (cxOf CX P w K mg base N qual scope f cdv A outer s H E) body t ∧ t { nx := fun _ H' => Q .non H', rt := Q } (start N vs) H) :
    FnOk P w K mg base CX (k + 1) f (PySem.W.fnOf name qual params body scope dV kV doc pm an cdv ct) ps sp := by
  refine ⟨len, fun A outer s H args us vs Q E hr e0 hb r hsp => ?_⟩
  have hl := len _ _ _ _ hsp
  have KX : K.In s.heap := e0.mod.kin.keeps fun b o e => (e0.bs b o e).1
  have lim : s.heap.NoLimit := e0.mod.nolimit.keeps fun b o e => (e0.bs b o e).1
  have hkind : ∀ y ∈ ps.zip us, scope.names.lookup y.1 = some .local ∨ (scope.names.lookup y.1 = some .cell ∧ ((cellsFrom (s.heap.objs.size + 1) scope.names []).lookup y.1).isSome = true) := fun ⟨n, v⟩ hy => by
    rcases S.par n (List.of_mem_zip hy).1 with q | q
    · exact .inl q
    · exact .inr ⟨q, PySem.W.cellsFrom_some _ _ _ (.inl q)⟩
  refine codeAny_call_function hr.depth (KX _ _ lk) rfl S.co S.gen rfl (PySem.W.codeRec_of KX hcd) (hb _ _ _ _ ?_)
  refine wpAny_newFunctionEnv_cells S.kind hkind fun env he s1 x => ?_
  subst he
  refine ⟨lim.keeps x.toInCall.keep, codeAny_func ?_⟩
  obtain ⟨t, ht, hq⟩ := hbody A outer s H vs Q E (hr.deeper _) hsp
  have I : Inv (cxOf CX P w K mg base N qual scope f cdv A outer s H E) [] (start N vs) H s1 := inv_start S hr.hd e0 hl r x
  refine wpAny_mono (ht [] s1 (start N vs) H _ I hq) (fun fl s' hs => ?_) fun e s' hs => hs
  have fin : ∀ {σ' : St} {H' : Hp} {v : V} {u : Value}, Inv (cxOf CX P w K mg base N qual scope f cdv A outer s H E) [] σ' H' s' → RelV v u → Q v H' → CE outer P w H s Q u s' :=
    fun {σ' H' v u} J rv q => ⟨v, H', J.os, J.bare, J.base, J.hok, rv, q⟩
  cases fl with
  | ret u =>
    obtain ⟨v, σ', H', J, rv, q⟩ := hs
    exact fin J rv q
  | next =>
    obtain ⟨σ', H', J, q⟩ := hs
    exact fin (v := V.non) (u := Value.none) J rfl q
  | brk =>
    obtain ⟨_, _, _, q⟩ := hs
    exact False.elim q
  | cont =>
    obtain ⟨_, _, _, q⟩ := hs
    exact False.elim q
end L2
namespace L2
open PySem PySem.Spec PyProof.Rows
section
variable {X : Cx} {x : Str} {p pos : Pos} {e : Expr} {es : List Expr} {t : TA} {id T : String} {r : List V → Hp → VK → Prop}
def tCB (r : List V → Hp → VK → Prop) (t : TA) : TE := fun σ H Q => t σ H fun vs H1 => r vs H1 Q
theorem pe_callB (hc : CallR X (.builtin id) r) (hg : Gl X x) (hm : X.mg x = none) (hv : bootBuiltins x = some (.builtin id)) (ha : PA X (e :: es) t) (hn : x ≠ "__name__" := by decide) (hdb : (x == ("__debug__" : Str)) = false := by decide)
    (he : starEach (e :: es) X.env = (false, eval e X.env) :: starEach es X.env := by rfl) (hpl : (backTo pos (starEach es X.env)).any (·.1) = false := by rfl) : PE X (.Call (.Name x p) (e :: es) [] pos) (tCB r t) := by
  intro pins s σ H Q I h
  refine wpAny_Call_Name_kw (ld_blt I hg hm hv ?_ hn hdb)
  exact PyProof.Rows.callWith_builtin1 (thn (ha pos pins s σ H _ I h) fun us s1 ⟨vs, H1, I1, r1, q1⟩ => hc pins s1 σ H1 vs us Q I1 r1 q1) he hpl
theorem pe_callTy (hc : CallR X (.type T) r) (hg : Gl X x) (hm : X.mg x = none) (hv : bootBuiltins x = some (.type T)) (ha : PA X (e :: es) t) (hn : x ≠ "__name__" := by decide) (hdb : (x == ("__debug__" : Str)) = false := by decide)
    (he : starEach (e :: es) X.env = (false, eval e X.env) :: starEach es X.env := by rfl) (hpl : (backTo pos (starEach es X.env)).any (·.1) = false := by rfl) : PE X (.Call (.Name x p) (e :: es) [] pos) (tCB r t) := by
  intro pins s σ H Q I h
  refine wpAny_Call_Name_kw (ld_blt I hg hm hv ?_ hn hdb)
  exact PyProof.Rows.callWith_type1 (thn (ha pos pins s σ H _ I h) fun us s1 ⟨vs, H1, I1, r1, q1⟩ => hc pins s1 σ H1 vs us Q I1 r1 q1) he hpl
end
end L2
namespace HT
open PySem PyProof.Rows
def lexLt : List Int → List Int → Bool
  | [], [] => false
  | [], _ :: _ => true
  | _ :: _, [] => false
  | x :: xs, y :: ys => if x = y then lexLt xs ys else decide (x < y)
section
open PySem.SeqAt
open PySem.AutoSeq1 (wpAny_loadPart')
open PySem.MeetsSeq PySem.MeetsSeq2 PySem.MeetsSeq3
end
section
variable {prog : Program} {w : World} {A : Around} {E : Value → Shared → Prop} {s : Shared}
theorem cat_tup {t b : Addr} {vs ws : List Value} {Q : Value → Shared → Prop} (ht : IsTup s.heap t vs.toArray) (hb : IsTup s.heap b ws.toArray) (hv : vs ≠ [])
    (h1 : ws = [] → Q (.ref t) s) (h2 : ws ≠ [] → Q (.ref s.heap.objs.size) { s with heap := s.heap.push { cls := .type "tuple", data := .seq (vs ++ ws).toArray } })
    (hsz : vs.length + ws.length ≤ sizeLine) : wpAny (model prog w) A (binaryOp .Add (.ref t) (.ref b)) Q E s := by
  obtain ⟨⟨cls, dd, data, sl⟩, ho, hc, n, hd⟩ := id ht
  obtain ⟨⟨cls2, dd2, data2, sl2⟩, ho2, hc2, n2, hd2⟩ := id hb
  simp only at hc hd hc2 hd2
  subst hc hd hc2 hd2
  have e : vs.toArray ++ ws.toArray = (vs ++ ws).toArray := by simp
  by_cases hw : ws = []
  · exact concat_meets ⟨_, ho, rfl⟩ ⟨_, ho2, rfl⟩ noFill_tuple_add seq_tuple_add PySem.F.slot_tuple_add PySem.F.entry_tuple_add (PySem.F.args_tuple_add_2 _ _)
      (tuple_addW1 t b vs.toArray ws.toArray n n2 dd dd2 sl sl2 (by simpa using hv) (by simp [hw])) ⟨ho, ho2, h1 hw⟩
  · refine concat_meets ⟨_, ho, rfl⟩ ⟨_, ho2, rfl⟩ noFill_tuple_add seq_tuple_add PySem.F.slot_tuple_add PySem.F.entry_tuple_add (PySem.F.args_tuple_add_2 _ _)
      (tuple_addW2 t b vs.toArray ws.toArray n n2 dd dd2 sl sl2 (by simpa using hv) (by simpa using hw) (by rw [List.size_toArray, List.size_toArray]; exact hsz)) ⟨ho, ho2, ?_⟩
    rw [e]
    exact h2 hw
def sIx (n d : Nat) : Option Int → Nat
  | none => d
  | some v => if v < 0 then (v + (n : Int)).toNat else min v.toNat n
theorem sIx_none (n d : Nat) : sIx n d none = d := rfl
theorem sIx_nat (n d k : Nat) : sIx n d (some (k : Int)) = min k n := by
  show (if (k : Int) < 0 then ((k : Int) + (n : Int)).toNat else min (k : Int).toNat n) = min k n
  rw [if_neg (by omega), Int.toNat_natCast]
theorem sIx_le (n d : Nat) (hd : d ≤ n) (o : Option Int) : sIx n d o ≤ n := by
  cases o with
  | none => exact hd
  | some v =>
    show (if v < 0 then (v + (n : Int)).toNat else min v.toNat n) ≤ n
    by_cases hv : v < 0
    · rw [if_pos hv]; omega
    · rw [if_neg hv]; exact Nat.min_le_right _ _
theorem clip_eq (v : Int) (n d : Nat) : (if v < 0 then max (v + (n : Int)) 0 else min v (n : Int)) = ((sIx n d (some v) : Nat) : Int) := by
  show (if v < 0 then max (v + (n : Int)) 0 else min v (n : Int)) = (((if v < 0 then (v + (n : Int)).toNat else min v.toNat n) : Nat) : Int)
  by_cases hv : v < 0
  · simp only [if_pos hv]; omega
  · simp only [if_neg hv]; omega
theorem adjust_gen (lo hi : Option Int) (n : Nat) : Builtin.Slice.sliceAdjust lo hi 1 (n : Int) = (((sIx n 0 lo : Nat) : Int), ((sIx n n hi : Nat) : Int)) := by
  have h1 : ¬ ((1 : Int) < 0) := by omega
  unfold Builtin.Slice.sliceAdjust
  simp only [h1, if_false]
  refine Prod.ext ?_ ?_
  · cases lo with
    | none => rfl
    | some v => exact clip_eq v n 0
  · cases hi with
    | none => rfl
    | some v => exact clip_eq v n n
theorem places_gen (i j : Nat) : Builtin.Slice.slicePlaces (i : Int) (j : Int) 1 = j - i := by
  unfold Builtin.Slice.slicePlaces
  have h1 : (1 : Int) > 0 := by omega
  simp only [h1, if_true, Int.ediv_one]
  split <;> omega
theorem slicePart_ {v : Value} {o : Option Int} {Q : Option Int → Shared → Prop} (p : IsPart v o) (h : Q o s) : wpAny (model prog w) A (Builtin.Slice.slicePartIndex v) Q E s := by
  cases p with
  | none => exact slicePart_none h
  | int i t => exact slicePart_int h
theorem sliceApplied_gen {sl : Addr} {vl vu : Value} {lo hi : Option Int} {n : Nat} {Q : Int × Int × Nat → Shared → Prop} (hs : s.heap.IsSliceOf sl vl vu .none) (pl : IsPart vl lo) (pu : IsPart vu hi)
    (h : Q (((sIx n 0 lo : Nat) : Int), 1, sIx n n hi - sIx n 0 lo) s) : wpAny (model prog w) A (Builtin.Slice.sliceApplied (.ref sl) (pure (n : Int))) Q E s := by
  obtain ⟨os, hos, hcs, hds⟩ := id hs
  unfold Builtin.Slice.sliceApplied Builtin.Slice.sliceFields
  refine wpAny_bind (wpAny_bind (wpAny_field hos hds (x := vl) rfl (wpAny_bind (wpAny_field hos hds (x := vu) rfl (wpAny_bind (wpAny_field hos hds (x := .none) rfl (wpAny_pure ?_)))))))
  refine wpAny_bind (slicePart_none ?_)
  show wpAny _ _ (if ((1 : Int) == 0) = true then _ else _) _ _ s
  rw [if_neg (by decide)]
  refine wpAny_bind (slicePart_ pl (wpAny_bind (slicePart_ pu (wpAny_bind (wpAny_pure ?_)))))
  show wpAny _ _ (match Builtin.Slice.sliceAdjust lo hi 1 (n : Int) with | (lo, hi) => pure (lo, (1 : Int), Builtin.Slice.slicePlaces lo hi 1)) _ _ s
  rw [adjust_gen lo hi n]
  show wpAny _ _ (pure (((sIx n 0 lo : Nat) : Int), (1 : Int), Builtin.Slice.slicePlaces ((sIx n 0 lo : Nat) : Int) ((sIx n n hi : Nat) : Int) 1)) _ _ s
  rw [places_gen]
  exact wpAny_pure h
theorem pick_gen (xs : Array Value) (i k : Nat) : ((List.range k).filterMap fun (m : Nat) => xs[((i : Int) + (m : Int) * 1).toNat]?).toArray = ((xs.toList.drop i).take k).toArray := by
  have e : (fun (m : Nat) => xs[((i : Int) + (m : Int) * 1).toNat]?) = fun m => xs[i + m]? := by
    funext m
    have : ((i : Int) + (m : Int) * 1).toNat = i + m := by omega
    rw [this]
  rw [e]
  have := pick_run xs i k
  rw [List.filterMap_map] at this
  have e2 : ((fun x => xs[x]?) ∘ fun x => i + x) = fun m => xs[i + m]? := rfl
  rw [e2] at this
  rw [this]
theorem getItem_tuple_cut {t sl : Addr} {items : Array Value} {vl vu : Value} {lo hi : Option Int} {Q : Value → Shared → Prop} (ht : IsTup s.heap t items) (hs : s.heap.IsSliceOf sl vl vu .none) (pl : IsPart vl lo) (pu : IsPart vu hi)
    (hw : ¬ (sIx items.size 0 lo = 0 ∧ sIx items.size items.size hi = items.size))
    (h : Q (.ref s.heap.objs.size) { s with heap := s.heap.push { cls := .type "tuple", data := .seq ((items.toList.drop (sIx items.size 0 lo)).take (sIx items.size items.size hi - sIx items.size 0 lo)).toArray } })
    (hsz : items.size ≤ sizeLine) : wpAny (model prog w) A (getItem (.ref t) (.ref sl)) Q E s := by
  have htake : sizeOk (.seq ((items.toList.drop (sIx items.size 0 lo)).take (sIx items.size items.size hi - sIx items.size 0 lo)).toArray) := by
    show ((items.toList.drop (sIx items.size 0 lo)).take (sIx items.size items.size hi - sIx items.size 0 lo)).toArray.size ≤ sizeLine
    rw [List.size_toArray, List.length_take, List.length_drop, Array.length_toList]
    omega
  have hj : sIx items.size items.size hi ≤ items.size := sIx_le _ _ (Nat.le_refl _) hi
  obtain ⟨os, hos, hcs, hds⟩ := id hs
  have hTs : s.TypeIs (.ref sl) "slice" := ⟨os, hos, hcs⟩
  unfold getItem
  try with_reducible refine wpAny_holding ?_
  first | refine wpAny_bind (wpAny_pure ?_) | skip
  refine wpAny_bind (wpAny_sequenceKey ht.typeIs (by decide) ?_)
  refine wpAny_bind (wpAny_callSpecial?_slot (name := Str.ofString "__getitem__") ht.typeIs PyProof.Rows.slot_tuple_getitem
    (wpAny_call_entry PyProof.Rows.slot_tuple_getitem ht.typeIs entry_tuple_getitem ?_ (args_tuple_getitem _ _)))
  show wpAny _ _ (Builtin.Tuple.tupleItemsOf (.ref t) >>= _) _ _ s
  refine wpAny_bind (tupleItemsOf_ ht ?_)
  refine wpAny_bind (wpAny_typeOf hTs ?_)
  rw [if_pos (by decide)]
  refine wpAny_bind (sliceApplied_gen hs pl pu ?_)
  have hno : ¬ ((((sIx items.size 0 lo : Nat) : Int) == 0 && (1 : Int) == 1 && (sIx items.size items.size hi - sIx items.size 0 lo) == items.size) = true) := by
    intro q
    rw [Bool.and_eq_true, Bool.and_eq_true] at q
    have q1 : ((sIx items.size 0 lo : Nat) : Int) = 0 := eq_of_beq q.1.1
    have q2 : sIx items.size items.size hi - sIx items.size 0 lo = items.size := eq_of_beq q.2
    exact hw ⟨by omega, by omega⟩
  show wpAny _ _ (if (((sIx items.size 0 lo : Nat) : Int) == 0 && (1 : Int) == 1 && (sIx items.size items.size hi - sIx items.size 0 lo) == items.size) = true then _ else _) _ _ s
  rw [if_neg hno, pick_gen]
  first
    | exact wpAny_bind (m := Builtin.Tuple.tupleExact _) (wpAny_newObj_type (wpAny_pure ⟨_, rfl, wpAny_pure h⟩) htake)
    | exact wpAny_bind (m := Builtin.Tuple.tupleExact _) (wpAny_newObj_type (wpAny_bind (wpAny_pure (wpAny_pure ⟨_, rfl, wpAny_pure h⟩))) htake)
    | exact wpAny_bind (wpAny_bind (m := Builtin.Tuple.tupleExact _) (wpAny_newObj_type (wpAny_pure (wpAny_pure ⟨_, rfl, wpAny_pure h⟩)) htake))
    | exact wpAny_bind (wpAny_bind (m := Builtin.Tuple.tupleExact _) (wpAny_newObj_type (wpAny_pure ⟨_, rfl, wpAny_pure h⟩) htake))
end
end HT
namespace L2
open PySem PySem.Spec PyProof.Rows
abbrev TO := St → Hp → (Option Int → Hp → Prop) → Prop
def PO (X : Cx) (e : Option Expr) (t : TO) : Prop :=
  ∀ (pins : List (Addr × Obj)) (s : Shared) (σ : St) (H : Hp) (Q : Option Int → Hp → Prop), Inv X pins σ H s → t σ H Q →
    wpAny (model X.prog X.w) X.A (evalPart e X.env) (fun u s' => ∃ o H', Inv X pins σ H' s' ∧ IsPart u o ∧ Q o H') X.xe s
def tNoPart : TO := fun _ H Q => Q none H
def tPart (t : TE) : TO := fun σ H Q => t σ H fun x H1 => ∃ i, x = .int i ∧ Q (some i) H1
section
variable {X : Cx} {e : Expr} {te : TE} {lo hi : Option Expr} {tl th : TO} {pos p2 : Pos}
theorem po_none : PO X none tNoPart := by
  intro pins s σ H Q I h
  rw [evalPart_none]
  exact wpAny_pure ⟨none, H, I, .none, h⟩
theorem po_some (h : PE X e te) : PO X (some e) (tPart te) := by
  intro pins s σ H Q I hw
  rw [evalPart_some]
  refine thn (h pins s σ H _ I hw) fun u s1 ⟨x, H1, I1, r1, q1⟩ => ?_
  obtain ⟨i, rfl, q⟩ := q1
  obtain ⟨t, rfl⟩ := r1
  exact ⟨some i, H1, I1, .int i t, q⟩
def SlR (X : Cx) (r : V → Option Int → Option Int → Hp → VK → Prop) : Prop :=
  ∀ (pins : List (Addr × Obj)) (s : Shared) (σ : St) (H : Hp) (x : V) (v vl vu : Value) (lo hi : Option Int) (sl : Addr) (Q : VK), Inv X pins σ H s → RelV x v → s.heap.IsSliceOf sl vl vu .none → IsPart vl lo → IsPart vu hi → r x lo hi H Q →
    ∃ T id, typeLookup (.type T) "__getitem__" = pure (some (.builtin id)) ∧ s.TypeIs v T ∧ wpAny (model X.prog X.w) X.A (getItem v (.ref sl)) (EP X pins σ Q) X.xe s
def tSl (r : V → Option Int → Option Int → Hp → VK → Prop) (te : TE) (tl th : TO) : TE := fun σ H Q => te σ H fun x H1 => tl σ H1 fun l H2 => th σ H2 fun u H3 => r x l u H3 Q
theorem pe_slice {r : V → Option Int → Option Int → Hp → VK → Prop} (hr : SlR X r) (he : PE X e te) (hl : PO X lo tl) (hu : PO X hi th) : PE X (.Subscript e (.Slice lo hi none p2) pos) (tSl r te tl th) := by
  intro pins s σ H Q I h
  refine Subscript_ (thn (he pins s σ H _ I h) fun v s1 ⟨x, H1, I1, r1, q1⟩ => ?_)
  refine wpAny_Slice (thn (hl pins s1 σ H1 _ I1 q1) fun vl s2 ⟨l, H2, I2, pl, q2⟩ => thn (hu pins s2 σ H2 _ I2 q2) fun vu s3 ⟨u, H3, I3, pu, q3⟩ => ?_)
  rw [evalPart_none]
  refine wpAny_pure ?_
  have I4 : Inv X pins σ H3 { s3 with heap := s3.heap.push { cls := .type "slice", data := .fields #[vl, vu, .none] } } := I3.kept (t' := s3.toks) fun b ob q => Heap.get?_push_of_some _ q
  obtain ⟨T, id, hT, ht, hg⟩ := hr pins { s3 with heap := s3.heap.push { cls := .type "slice", data := .fields #[vl, vu, .none] } } σ H3 x v vl vu l u s3.heap.objs.size Q I4 r1 (Heap.IsSliceOf.new ..) pl pu q3
  show wpAny (model X.prog X.w) X.A (subscriptTail e (.Slice lo hi none p2) v (.ref s3.heap.objs.size)) (EP X pins σ Q) X.xe { s3 with heap := s3.heap.push { cls := .type "slice", data := .fields #[vl, vu, .none] } }
  exact tail_any (ops := [.ref s3.heap.objs.size, v]) ht hT hg (by with_unfolding_all rfl)
def cutV (xs : List V) (lo hi : Option Int) : List V := (xs.drop (HT.sIx xs.length 0 lo)).take (HT.sIx xs.length xs.length hi - HT.sIx xs.length 0 lo)
theorem cutV_length (xs : List V) (lo hi : Option Int) : (cutV xs lo hi).length ≤ xs.length := by
  unfold cutV
  rw [List.length_take, List.length_drop]
  omega
def rSlT (K : PySem.W.Frag) : V → Option Int → Option Int → Hp → VK → Prop := fun x lo hi H Q => ∃ a xs, x = .ref a ∧ SqT K H a xs ∧
  ¬ (HT.sIx xs.length 0 lo = 0 ∧ HT.sIx xs.length xs.length hi = xs.length) ∧ ∀ p, H p = none → Q (.ref p) (upd H p (.tup (cutV xs lo hi)))
theorem sl_tup : SlR X (rSlT X.K) := by
  intro pins s σ H x v vl vu lo hi sl Q I rx hs pl pu h
  obtain ⟨a, xs, rfl, hx, hw, q⟩ := h
  cases rx
  obtain ⟨its, r, ht, hz⟩ := I.tuple hx
  have hlen : its.toArray.size = xs.length := by rw [List.size_toArray]; exact r.length.symm
  refine ⟨"tuple", _, PyProof.Rows.slot_tuple_getitem.lookup, ht.typeIs, ?_⟩
  refine HT.getItem_tuple_cut ht hs pl pu (by rw [hlen]; exact hw) ?_ (by rw [hlen]; exact hz)
  rw [hlen]
  refine ⟨.ref s.heap.objs.size, _, I.laid (t' := s.toks) (o := .tup (cutV xs lo hi)) (fun b ob q => Heap.get?_push_of_some _ q) (Nat.le_refl _) ?_, rfl, q _ (I.hok.fresh (Nat.le_refl _))⟩
  exact ⟨Nat.le_trans (cutV_length xs lo hi) hz, _, (r.drop (HT.sIx xs.length 0 lo)).take (HT.sIx xs.length xs.length hi - HT.sIx xs.length 0 lo), IsTup.new _ _⟩
def rLtT (K : PySem.W.Frag) : R2 := fun x y H Q => ∃ a b ns ms, x = .ref a ∧ y = .ref b ∧ SqT K H a (ns.map V.int) ∧ SqT K H b (ms.map V.int) ∧ Q (.bl (HT.lexLt ns ms)) H
def rCatT (K : PySem.W.Frag) : R2 := fun x y H Q => ∃ a b xs ys, x = .ref a ∧ y = .ref b ∧ SqT K H a xs ∧ SqT K H b ys ∧ xs ≠ [] ∧ xs.length + ys.length ≤ sizeLine ∧
  (ys = [] → Q (.ref a) H) ∧ (ys ≠ [] → ∀ p, H p = none → Q (.ref p) (upd H p (.tup (xs ++ ys))))
theorem Vals.nil_iff {xs : List V} {us : List Value} (r : Vals xs us) : us = [] ↔ xs = [] := by
  cases r with
  | nil => simp
  | cons _ _ => simp
theorem op_catT : OpR X (binaryOp .Add) (rCatT X.K) := by
  intro pins s σ H x y v u Q I rx ry h
  obtain ⟨a, b, xs, ys, rfl, rfl, ha, hb, hx, hz, q1, q2⟩ := h
  cases rx
  cases ry
  obtain ⟨its, r1, p1, _⟩ := I.tuple ha
  obtain ⟨its2, r2, p2, _⟩ := I.tuple hb
  refine HT.cat_tup p1 p2 (fun z => hx (r1.nil_iff.mp z)) (fun z => ⟨.ref a, H, I, rfl, q1 (r2.nil_iff.mp z)⟩) (fun z => ?_) (by rw [← r1.length, ← r2.length]; exact hz)
  refine ⟨.ref s.heap.objs.size, _, I.laid (t' := s.toks) (o := .tup (xs ++ ys)) (fun b ob q => Heap.get?_push_of_some _ q) (Nat.le_refl _) ?_, rfl, q2 (fun w => z (r2.nil_iff.mpr w)) _ (I.hok.fresh (Nat.le_refl _))⟩
  exact ⟨by rw [List.length_append]; exact hz, _, r1.append r2, IsTup.new _ _⟩
end
end L2
namespace L2
open PySem PySem.Spec PyProof.Rows
def ixN (n : Nat) (i : Int) : Option Nat := if 0 ≤ i then (if i < n then some i.toNat else none) else if -(n : Int) ≤ i then some (i + n).toNat else none
def atI {α : Type} (xs : List α) (i : Int) : Option α := (ixN xs.length i).bind fun j => xs[j]?
theorem ixN_seq {n : Nat} {i : Int} {j : Nat} (h : ixN n i = some j) : seqIndex? i n = some j ∧ j < n ∧ -(n : Int) ≤ i ∧ i < n := by
  unfold ixN at h
  by_cases h0 : 0 ≤ i
  · rw [if_pos h0] at h
    by_cases h1 : i < n
    · rw [if_pos h1] at h
      have e : i.toNat = j := Option.some.inj h
      exact ⟨by rw [seqIndex_of h0 h1, e], by omega, by omega, h1⟩
    · rw [if_neg h1] at h; cases h
  · rw [if_neg h0] at h
    by_cases h1 : -(n : Int) ≤ i
    · rw [if_pos h1] at h
      have e : (i + n).toNat = j := Option.some.inj h
      exact ⟨by rw [seqIndex_neg (by omega) h1, e], by omega, h1, by omega⟩
    · rw [if_neg h1] at h; cases h
theorem atI_get {α : Type} {xs : List α} {i : Int} {v : α} (h : atI xs i = some v) : ∃ j, seqIndex? i xs.length = some j ∧ xs[j]? = some v ∧ j < xs.length ∧ -(xs.length : Int) ≤ i ∧ i < xs.length := by
  unfold atI at h
  cases e : ixN xs.length i with
  | none => rw [e] at h; cases h
  | some j =>
    rw [e] at h
    obtain ⟨h1, h2, h3, h4⟩ := ixN_seq e
    exact ⟨j, h1, h, h2, h3, h4⟩
theorem atI_nat {α : Type} {xs : List α} {j : Nat} {v : α} (h : xs[j]? = some v) : atI xs (j : Int) = some v := by
  have hj : j < xs.length := (List.getElem?_eq_some_iff.mp h).1
  have e : ixN xs.length (j : Int) = some j := by
    unfold ixN
    rw [if_pos (by omega), if_pos (by omega)]; simp
  unfold atI; rw [e]; exact h
def PlainIx (b : Expr) : Prop := ∀ o i, subscripted b false o i = operate [o, i] (getItem o i)
def IxR (X : Cx) (r : R2) : Prop :=
  ∀ (value slice : Expr) (pins : List (Addr × Obj)) (s : Shared) (σ : St) (H : Hp) (x y : V) (v u : Value) (Q : VK), Inv X pins σ H s → RelV x v → RelV y u → r x y H Q →
    subscripted slice false v u = operate [v, u] (getItem v u) → wpAny (model X.prog X.w) X.A (subscriptTail value slice v u) (EP X pins σ Q) X.xe s
def MtR (X : Cx) (id : String) (r : V → List V → Hp → VK → Prop) : Prop :=
  ∀ (pins : List (Addr × Obj)) (s : Shared) (σ : St) (H : Hp) (x : V) (xs : List V) (v : Value) (us : List Value) (Q : VK), Inv X pins σ H s → RelV x v → Vals xs us → r x xs H Q →
    wpAny (model X.prog X.w) X.A (call (.builtin id) (v :: us)) (EP X pins σ Q) X.xe s
section
variable {X : Cx} {a b : Expr} {ta tb : TE} {pos : Pos}
theorem pe_ix {r : R2} (hr : IxR X r) (ha : PE X a ta) (hb : PE X b tb) (hs : PlainIx b) : PE X (.Subscript a b pos) (tOp r ta tb) := by
  intro pins s σ H Q I h
  exact Subscript_ (binT ha hb I h fun v u s2 x y H2 I2 rx ry q => hr a b pins s2 σ H2 x y v u Q I2 rx ry q (hs _ _))
def rIxL (K : PySem.W.Frag) : R2 := fun x y H Q => ∃ p xs i v, x = .ref p ∧ y = .int i ∧ SqL K H p xs ∧ atI xs i = some v ∧ Q v H
def rIxT (K : PySem.W.Frag) : R2 := fun x y H Q => ∃ p xs i v, x = .ref p ∧ y = .int i ∧ SqT K H p xs ∧ atI xs i = some v ∧ Q v H
def rIxS : R2 := fun x y H Q => ∃ z i c, x = .str z ∧ y = .int i ∧ z.length ≤ sizeLine ∧ atI z.cps.toList i = some c ∧ Q (.str ⟨#[c]⟩) H
theorem ix_list : IxR X (rIxL X.K) := by
  intro value slice pins s σ H x y v u Q I rx ry h hs
  obtain ⟨p, xs, i, z, rfl, rfl, hq, he, q⟩ := h
  cases rx
  obtain ⟨t, rfl⟩ := ry
  obtain ⟨its, r, pl, hz⟩ := I.list hq
  obtain ⟨j, h1, h2, h3, h4, h5⟩ := atI_get he
  obtain ⟨w, ew, rw'⟩ := r.get h2
  have hl := r.length
  have hn := line63
  have fin : EP X pins σ Q w s := ⟨z, H, I, rw', q⟩
  by_cases h0 : 0 ≤ i
  · have hj : i.toNat = j := by
      rw [seqIndex_of h0 h5] at h1
      exact Option.some.inj h1
    exact item_listR pl.isList h0 (by omega) (by rw [hj]; simpa using ew) fin hs
  · have hj : (i + (its.toArray.size : Int)).toNat = j := by
      rw [seqIndex_neg (by omega) h4] at h1
      rw [List.size_toArray, ← hl]
      exact Option.some.inj h1
    exact subscriptTail_builtinR (x := w) pl.isList.typeIs slot_list_getitem.lookup
      (wpAny_getItem_list_neg (Q := fun r s' => r = w ∧ EP X pins σ Q r s') pl.isList (by omega) (by rw [List.size_toArray] <;> omega) (by omega) (by rw [hj]; simpa using ew) ⟨rfl, fin⟩) hs
theorem ix_tup : IxR X (rIxT X.K) := by
  intro value slice pins s σ H x y v u Q I rx ry h hs
  obtain ⟨p, xs, i, z, rfl, rfl, hq, he, q⟩ := h
  cases rx
  obtain ⟨t, rfl⟩ := ry
  obtain ⟨its, r, pl, hz⟩ := I.tuple hq
  obtain ⟨j, h1, h2, h3, h4, h5⟩ := atI_get he
  obtain ⟨w, ew, rw'⟩ := r.get h2
  have hl := r.length
  have hn := line63
  have fin : EP X pins σ Q w s := ⟨z, H, I, rw', q⟩
  exact subscriptTail_builtinR (x := w) pl.typeIs slot_tuple_getitem.lookup
    (getItem_tuple (j := j) (Q := fun r s' => r = w ∧ EP X pins σ Q r s') pl (by omega) (by omega) (by rw [List.size_toArray, ← hl]; exact h1) (by simpa using ew) ⟨rfl, fin⟩) hs
theorem ix_str : IxR X rIxS := by
  intro value slice pins s σ H x y v u Q I rx ry h hs
  obtain ⟨z, i, c, rfl, rfl, hz, he, q⟩ := h
  obtain ⟨t, rfl⟩ := rx
  obtain ⟨t', rfl⟩ := ry
  obtain ⟨j, h1, h2, h3, h4, h5⟩ := atI_get he
  have hl : z.cps.toList.length = z.length := by simp [Str.length]
  rw [hl] at h1 h4 h5
  have hn := line63
  exact tail_any (typeIs_str s z t) slot_str_getitem.lookup (getItem_str (c := c) (by
    have e1 : decide (i < -(2 ^ 63 : Int)) = false := decide_eq_false (by omega)
    have e2 : decide (i ≥ 2 ^ 63) = false := decide_eq_false (by omega)
    rw [e1, e2, Bool.or_false]) (by rw [h1]; simpa using h2) ⟨.str ⟨#[c]⟩, H, I.tok _, ⟨_, rfl⟩, q⟩) hs
def rIx (K : PySem.W.Frag) : R2 := fun x y H Q => rIxL K x y H Q ∨ rIxT K x y H Q ∨ rIxS x y H Q
theorem mapSeq_set (its : List Value) (n j : Nat) (u : Value) : Obj.mapSeq (·.setIfInBounds j u) { cls := .type "list", data := .seq its.toArray n } = { cls := .type "list", data := .seq (its.set j u).toArray n } := by
  simp [Obj.mapSeq]
theorem Inv.lst {pins : List (Addr × Obj)} {σ : St} {H : Hp} {s : Shared} {p : Addr} {xs : List V} (I : Inv X pins σ H s) (h : H p = some (.lst xs)) :
    ∃ (its : List Value) (n : Nat), Vals xs its ∧ s.heap.get? p = some { cls := .type "list", data := .seq its.toArray n } ∧ xs.length ≤ sizeLine := by
  obtain ⟨z, its, n, r, e⟩ := I.hok p _ h
  exact ⟨its, n, r, e, z⟩
theorem Inv.lstUpd {pins : List (Addr × Obj)} {σ : St} {H : Hp} {s : Shared} {p : Addr} {xs ys : List V} {its its' : List Value} {n n' : Nat} {f : Obj → Obj} (I : Inv X pins σ H s) (h : H p = some (.lst xs))
    (ho : s.heap.get? p = some { cls := .type "list", data := .seq its.toArray n }) (hf : f { cls := .type "list", data := .seq its.toArray n } = { cls := .type "list", data := .seq its'.toArray n' }) (r : Vals ys its') (hz : ys.length ≤ sizeLine) (t : Nat) :
    Inv X pins σ (upd H p (.lst ys)) { s with heap := s.heap.update p f, toks := t } := by
  have e : (s.heap.update p f).get? p = some { cls := .type "list", data := .seq its'.toArray n' } := by
    rw [Heap.get?_update_self f ho (by rw [hf] <;> rfl), hf]
  refine I.write (x := p) (e := p) (by rw [h]; trivial) (.inl rfl) (fun b u hb q => (Heap.get?_update_other _ _ (Ne.symm hb)).trans q) ⟨_, e⟩ ?_
  exact ⟨hz, its', n', r, e⟩
def rSetL : V → V → V → Hp → (Hp → Prop) → Prop := fun o i v H Q => ∃ p xs k j, o = .ref p ∧ i = .int k ∧ H p = some (.lst xs) ∧ ixN xs.length k = some j ∧ Q (upd H p (.lst (xs.set j v)))
theorem set_list : PSet X rSetL := by
  intro pins s σ H o i v ov iv u Q I ro ri rv h
  obtain ⟨p, xs, k, j, rfl, rfl, hp, hj, q⟩ := h
  cases ro
  obtain ⟨t, rfl⟩ := ri
  obtain ⟨its, n, r, ho, hz⟩ := I.lst hp
  obtain ⟨h1, h2, h3, h4⟩ := ixN_seq hj
  have hl := r.length
  have hn := line63
  have I' : Inv X pins σ (upd H p (.lst (xs.set j v))) { s with heap := s.heap.update p (Obj.mapSeq (·.setIfInBounds j u)) } :=
    I.lstUpd hp ho (mapSeq_set its n j u) (r.set rv j) (by rw [List.length_set]; exact hz) s.toks
  by_cases h0 : 0 ≤ k
  · have hk : k.toNat = j := by
      rw [seqIndex_of h0 h4] at h1
      exact Option.some.inj h1
    exact PySem.W.ki_setAt ho h0 (by omega) (by rw [List.size_toArray, ← hl]; exact h4) (by rw [hk]; exact ⟨_, I', q⟩)
  · have hk : (k + (its.toArray.size : Int)).toNat = j := by
      rw [seqIndex_neg (by omega) h3] at h1
      rw [List.size_toArray, ← hl]
      exact Option.some.inj h1
    exact PySem.W.ki_setBack ho (by omega) (by rw [List.size_toArray, ← hl]; exact h3) (by omega) (by rw [hk]; exact ⟨_, I', q⟩)
theorem slice_bounds (lo hi : Option Int) (n : Nat) : (sliceBounds lo hi none n).1 = ((HT.sIx n 0 lo : Nat) : Int) ∧ (sliceBounds lo hi none n).2.1 = ((HT.sIx n n hi : Nat) : Int) ∧ (sliceBounds lo hi none n).2.2 = 1 := by
  refine ⟨?_, ?_, rfl⟩
  · cases lo with
    | none => simp [sliceBounds, HT.sIx]
    | some i =>
      simp only [sliceBounds, HT.sIx, Option.getD_none, show (1 : Int) > 0 by decide, if_true]
      by_cases h : i < 0
      · simp only [h, if_true] <;> omega
      · simp only [h, if_false] <;> omega
  · cases hi with
    | none => simp [sliceBounds, HT.sIx]
    | some i =>
      simp only [sliceBounds, HT.sIx, Option.getD_none, show (1 : Int) > 0 by decide, if_true]
      by_cases h : i < 0
      · simp only [h, if_true] <;> omega
      · simp only [h, if_false] <;> omega
theorem slicePick_cut (its : List Value) (lo hi : Option Int) : slicePick its.toArray lo hi none = ((its.drop (HT.sIx its.length 0 lo)).take (HT.sIx its.length its.length hi - HT.sIx its.length 0 lo)).toArray := by
  obtain ⟨h1, h2, h3⟩ := slice_bounds lo hi its.toArray.size
  unfold slicePick
  rw [h1, h2, h3]
  simp only [sliceRange_one, pick_run, List.size_toArray] <;> rfl
def rSlL (K : PySem.W.Frag) : V → Option Int → Option Int → Hp → VK → Prop := fun x lo hi H Q => ∃ a xs, x = .ref a ∧ SqL K H a xs ∧ ∀ p, H p = none → Q (.ref p) (upd H p (.lst (cutV xs lo hi)))
theorem sl_list : SlR X (rSlL X.K) := by
  intro pins s σ H x v vl vu lo hi sl Q I rx hs pl pu h
  obtain ⟨a, xs, rfl, hx, q⟩ := h
  cases rx
  obtain ⟨its, r, ht, hz⟩ := I.list hx
  have hlen := r.length
  refine ⟨"list", _, slot_list_getitem.lookup, ht.isList.typeIs, ?_⟩
  refine wpAny_getItem_list_slice ht.isList hs pl pu .none (by simp) ?_ (by rw [List.size_toArray] <;> omega)
  rw [slicePick_cut, ← hlen]
  refine ⟨.ref s.heap.objs.size, _, I.laid (t' := s.toks) (o := .lst (cutV xs lo hi)) (fun b ob q => Heap.get?_push_of_some _ q) (Nat.le_refl _) ?_, rfl, q _ (I.hok.fresh (Nat.le_refl _))⟩
  exact ⟨Nat.le_trans (cutV_length xs lo hi) hz, _, 0, (r.drop (HT.sIx xs.length 0 lo)).take (HT.sIx xs.length xs.length hi - HT.sIx xs.length 0 lo), Heap.get?_push_size _ rfl⟩
def flatV : V → Bool
  | .non => true
  | .bl _ => true
  | .int _ => true
  | .str _ => true
  | _ => false
def eqV : V → V → Bool
  | .non, .non => true
  | .bl a, .bl b => a == b
  | .bl a, .int b => (if a then 1 else 0) == b
  | .int a, .bl b => a == (if b then 1 else 0)
  | .int a, .int b => a == b
  | .str a, .str b => a == b
  | _, _ => false
theorem eqAt_V {A : Around} {s : Shared} {y x : V} {u v : Value} (ry : RelV y u) (rx : RelV x v) (fy : flatV y = true) (fx : flatV x = true) : SeqAt.EqAt A s u v (eqV y x) := by
  cases y with
  | non =>
    cases ry
    cases x with
    | non => cases rx; exact SeqAt.EqAt.same _
    | bl b => cases rx; exact SeqAt.EqAt.none_bool b
    | int b => obtain ⟨t, rfl⟩ := rx; exact SeqAt.EqAt.none_int b t
    | str b => obtain ⟨t, rfl⟩ := rx; exact SeqAt.EqAt.none_str b t
    | _ => exact absurd (show false = true from fx) Bool.false_ne_true
  | bl a =>
    cases ry
    cases x with
    | non => cases rx; exact SeqAt.EqAt.bool_none a
    | bl b => cases rx; exact SeqAt.EqAt.bool_bool a b
    | int b => obtain ⟨t, rfl⟩ := rx; exact SeqAt.EqAt.bool_int a b t
    | str b => obtain ⟨t, rfl⟩ := rx; exact SeqAt.EqAt.bool_str a b t
    | _ => exact absurd (show false = true from fx) Bool.false_ne_true
  | int a =>
    obtain ⟨t', rfl⟩ := ry
    cases x with
    | non => cases rx; exact SeqAt.EqAt.int_none a t'
    | bl b => cases rx; exact SeqAt.EqAt.int_bool a t' b
    | int b => obtain ⟨t, rfl⟩ := rx; exact SeqAt.EqAt.int_int a t' b t
    | str b => obtain ⟨t, rfl⟩ := rx; exact SeqAt.EqAt.int_str a t' b t
    | _ => exact absurd (show false = true from fx) Bool.false_ne_true
  | str a =>
    obtain ⟨t', rfl⟩ := ry
    cases x with
    | non => cases rx; exact SeqAt.EqAt.str_none a t'
    | bl b => cases rx; exact SeqAt.EqAt.str_bool a t' b
    | int b => obtain ⟨t, rfl⟩ := rx; exact SeqAt.EqAt.str_int a t' b t
    | str b => obtain ⟨t, rfl⟩ := rx; exact SeqAt.EqAt.str_str a t' b t
    | _ => exact absurd (show false = true from fx) Bool.false_ne_true
  | _ => exact absurd (show false = true from fy) Bool.false_ne_true
def eqU (x : V) (u : Value) : Bool := match u with
  | .none => eqV .non x
  | .bool b => eqV (.bl b) x
  | .int i _ => eqV (.int i) x
  | .str z _ => eqV (.str z) x
  | _ => false
theorem eqU_of {x y : V} {u : Value} (r : RelV y u) (f : flatV y = true) : eqU x u = eqV y x := by
  cases y with
  | non => cases r; rfl
  | bl b => cases r; rfl
  | int i => obtain ⟨t, rfl⟩ := r; rfl
  | str z => obtain ⟨t, rfl⟩ := r; rfl
  | _ => exact absurd (show false = true from f) Bool.false_ne_true
theorem any_eqU {x : V} : ∀ {xs : List V} {us : List Value}, Vals xs us → xs.all flatV = true → us.any (eqU x) = xs.any fun y => eqV y x
  | _, _, .nil, _ => rfl
  | y :: xs, u :: us, .cons r t, f => by
    rw [List.all_cons, Bool.and_eq_true] at f
    rw [List.any_cons, List.any_cons, eqU_of r f.1, any_eqU t f.2]
theorem mem_eqAt {A : Around} {s : Shared} {x : V} {v : Value} (rx : RelV x v) (fx : flatV x = true) : ∀ {xs : List V} {us : List Value}, Vals xs us → xs.all flatV = true → ∀ u ∈ us, SeqAt.EqAt A s u v (eqU x u)
  | _, _, .nil, _ => fun u hu => by cases hu
  | y :: xs, u :: us, .cons r t, f => fun u' hu => by
    rw [List.all_cons, Bool.and_eq_true] at f
    rcases List.mem_cons.mp hu with rfl | hu
    · rw [eqU_of r f.1]; exact eqAt_V r rx f.1 fx
    · exact mem_eqAt rx fx t f.2 u' hu
def inV (x : V) (xs : List V) : Bool := xs.any fun y => eqV y x
def rIn (K : PySem.W.Frag) (neg : Bool) : R2 := fun x y H Q => ∃ p xs, y = .ref p ∧ (SqL K H p xs ∨ SqT K H p xs) ∧ flatV x = true ∧ xs.all flatV = true ∧ Q (.bl (if neg then !inV x xs else inV x xs)) H
theorem op_in_seq : OpR X (compareOp .In) (rIn X.K false) := by
  intro pins s σ H x y v u Q I rx ry h
  obtain ⟨p, xs, rfl, hq, fx, fs, q⟩ := h
  cases ry
  rcases hq with hq | hq
  · obtain ⟨its, r, pl, hz⟩ := I.list hq
    refine SeqAt.in_listAt (eqU x) pl.isList (fun w hw => mem_eqAt rx fx r fs w (by simpa using hw)) ⟨.bl _, H, I, rfl, ?_⟩
    rw [show its.toArray.any (eqU x) = its.any (eqU x) by simp, any_eqU r fs]
    exact q
  · obtain ⟨its, r, pl, hz⟩ := I.tuple hq
    refine SeqAt.in_tupleAt (eqU x) pl (fun w hw => mem_eqAt rx fx r fs w (by simpa using hw)) ⟨.bl _, H, I, rfl, ?_⟩
    rw [show its.toArray.any (eqU x) = its.any (eqU x) by simp, any_eqU r fs]
    exact q
theorem op_notIn_seq : OpR X (compareOp .NotIn) (rIn X.K true) := by
  intro pins s σ H x y v u Q I rx ry h
  obtain ⟨p, xs, rfl, hq, fx, fs, q⟩ := h
  cases ry
  rcases hq with hq | hq
  · obtain ⟨its, r, pl, hz⟩ := I.list hq
    refine SeqAt.notIn_listAt (eqU x) pl.isList (fun w hw => mem_eqAt rx fx r fs w (by simpa using hw)) ⟨.bl _, H, I, rfl, ?_⟩
    rw [show its.toArray.any (eqU x) = its.any (eqU x) by simp, any_eqU r fs]
    exact q
  · obtain ⟨its, r, pl, hz⟩ := I.tuple hq
    refine SeqAt.notIn_tupleAt (eqU x) pl (fun w hw => mem_eqAt rx fx r fs w (by simpa using hw)) ⟨.bl _, H, I, rfl, ?_⟩
    rw [show its.toArray.any (eqU x) = its.any (eqU x) by simp, any_eqU r fs]
    exact q
theorem call_len_seq : CallR X (.builtin "len") (fun xs H Q => ∃ p ys, xs = [.ref p] ∧ (SqL X.K H p ys ∨ SqT X.K H p ys) ∧ Q (.int ys.length) H) := by
  intro pins s σ H xs us Q I r h
  obtain ⟨p, ys, rfl, hq, q⟩ := h
  obtain ⟨u, rfl, rx⟩ := vals1 r
  cases rx
  have hn := line63
  rcases hq with hq | hq
  · obtain ⟨its, r', pl, hz⟩ := I.list hq
    have hlen := r'.length
    exact Calls.call_len_list pl.isList (by simp only [List.size_toArray] <;> omega) ⟨.int ys.length, H, I.tok _, ⟨s.toks + 1, by rw [List.size_toArray, hlen]⟩, q⟩
  · obtain ⟨its, r', pl, hz⟩ := I.tuple hq
    have hlen := r'.length
    exact len_tuple pl (by simp only [List.size_toArray] <;> omega) ⟨.int ys.length, H, I.tok _, ⟨s.toks + 1, by rw [List.size_toArray, hlen]⟩, q⟩
theorem call_tuple_of : CallR X (.type "tuple") (fun xs H Q => ∃ p ys, xs = [.ref p] ∧ ((SqL X.K H p ys ∧ ∀ l, H l = none → Q (.ref l) (upd H l (.tup ys))) ∨ (SqT X.K H p ys ∧ Q (.ref p) H))) := by
  intro pins s σ H xs us Q I r h
  obtain ⟨p, ys, rfl, h⟩ := h
  obtain ⟨u, rfl, rx⟩ := vals1 r
  cases rx
  rcases h with ⟨hq, q⟩ | ⟨hq, q⟩
  · obtain ⟨its, r', pl, hz⟩ := I.list hq
    have hlen := r'.length
    refine call_tuple_list pl.isList (fun h' kp => ?_) (by simp only [List.size_toArray] <;> omega)
    have I1 : Inv X pins σ H { s with heap := h' } := I.kept (t' := s.toks) kp
    have I2 : Inv X pins σ (upd H h'.objs.size (.tup ys)) { s with heap := h'.push { cls := .type "tuple", data := .seq its.toArray } } :=
      I1.laid (t' := s.toks) (fun b o e => Heap.get?_push_of_some _ e) (Nat.le_refl _) (show ObjOk X.prog X.w _ _ _ (.tup ys) from ⟨hz, its, r', IsTup.new _ _⟩)
    exact ⟨.ref h'.objs.size, _, I2, rfl, q _ (I1.hok.fresh (Nat.le_refl _))⟩
  · obtain ⟨its, r', pl, hz⟩ := I.tuple hq
    exact call_tuple_same pl ⟨.ref p, H, I, rfl, q⟩
def tyV (K : PySem.W.Frag) (T : String) (x : V) (H : Hp) : Prop := match x with
  | .str _ => T = "str"
  | .int _ => T = "int"
  | .ref p => (T = "list" ∧ ∃ xs, SqL K H p xs) ∨ (T = "tuple" ∧ ∃ o, K.lookup p = some o ∧ o.cls = .type "tuple" ∧ o.dict = none) ∨
      (T = "dict" ∧ ((∃ kvs, H p = some (.dK kvs)) ∨ ∃ kvs, H p = some (.dT kvs))) ∨ (T = "set" ∧ ∃ S n, H p = some (.set S n))
  | _ => False
theorem tyV_is {pins : List (Addr × Obj)} {σ : St} {H : Hp} {s : Shared} {T : String} {x : V} {v : Value} (I : Inv X pins σ H s) (r : RelV x v) (ty : tyV X.K T x H) :
    s.TypeIs v T ∧ ∀ a, v = .ref a → ∃ ob, s.heap.get? a = some ob ∧ ob.dict = none := by
  cases x with
  | str z =>
    obtain ⟨t, rfl⟩ := r
    cases (show T = "str" from ty)
    exact ⟨typeIs_str s z t, fun _ e => nomatch e⟩
  | int i =>
    obtain ⟨t, rfl⟩ := r
    cases (show T = "int" from ty)
    exact ⟨typeIs_int s i t, fun _ e => nomatch e⟩
  | ref p =>
    cases r
    rcases ty with ⟨rfl, xs, hq⟩ | ⟨rfl, o, hk, hc, hd⟩ | ⟨rfl, hk⟩ | ⟨rfl, S, n, hk⟩
    · obtain ⟨its, _, pl, _⟩ := I.list hq
      refine ⟨pl.isList.typeIs, fun a e => ?_⟩
      cases e
      obtain ⟨o, n, e, c, hd, _⟩ := pl
      exact ⟨o, e, hd⟩
    · refine ⟨⟨o, I.kIn p o hk, hc⟩, fun a e => ?_⟩
      cases e
      exact ⟨o, I.kIn _ o hk, hd⟩
    · have z : ∃ o, s.heap.get? p = some o ∧ o.ExactDict := by
        rcases hk with ⟨kvs, hk⟩ | ⟨kvs, hk⟩
        · obtain ⟨_, _, _, _, o, _, _, e, ex, _⟩ := I.hok p _ hk
          exact ⟨o, e, ex⟩
        · obtain ⟨_, _, _, _, o, _, _, e, ex, _⟩ := I.hok p _ hk
          exact ⟨o, e, ex⟩
      obtain ⟨o, e, ex⟩ := z
      refine ⟨⟨o, e, ex.1⟩, fun a e2 => ?_⟩
      cases e2
      exact ⟨o, e, ex.2.1⟩
    · obtain ⟨o, _, _, _, e, ex, _⟩ := I.hok p _ hk
      refine ⟨⟨o, e, ex.1⟩, fun a e2 => ?_⟩
      cases e2
      exact ⟨o, e, ex.2.1⟩
  | _ => exact False.elim ty
def tBM0 (K : PySem.W.Frag) (T : String) (r : V → List V → Hp → VK → Prop) (to : TE) : TE := fun σ H Q => to σ H fun x H1 => tyV K T x H1 ∧ r x [] H1 Q
def tBM (K : PySem.W.Frag) (T : String) (r : V → List V → Hp → VK → Prop) (to : TE) (t : TA) : TE := fun σ H Q => to σ H fun x H1 => tyV K T x H1 ∧ t σ H1 fun xs H2 => r x xs H2 Q
variable {o e : Expr} {es : List Expr} {to : TE} {t : TA} {name : Str} {apos cpos : Pos} {T id : String} {r : V → List V → Hp → VK → Prop}
theorem pe_bm0 (pa : PlainAttrs T) (slot : Slot T name id) (hty : typeOf (.builtin id) = pure (.type "method_descriptor")) (hm : MtR X id r) (ho : PE X o to)
    (hbase : attributeBase o name X.env (eval o X.env) = eval o X.env := by rfl) (hline : (apos.endLine == cpos.line) = true := by rfl) : PE X (.Call (.Attribute o name apos) [] [] cpos) (tBM0 X.K T r to) := by
  intro pins s σ H Q I h
  refine wpAny_Call_method0_late hbase hline (thn (ho pins s σ H _ I h) fun v s1 ⟨x, H1, I1, r1, ty, q1⟩ => ?_)
  obtain ⟨h1, h2⟩ := tyV_is I1 r1 ty
  exact ⟨T, id, pa, slot, hty, h1, h2, Calls.callWith_builtin rfl (PySem.evalArgs_none (hm pins s1 σ H1 x [] v [] Q I1 r1 .nil q1))⟩
theorem pe_bm (pa : PlainAttrs T) (slot : Slot T name id) (hty : typeOf (.builtin id) = pure (.type "method_descriptor")) (hm : MtR X id r) (ho : PE X o to) (ha : PA X (e :: es) t)
    (hbase : attributeBase o name X.env (eval o X.env) = eval o X.env := by rfl)
    (hfew : ((backTo cpos (starEach (e :: es) X.env)).all (fun x => !x.1) && (backToKw cpos (keywordEach [] X.env)).all (fun x => x.1.isSome)
      && decide ((e :: es).length + ([] : List Keyword).length + (if ([] : List Keyword).isEmpty then 0 else 1) < 30)) = true := by rfl)
    (hline : (apos.endLine == cpos.line) = true := by rfl) (hs : starEach (e :: es) X.env = (false, eval e X.env) :: starEach es X.env := by rfl) (hplain : (backTo cpos (starEach es X.env)).any (·.1) = false := by rfl) :
    PE X (.Call (.Attribute o name apos) (e :: es) [] cpos) (tBM X.K T r to t) := by
  intro pins s σ H Q I h
  refine wpAny_Call_method_late hbase hfew hline rfl (thn (ho pins s σ H _ I h) fun v s1 ⟨x, H1, I1, r1, ty, q1⟩ => ?_)
  obtain ⟨h1, h2⟩ := tyV_is I1 r1 ty
  refine ⟨T, id, pa, slot, hty, h1, h2, ?_⟩
  have hA := ha cpos pins s1 σ H1 _ I1 q1
  rw [hs] at hA ⊢
  refine Calls.callWith_builtin (by show (false || (backTo cpos (starEach es X.env)).any (·.1)) = false; rw [hplain] <;> rfl) (Calls.evalArgs_plain ?_)
  exact thn hA fun us s2 ⟨vs, H2, I2, r2, q2⟩ => hm pins s2 σ H2 x vs v us Q I2 r1 r2 q2
end
end L2
namespace L2
open PySem PySem.Spec PyProof.Rows
def MtM (X : Cx) (id : String) (r : V → List V → Hp → VK → Prop) : Prop :=
  ∀ (pins : List (Addr × Obj)) (s : Shared) (σ : St) (H : Hp) (x : V) (xs : List V) (v : Value) (us : List Value) (Q : VK), Inv X pins σ H s → RelV x v → Vals xs us → r x xs H Q →
    wpAny (model X.prog X.w) X.A (call (.builtin id) (v :: us)) (EP X pins σ Q) X.xe s
theorem Vals.one : ∀ {x : V} {us : List Value}, Vals [x] us → ∃ u, us = [u] ∧ RelV x u
  | _, _, .cons r .nil => ⟨_, rfl, r⟩
theorem Vals.zero : ∀ {us : List Value}, Vals [] us → us = []
  | _, .nil => rfl
section
variable {X : Cx} {pins : List (Addr × Obj)} {σ : St} {H : Hp} {s : Shared} {l b : Addr} {xs ys zs : List V}
theorem Inv.lset {its its' : List Value} {n : Nat} {f : Array Value → Array Value} {t' : Nat} (I : Inv X pins σ H s) (hH : H l = some (.lst xs))
    (e : s.heap.get? l = some { cls := .type "list", data := .seq its.toArray n }) (hf : f its.toArray = its'.toArray) (hv : Vals ys its') (hz : ys.length ≤ sizeLine) :
    Inv X pins σ (upd H l (.lst ys)) { s with heap := s.heap.update l (Obj.mapSeq f), toks := t' } := by
  have q := PySem.IsL.update e f
  rw [hf] at q
  refine I.write (x := l) (e := l) (by rw [hH]; exact trivial) (.inl rfl) (fun b' u hb hu => (Heap.get?_update_other s.heap (Obj.mapSeq f) (Ne.symm hb)).trans hu) ⟨_, q⟩ ?_
  exact ⟨hz, its', _, hv, q⟩
theorem Inv.lnew {its : List Value} {t' : Nat} (I : Inv X pins σ H s) (hv : Vals ys its) (hz : ys.length ≤ sizeLine) :
    Inv X pins σ (upd H s.heap.objs.size (.lst ys)) { s with heap := s.heap.push { cls := .type "list", data := .seq its.toArray }, toks := t' } :=
  I.laid (fun _ _ q => Heap.get?_push_of_some _ q) (Nat.le_refl _) ⟨hz, its, 0, hv, Heap.get?_push_size _ rfl⟩
theorem Inv.fresh (I : Inv X pins σ H s) : H s.heap.objs.size = none := I.hok.fresh (Nat.le_refl _)
theorem Inv.lstM (I : Inv X pins σ H s) (hH : H l = some (.lst xs)) : xs.length ≤ sizeLine ∧ ∃ (its : List Value) (n : Nat), Vals xs its ∧ xs.length = its.length ∧ s.heap.get? l = some { cls := .type "list", data := .seq its.toArray n } := by
  obtain ⟨z, its, n, r, e⟩ := I.hok l _ hH
  exact ⟨z, its, n, r, r.length, e⟩
theorem notLongL {n : Nat} (h : n ≤ sizeLine) : Builtin.List.listTooLong n = false := by
  unfold Builtin.List.listTooLong
  exact decide_eq_false (by omega)
end
section
variable {X : Cx}
def rAppend : V → List V → Hp → VK → Prop := fun x vs H Q => ∃ l xs y, x = .ref l ∧ vs = [y] ∧ H l = some (.lst xs) ∧ xs.length < sizeLine ∧ Q .non (upd H l (.lst (xs ++ [y])))
theorem mt_append : MtM X "list.append" rAppend := by
  intro pins s σ H x vs v us Q I rx rv h
  obtain ⟨l, xs, y, rfl, rfl, hH, hz, q⟩ := h
  cases rx
  obtain ⟨u, rfl, ru⟩ := rv.one
  obtain ⟨z, its, n, r, hl, e⟩ := I.lstM hH
  refine call_meets F.slot_list_append ⟨_, e, rfl⟩ F.entry_list_append (F.args_list_append_2 _ _) (PySem.list_append l its.toArray n u (by rw [List.size_toArray]; omega)) ⟨e, ?_⟩
  refine ⟨.non, _, I.lset (its' := its ++ [u]) hH e (by simp) (r.append (.cons ru .nil)) ?_, rfl, q⟩
  rw [List.length_append, List.length_singleton]
  omega
def rExtend : V → List V → Hp → VK → Prop := fun x vs H Q => ∃ l b xs zs, x = .ref l ∧ vs = [.ref b] ∧ H l = some (.lst xs) ∧ H b = some (.lst zs) ∧ xs.length + zs.length ≤ sizeLine ∧ Q .non (upd H l (.lst (xs ++ zs)))
theorem mt_extend : MtM X "list.extend" rExtend := by
  intro pins s σ H x vs v us Q I rx rv h
  obtain ⟨l, b, xs, zs, rfl, rfl, hH, hB, hz, q⟩ := h
  cases rx
  obtain ⟨u, rfl, ru⟩ := rv.one
  cases ru
  obtain ⟨z, its, n, r, hl, e⟩ := I.lstM hH
  obtain ⟨z2, its2, n2, r2, hl2, e2⟩ := I.lstM hB
  have hsz : its.toArray.size + its2.toArray.size ≤ sizeLine := by rw [List.size_toArray, List.size_toArray]; omega
  have hlong : ¬ (!its.toArray.isEmpty && Builtin.List.listTooLong (its.toArray.size + its2.toArray.size)) = true := by
    rw [notLongL hsz, Bool.and_false]
    exact Bool.false_ne_true
  refine call_meets F.slot_list_extend ⟨_, e, rfl⟩ F.entry_list_extend (F.args_list_extend_2 _ _)
    (AutoSeq1.list_extend_list_list_0 l its.toArray n b its2.toArray n2 hlong (by rw [List.size_toArray]; omega) (by omega)) ⟨e, e2, ?_⟩
  refine ⟨.non, _, I.lset (its' := its ++ its2) hH e (by simp) (r.append r2) ?_, rfl, q⟩
  rw [List.length_append]
  omega
def rPop : V → List V → Hp → VK → Prop := fun x vs H Q => ∃ l xs y, x = .ref l ∧ vs = [] ∧ H l = some (.lst xs) ∧ xs[xs.length - 1]? = some y ∧ Q y (upd H l (.lst xs.dropLast))
def rPopAt : V → List V → Hp → VK → Prop := fun x vs H Q => ∃ l xs i k y, x = .ref l ∧ vs = [.int i] ∧ H l = some (.lst xs) ∧ -(2 ^ 63) ≤ i ∧ i < 2 ^ 63 ∧ seqIndex? i xs.length = some k ∧ xs[k]? = some y ∧ Q y (upd H l (.lst (xs.eraseIdx k)))
def rReverse : V → List V → Hp → VK → Prop := fun x vs H Q => ∃ l xs, x = .ref l ∧ vs = [] ∧ H l = some (.lst xs) ∧ Q .non (upd H l (.lst xs.reverse))
def rClear : V → List V → Hp → VK → Prop := fun x vs H Q => ∃ l xs, x = .ref l ∧ vs = [] ∧ H l = some (.lst xs) ∧ Q .non (upd H l (.lst []))
def rCat : R2 := fun x y H Q => ∃ l b xs zs, x = .ref l ∧ y = .ref b ∧ H l = some (.lst xs) ∧ H b = some (.lst zs) ∧ xs.length + zs.length ≤ sizeLine ∧ ∀ p, H p = none → Q (.ref p) (upd H p (.lst (xs ++ zs)))
def rRep : R2 := fun x y H Q => ∃ l k xs, x = .ref l ∧ y = .int k ∧ H l = some (.lst xs) ∧ -(2 ^ 63) ≤ k ∧ k < 2 ^ 63 ∧ xs.length * k.toNat ≤ sizeLine ∧
  ∀ p, H p = none → Q (.ref p) (upd H p (.lst (List.replicate k.toNat xs).flatten))
end
section
variable {prog : Program} {w : World} {A : Around} {E : Value → Shared → Prop} {s : Shared}
set_option maxRecDepth 100000 in
end
section
variable {X : Cx}
end
end L2
namespace L2
open PySem PySem.Spec PyProof.Rows
section
variable {κ : Type} [DecidableEq κ]
def valV (kvs : List (κ × V)) (k : κ) : Option V := (kvs.find? fun kv => decide (kv.1 = k)).map (·.2)
def putK (kvs : List (κ × V)) (k : κ) (v : V) : List (κ × V) :=
  if (kvs.any fun kv => decide (kv.1 = k)) = true then kvs.map (fun kv => if kv.1 = k then (kv.1, v) else kv) else kvs ++ [(k, v)]
def dropK (kvs : List (κ × V)) (k : κ) : List (κ × V) := kvs.filter fun kv => decide (kv.1 ≠ k)
theorem valV_pos {p : κ × V} {r : List (κ × V)} {k : κ} (e : p.1 = k) : valV (p :: r) k = some p.2 := by simp [valV, List.find?_cons, e]
theorem valV_neg {p : κ × V} {r : List (κ × V)} {k : κ} (e : ¬ p.1 = k) : valV (p :: r) k = valV r k := by simp [valV, List.find?_cons, e]
theorem valV_any (k : κ) : ∀ kvs : List (κ × V), (kvs.any fun kv => decide (kv.1 = k)) = (valV kvs k).isSome
  | [] => rfl
  | p :: r => by
    rw [List.any_cons]
    by_cases e : p.1 = k
    · simp only [valV_pos e, decide_eq_true e, Bool.true_or, Option.isSome_some]
    · rw [valV_neg e, decide_eq_false e, Bool.false_or]; exact valV_any k r
theorem valV_map (k j : κ) (y : V) : ∀ kvs : List (κ × V), valV (kvs.map fun kv => if kv.1 = k then (kv.1, y) else kv) j = (valV kvs j).map fun x => if j = k then y else x
  | [] => rfl
  | p :: r => by
    have ih := valV_map k j y r
    rw [List.map_cons]
    by_cases h : p.1 = k
    · rw [if_pos h]
      by_cases e : p.1 = j
      · rw [valV_pos (p := (p.1, y)) e, valV_pos e, Option.map_some, if_pos (e.symm.trans h)]
      · rw [valV_neg (p := (p.1, y)) e, valV_neg e, ih]
    · rw [if_neg h]
      by_cases e : p.1 = j
      · rw [valV_pos (p := p) e, valV_pos e, Option.map_some, if_neg (fun z => h (e.trans z))]
      · rw [valV_neg (p := p) e, valV_neg e, ih]
theorem valV_snoc (k j : κ) (y : V) : ∀ kvs : List (κ × V), valV kvs k = none → valV (kvs ++ [(k, y)]) j = if j = k then some y else valV kvs j
  | [], _ => by
    by_cases e : k = j
    · rw [if_pos e.symm]; exact valV_pos (p := (k, y)) e
    · rw [if_neg (fun z => e z.symm)]; exact valV_neg (p := (k, y)) e
  | p :: r, hn => by
    rw [List.cons_append]
    have hk : ¬ p.1 = k := fun z => by rw [valV_pos z] at hn; cases hn
    rw [valV_neg hk] at hn
    have ih := valV_snoc k j y r hn
    by_cases e : p.1 = j
    · rw [valV_pos e, valV_pos e, if_neg (fun z => hk (e.trans z))]
    · rw [valV_neg e, valV_neg e, ih]
theorem valV_put (kvs : List (κ × V)) (k j : κ) (y : V) : valV (putK kvs k y) j = if j = k then some y else valV kvs j := by
  unfold putK
  by_cases a : (kvs.any fun kv => decide (kv.1 = k)) = true
  · rw [if_pos a, valV_map]
    rw [valV_any] at a
    by_cases e : j = k
    · obtain ⟨x, hx⟩ := Option.isSome_iff_exists.mp a
      rw [if_pos e, e, hx, Option.map_some, if_pos rfl]
    · rw [if_neg e]
      cases valV kvs j with
      | none => rfl
      | some x => rw [Option.map_some, if_neg e]
  · rw [if_neg a]
    refine valV_snoc k j y kvs ?_
    rw [valV_any] at a
    cases q : valV kvs k with
    | none => rfl
    | some x => rw [q] at a; exact (a rfl).elim
theorem length_putK (kvs : List (κ × V)) (k : κ) (v : V) : (putK kvs k v).length ≤ kvs.length + 1 := by
  unfold putK
  split
  · rw [List.length_map]; omega
  · rw [List.length_append, List.length_cons, List.length_nil]; omega
theorem RelO.isSome_eq {o : Option V} {u : Option Value} (r : RelO o u) : o.isSome = u.isSome := by
  cases o with
  | none => cases u with
    | none => rfl
    | some _ => exact (show False from r).elim
  | some _ => cases u with
    | none => exact (show False from r).elim
    | some _ => rfl
theorem RelO.getD {o : Option V} {u : Option Value} {d : V} {d' : Value} (r : RelO o u) (rd : RelV d d') : RelV (o.getD d) (u.getD d') := by
  cases o with
  | none => cases u with
    | none => exact rd
    | some _ => exact (show False from r).elim
  | some _ => cases u with
    | none => exact (show False from r).elim
    | some _ => exact r
theorem KV.val {kvs : List (κ × V)} {vs : List (κ × Value)} (r : KV kvs vs) (k : κ) : RelO (valV kvs k) (valueAt vs k) := by
  unfold KV at r
  induction r with
  | nil => exact True.intro
  | @cons p q ps qs h t ih =>
    obtain ⟨h1, h2⟩ := h
    by_cases e : p.1 = k
    · have e' : q.1 = k := h1.symm.trans e
      have b : valueAt (q :: qs) k = some q.2 := by simp [valueAt, List.find?_cons, e']
      rw [valV_pos e, b]; exact h2
    · have e' : ¬ q.1 = k := fun z => e (h1.trans z)
      have b : valueAt (q :: qs) k = valueAt qs k := by simp [valueAt, List.find?_cons, e']
      rw [valV_neg e, b]; exact ih
theorem KV.any {kvs : List (κ × V)} {vs : List (κ × Value)} (r : KV kvs vs) (k : κ) : (kvs.any fun kv => decide (kv.1 = k)) = vs.any fun kv => decide (kv.1 = k) := by
  unfold KV at r
  induction r with
  | nil => rfl
  | cons h t ih => rw [List.any_cons, List.any_cons, ih, h.1]
theorem KV.repl {kvs : List (κ × V)} {vs : List (κ × Value)} (r : KV kvs vs) (k : κ) {y : V} {u : Value} (ry : RelV y u) :
    KV (kvs.map fun kv => if kv.1 = k then (kv.1, y) else kv) (vs.map fun kv => if kv.1 = k then (kv.1, u) else kv) := by
  unfold KV at r ⊢
  induction r with
  | nil => exact .nil
  | @cons p q ps qs h t ih =>
    rw [List.map_cons, List.map_cons]
    refine .cons ?_ ih
    obtain ⟨h1, h2⟩ := h
    by_cases e : p.1 = k
    · rw [if_pos e, if_pos (h1.symm.trans e)]; exact ⟨h1, ry⟩
    · rw [if_neg e, if_neg (fun z => e (h1.trans z))]; exact ⟨h1, h2⟩
theorem KV.put {kvs : List (κ × V)} {vs : List (κ × Value)} (r : KV kvs vs) (k : κ) {y : V} {u : Value} (ry : RelV y u) : KV (putK kvs k y) (stored vs k u) := by
  unfold putK stored
  rw [r.any k]
  by_cases e : (vs.any fun kv => decide (kv.1 = k)) = true
  · rw [if_pos e, if_pos e]; exact r.repl k ry
  · rw [if_neg e, if_neg e]; exact Paired.snoc r ⟨rfl, ry⟩
theorem KV.length {kvs : List (κ × V)} {vs : List (κ × Value)} (r : KV kvs vs) : kvs.length = vs.length := Paired.length r
end
theorem kV_is {P : Program} {w : World} {k : Key} {u : Value} (r : RelV (kV k) u) : (mixKind P w).is k u = true := by
  cases k with
  | inl i => obtain ⟨t, e⟩ := (show ∃ t, u = Value.int i t from r); subst e; exact mixKind_int P w i t
  | inr x => obtain ⟨t, e⟩ := (show ∃ t, u = Value.str x t from r); subst e; exact mixKind_str P w x t
theorem items_are {P : Program} {w : World} : ∀ {ks : List Key} {us : List Value}, Vals (ks.map kV) us → ItemsAre (mixKind P w) ks us
  | [], _, r => by rw [List.map_nil] at r; cases r; exact .nil
  | k :: ks, _, r => by
    rw [List.map_cons] at r
    cases r with
    | cons h t => exact .cons (kV_is h) (items_are t)
abbrev KT (H : Hp) : List (List Key × V) → List (List Key × Addr × Value) → Prop := Paired fun p q => p.1 = q.1 ∧ H q.2.1 = some (.tup (p.1.map kV)) ∧ RelV p.2 q.2.2
theorem KT.val {H : Hp} {kvs : List (List Key × V)} {xs : List (List Key × Addr × Value)} (r : KT H kvs xs) (k : List Key) : RelO (valV kvs k) ((atKey xs k).map (·.2)) := by
  induction r with
  | nil => exact True.intro
  | @cons p q ps qs h t ih =>
    obtain ⟨h1, _, h2⟩ := h
    by_cases e : p.1 = k
    · have e' : q.1 = k := h1.symm.trans e
      have b : atKey (q :: qs) k = some q.2 := by simp [atKey, List.find?_cons, e']
      rw [valV_pos e, b]; exact h2
    · have e' : ¬ q.1 = k := fun z => e (h1.trans z)
      have b : atKey (q :: qs) k = atKey qs k := by simp [atKey, List.find?_cons, e']
      rw [valV_neg e, b]; exact ih
theorem KT.repl {H : Hp} {kvs : List (List Key × V)} {xs : List (List Key × Addr × Value)} (r : KT H kvs xs) (k : List Key) {y : V} {u : Value} (ry : RelV y u) :
    KT H (kvs.map fun kv => if kv.1 = k then (kv.1, y) else kv) (xs.map (putAt k u)) := by
  induction r with
  | nil => exact .nil
  | @cons p q ps qs h t ih =>
    rw [List.map_cons, List.map_cons]
    refine .cons ?_ ih
    obtain ⟨h1, h2, h3⟩ := h
    unfold putAt
    by_cases e : p.1 = k
    · rw [if_pos e, if_pos (h1.symm.trans e)]; exact ⟨h1, h2, ry⟩
    · rw [if_neg e, if_neg (fun z => e (h1.trans z))]; exact ⟨h1, h2, h3⟩
theorem KT.put {H : Hp} {kvs : List (List Key × V)} {xs : List (List Key × Addr × Value)} (r : KT H kvs xs) (k : List Key) {b : Addr} {y : V} {u : Value} (hb : H b = some (.tup (k.map kV))) (ry : RelV y u) :
    KT H (putK kvs k y) (storedH xs k b u) := by
  have e : (kvs.any fun kv => decide (kv.1 = k)) = (atKey xs k).isSome := by
    rw [valV_any, (r.val k).isSome_eq, Option.isSome_map]
  unfold putK storedH
  rw [e]
  by_cases q : (atKey xs k).isSome = true
  · rw [if_pos q, if_pos q]; exact r.repl k ry
  · rw [if_neg q, if_neg q]; exact Paired.snoc r ⟨rfl, hb, ry⟩
theorem KT.keeps {H H' : Hp} {kvs : List (List Key × V)} {xs : List (List Key × Addr × Value)} (r : KT H kvs xs) (ht : ∀ b ys, H b = some (.tup ys) → H' b = some (.tup ys)) : KT H' kvs xs :=
  Paired.mapP r fun _ _ z => ⟨z.1, ht _ _ z.2.1, z.2.2⟩
section
variable {P : Program} {w : World} {H : Hp} {h : Heap} {a : Addr}
theorem rd_of {u : HO} (ok : HOk P w H h) (e : Rd H a u) : ObjOk P w H h a u := e.ok ok
theorem dk_rd {kvs : List (Key × V)} (ok : HOk P w H h) (e : Rd H a (.dK kvs)) : kvs.length ≤ sizeLine ∧ (a == sysModules) = false ∧ ∃ vs, KV kvs vs ∧ h.DictOf (mixKind P w) a vs :=
  show ObjOk P w H h a (.dK kvs) from rd_of ok e
theorem dk_of {kvs : List (Key × V)} (ok : HOk P w H h) (e : H a = some (.dK kvs)) : kvs.length ≤ sizeLine ∧ (a == sysModules) = false ∧ ∃ vs, KV kvs vs ∧ h.DictOf (mixKind P w) a vs := dk_rd ok (.inl e)
theorem key_of {ks : List Key} (ok : HOk P w H h) (e : H a = some (.tup (ks.map kV))) : (tupleKind (mixKind P w)).is h ks a := by
  obtain ⟨_, its, r, o, h1, h2, n, h3⟩ := (show ObjOk P w H h a (.tup (ks.map kV)) from ok a _ e)
  exact ⟨o, its.toArray, n, h1, h2, h3, by simpa using items_are r⟩
theorem dt_rd {kvs : List (List Key × V)} (ok : HOk P w H h) (e : Rd H a (.dT kvs)) : kvs.length ≤ sizeLine ∧ (a == sysModules) = false ∧
    ∃ xs, KT H kvs xs ∧ h.DictOfH (tupleKind (mixKind P w)) a xs := by
  obtain ⟨z, y, xs, r, o, es, ep, h1, h2, h3, h4, h5⟩ := (show ObjOk P w H h a (.dT kvs) from rd_of ok e)
  refine ⟨z, y, xs, r, o, es, ep, h1, h2, h3, h4, fun x hx => ?_, h5⟩
  have all : ∀ {l : List (List Key × V)} {m : List (List Key × Addr × Value)}, KT H l m → ∀ x ∈ m, (tupleKind (mixKind P w)).is h x.1 x.2.1 := by
    intro l m q
    induction q with
    | nil => intro x hx; exact nomatch hx
    | @cons p q ps qs hq t ih =>
      intro x hx
      rcases List.mem_cons.mp hx with e | hx
      · subst e
        exact key_of ok (by rw [← hq.1]; exact hq.2.1)
      · exact ih x hx
  exact all r x hx
theorem dt_of {kvs : List (List Key × V)} (ok : HOk P w H h) (e : H a = some (.dT kvs)) : kvs.length ≤ sizeLine ∧ (a == sysModules) = false ∧
    ∃ xs, KT H kvs xs ∧ h.DictOfH (tupleKind (mixKind P w)) a xs := dt_rd ok (.inl e)
end
def DGet (H : Hp) (a : Addr) (y : V) (r : Option V) : Prop :=
  (∃ kvs k, Rd H a (.dK kvs) ∧ y = kV k ∧ r = valV kvs k) ∨ ∃ kvs k b, Rd H a (.dT kvs) ∧ y = .ref b ∧ H b = some (.tup (k.map kV)) ∧ r = valV kvs k
def DPut (H : Hp) (a : Addr) (y v : V) (H' : Hp) : Prop :=
  (∃ kvs k, H a = some (.dK kvs) ∧ y = kV k ∧ kvs.length < sizeLine ∧ H' = upd H a (.dK (putK kvs k v))) ∨
  ∃ kvs k b, H a = some (.dT kvs) ∧ y = .ref b ∧ H b = some (.tup (k.map kV)) ∧ kvs.length < sizeLine ∧ H' = upd H a (.dT (putK kvs k v))
theorem DPut.k {H : Hp} {a : Addr} {kvs : List (Key × V)} {k : Key} {v : V} (e : H a = some (.dK kvs)) (hl : kvs.length < sizeLine) : DPut H a (kV k) v (upd H a (.dK (putK kvs k v))) := .inl ⟨kvs, k, e, rfl, hl, rfl⟩
section
variable {X : Cx} {pins : List (Addr × Obj)} {σ : St} {H : Hp} {s : Shared} {a : Addr} {y v : V} {u r : Value} {o : Option V} {A : Around} {E : Value → Shared → Prop}
theorem Inv.big (I : Inv X pins σ H s) : sysModules < s.heap.objs.size := by
  have h : mainGlobals < s.heap.objs.size := (I.mod.glob.keeps I.bk).lt
  exact Nat.lt_trans (by decide) h
theorem d_getItem {Q : Value → Shared → Prop} (hu : A.units + 1 < cLine) (I : Inv X pins σ H s) (g : DGet H a y (some v)) (ry : RelV y u) (h : ∀ w' s', Inv X pins σ H s' → RelV v w' → Q w' s') :
    wpAny (model X.prog X.w) A (getItem (.ref a) u) Q E s := by
  rcases g with ⟨kvs, k, e, ey, l⟩ | ⟨kvs, k, b, e, ey, eb, l⟩
  · subst ey
    obtain ⟨z, hd, vs, rel, dd⟩ := dk_rd I.hok e
    obtain ⟨w', hw, rw'⟩ := RelO.some_of (v := v) (o := valueAt vs k) (by rw [l]; exact rel.val k)
    exact wpAny_getItem_of (kV_is ry) dd.mapOf hw (h w' _ (I.tok _) rw')
  · subst ey
    cases (show u = Value.ref b from ry)
    obtain ⟨z, hd, xs, rel, dd⟩ := dt_rd I.hok e
    obtain ⟨w', hw, rw'⟩ := RelO.some_of (v := v) (o := (atKey xs k).map (·.2)) (by rw [l]; exact rel.val k)
    obtain ⟨p, hp, hp2⟩ := Option.map_eq_some_iff.mp hw
    refine wpAny_getItem_heap (tupleKind_room_in1 hu) (key_of I.hok eb) dd hp ?_
    rw [hp2]
    exact h w' _ (I.tok _) rw'
theorem d_notIn {Q : Value → Shared → Prop} (hu : A.units + 1 < cLine) (I : Inv X pins σ H s) (g : DGet H a y o) (ry : RelV y u) (h : ∀ s', Inv X pins σ H s' → Q (.bool (!o.isSome)) s') :
    wpAny (model X.prog X.w) A (compareOp .NotIn u (.ref a)) Q E s := by
  rcases g with ⟨kvs, k, e, ey, l⟩ | ⟨kvs, k, b, e, ey, eb, l⟩
  · subst ey
    obtain ⟨z, hd, vs, rel, dd⟩ := dk_rd I.hok e
    refine wpAny_notIn_of (kV_is ry) hd dd.mapOf ?_
    rw [← (rel.val k).isSome_eq, ← l]
    exact h _ (I.tok _)
  · subst ey
    cases (show u = Value.ref b from ry)
    obtain ⟨z, hd, xs, rel, dd⟩ := dt_rd I.hok e
    refine wpAny_notIn_heap (tupleKind_room_in1 hu) (key_of I.hok eb) hd dd ?_
    have q := (rel.val k).isSome_eq
    rw [Option.isSome_map] at q
    rw [← q, ← l]
    exact h _ (I.tok _)
theorem d_write {h' : Heap} {t' : Nat} {ob : HO} (I : Inv X pins σ H s) (mu : Mut (H a)) (hs : Heap.SameBut a s.heap h') (he : ∃ q, h'.get? a = some q) (new : ObjOk X.prog X.w (upd H a ob) h' a ob) :
    Inv X pins σ (upd H a ob) { s with heap := h', toks := t' } :=
  I.write (x := a) (e := a) mu (.inl rfl) (fun b q hb z => (hs.2 b hb).trans z) he new
theorem dk_new {P : Program} {w : World} {H' : Hp} {h' : Heap} {kvs : List (Key × V)} {vs : List (Key × Value)} (z : kvs.length ≤ sizeLine) (hd : (a == sysModules) = false) (rel : KV kvs vs) (dd : h'.DictOf (mixKind P w) a vs) :
    ObjOk P w H' h' a (.dK kvs) := ⟨z, hd, vs, rel, dd⟩
theorem d_setItem {H' : Hp} {Q : Unit → Shared → Prop} (hu : A.units + 1 < cLine) (I : Inv X pins σ H s) (g : DPut H a y v H') (ry : RelV y u) (rv : RelV v r) (h : ∀ s', Inv X pins σ H' s' → Q () s') :
    wpAny (model X.prog X.w) A (setItem (.ref a) u r) Q E s := by
  rcases g with ⟨kvs, k, e, ey, l, eH⟩ | ⟨kvs, k, b, e, ey, eb, l, eH⟩
  · subst ey eH
    obtain ⟨z, hd, vs, rel, dd⟩ := dk_of I.hok e
    have hz : vs.length ≤ sizeLine := by rw [← rel.length]; exact z
    have hl : (putK kvs k v).length ≤ sizeLine := by have := length_putK kvs k v; omega
    refine wpAny_setItem_pairs (hsz := hz) (kV_is ry) dd fun h' dd' hs => h _ ?_
    have he : ∃ q, h'.get? a = some q := let ⟨q, _, _, hq, _⟩ := dd'; ⟨q, hq⟩
    exact d_write I (by rw [e]; exact True.intro) hs he (dk_new hl hd (rel.put k rv) dd')
  · subst ey eH
    cases (show u = Value.ref b from ry)
    obtain ⟨z, hd, xs, rel, dd⟩ := dt_of I.hok e
    have hz : xs.length ≤ sizeLine := by rw [← Paired.length rel]; exact z
    have hl : (putK kvs k v).length ≤ sizeLine := by have := length_putK kvs k v; omega
    refine wpAny_setItem_heap (hsz := hz) (tupleKind_room_in1 hu) (key_of I.hok eb) dd fun h' dd' hs => h _ ?_
    obtain ⟨q, es, ep, hq, h2, h3, h4, _, h5⟩ := dd'
    refine d_write I (by rw [e]; exact True.intro) hs ⟨q, hq⟩ ⟨hl, hd, _, (rel.put k eb rv).keeps fun c ys ec => ?_, q, es, ep, hq, h2, h3, h4, h5⟩
    rw [upd_ne (ne_of ec e (fun z => nomatch z))]
    exact ec
end
section
variable {X : Cx} {pins : List (Addr × Obj)} {σ : St} {H : Hp} {s : Shared} {a : Addr} {kvs : List (Key × V)} {k : Key} {u : Value} {A : Around} {E : Value → Shared → Prop}
theorem d_clear {Q : Value → Shared → Prop} (I : Inv X pins σ H s) (e : H a = some (.dK kvs)) (h : ∀ s', Inv X pins σ (upd H a (.dK [])) s' → Q .none s') : wpAny (model X.prog X.w) A (call (.builtin "dict.clear") [.ref a]) Q E s := by
  obtain ⟨z, hd, vs, rel, dd⟩ := dk_of I.hok e
  refine call_meetsIn PySem.F.slot_dict_clear dd.typeIs PySem.F.entry_dict_clear (PySem.F.args_dict_clear_1 _) (meets_dict_clear (mixKind X.prog X.w) a) ⟨vs, dd, by rw [← rel.length]; exact z, fun h' dd' hs => h _ ?_⟩
  have he : ∃ q, h'.get? a = some q := let ⟨q, _, _, hq, _⟩ := dd'; ⟨q, hq⟩
  exact d_write (t' := s.toks) I (by rw [e]; exact True.intro) hs he (dk_new (Nat.zero_le _) hd .nil dd')
theorem d_len {Q : Value → Shared → Prop} (I : Inv X pins σ H s) (e : Rd H a (.dK kvs)) (h : ∀ t s', Inv X pins σ H s' → Q (.int kvs.length t) s') : wpAny (model X.prog X.w) A (call (.builtin "len") [.ref a]) Q E s := by
  obtain ⟨z, hd, vs, rel, dd⟩ := dk_rd I.hok e
  refine call_len_dict hd dd (by rw [← rel.length]; rw [sizeLine_eq] at z; omega) ?_
  rw [← rel.length]
  exact h _ _ (I.tok _)
end
def NoSl (i : Expr) : Prop := ∀ ov iv, subscripted i false ov iv = operate [ov, iv] (getItem ov iv)
theorem subD_of {prog : Program} {w : World} {A : Around} {E : Value → Shared → Prop} {s : Shared} {env : Env} {value slice : Expr} {pos : Pos} {T id : String} {Q : Value → Shared → Prop}
    (hl : typeLookup (.type T) "__getitem__" = pure (some (.builtin id))) (hs : NoSl slice)
    (h : wpAny (model prog w) A (eval value env) (fun o s₁ => wpAny (model prog w) A (eval slice env) (fun i s₂ => s₂.TypeIs o T ∧ wpAny (model prog w) A (getItem o i) Q E s₂) E s₁) E s) :
    wpAny (model prog w) A (eval (.Subscript value slice pos) env) Q E s := by
  refine Subscript_ (wpAny_mono h (fun o s₁ h₁ => wpAny_mono h₁ (fun i s₂ h₂ => ?_) fun _ _ x => x) fun _ _ x => x)
  obtain ⟨hT, h₂⟩ := h₂
  unfold subscriptTail
  refine wpAny_bind ?_
  rw [getitemInPython_of_ne hT.not_modules]
  refine wpAny_bind (wpAny_specialOf hT hl ?_)
  have fin : wpAny (model prog w) A (subscripted slice false o i) (fun r s₃ => wpAny (model prog w) A (letTemporaryGo value o r >>= fun _ => pure r) Q E s₃) E s₂ := by
    rw [hs o i]
    exact wpAny_operating (wpAny_mono h₂ (fun r s₃ h₃ => wpAny_bind (wpAny_letTemporaryGo (wpAny_pure h₃))) fun _ _ x => x)
  first
    | exact wpAny_pure (wpAny_bind fin)
    | exact wpAny_bind (wpAny_pure (wpAny_bind fin))
    | exact wpAny_bind fin
theorem dict_typeIs {X : Cx} {pins : List (Addr × Obj)} {σ : St} {H : Hp} {s : Shared} {a : Addr} {y : V} {o : Option V} (I : Inv X pins σ H s) (g : DGet H a y o) : s.TypeIs (.ref a) "dict" := by
  rcases g with ⟨kvs, k, e, _, _⟩ | ⟨kvs, k, b, e, _, _, _⟩
  · obtain ⟨_, _, vs, _, dd⟩ := dk_rd I.hok e
    exact dd.typeIs
  · obtain ⟨_, _, xs, _, dd⟩ := dt_rd I.hok e
    exact dd.typeIs
def tDGet (td ty : TE) : TE := fun σ H Q => td σ H fun x H1 => ty σ H1 fun y H2 => ∃ a v, x = .ref a ∧ DGet H2 a y (some v) ∧ Q v H2
def tDIn (ty td : TE) : TE := fun σ H Q => ty σ H fun y H1 => td σ H1 fun x H2 => ∃ a o, x = .ref a ∧ DGet H2 a y o ∧ Q (.bl o.isSome) H2
def tDNotIn (ty td : TE) : TE := fun σ H Q => ty σ H fun y H1 => td σ H1 fun x H2 => ∃ a o, x = .ref a ∧ DGet H2 a y o ∧ Q (.bl (!o.isSome)) H2
def sDPut (td ty tv : TE) : TS := fun D σ H => tv σ H fun v H1 => td σ H1 fun x H2 => ty σ H2 fun y H3 => ∃ a H4, x = .ref a ∧ DPut H3 a y v H4 ∧ D.nx σ H4
def sDAug (td ty tv : TE) (rd : V → V → Hp → VK → Prop) : TS := fun D σ H => td σ H fun x H1 => ty σ H1 fun y H2 => ∃ a v, x = .ref a ∧ DGet H2 a y (some v) ∧
  tv σ H2 fun y2 H3 => rd v y2 H3 fun z H4 => ∃ H5, DPut H4 a y z H5 ∧ D.nx σ H5
def sDDel (td ty : TE) : TS := fun D σ H => td σ H fun x H1 => ty σ H1 fun y H2 => ∃ a kvs k, x = .ref a ∧ H2 a = some (.dK kvs) ∧ y = kV k ∧ (valV kvs k).isSome = true ∧ D.nx σ (upd H2 a (.dK (dropK kvs k)))
section
variable {X : Cx} {o i e value : Expr} {pos pos' tpos : Pos} {td ty tv : TE}
theorem pe_dget (hu : X.A.units + 1 < cLine) (ho : PE X o td) (hi : PE X i ty) (hs : NoSl i) : PE X (.Subscript o i pos) (tDGet td ty) := by
  intro pins s σ H Q I h
  refine subD_of PySem.F.slot_dict_getitem.lookup hs (thn (ho pins s σ H _ I h) fun u s1 ⟨x, H1, I1, rx, q1⟩ => thn (hi pins s1 σ H1 _ I1 q1) fun iv s2 ⟨y, H2, I2, ry, a, v, ex, g, q2⟩ => ?_)
  subst ex
  obtain rfl : u = Value.ref a := rx
  exact ⟨dict_typeIs I2 g, d_getItem hu I2 g ry fun w' s3 I3 rw' => ⟨v, H2, I3, rw', q2⟩⟩
theorem ps_dput (hu : X.A.units + 1 < cLine) (ho : PE X o td) (hi : PE X i ty) (hv : PE X value tv) (hs : swapsWith value (some (.Subscript o i pos')) pos.line X.env = pure false) :
    PS X (.Assign [.Subscript o i pos'] value pos) (sDPut td ty tv) := by
  intro pins s σ H D I h
  refine wpAny_Assign_Subscript (thn (hv pins s σ H _ I h) fun r s1 ⟨v, H1, I1, rv, q1⟩ => thn (ho pins s1 σ H1 _ I1 q1) fun u s2 ⟨x, H2, I2, rx, q2⟩ => thn (hi pins s2 σ H2 _ I2 q2) fun iv s3 ⟨y, H3, I3, ry, a, H4, ex, g, q3⟩ => ?_) hs
  subst ex
  obtain rfl : u = Value.ref a := rx
  exact d_setItem hu I3 g ry rv fun s4 I4 => ⟨σ, H4, I4, q3⟩
end
theorem dk_empty {P : Program} {w : World} {H : Hp} (h : Heap) (hb : sysModules < h.objs.size) : ObjOk P w H (h.push { cls := .type "dict", data := .dict #[] }) h.objs.size (.dK []) :=
  ⟨Nat.zero_le _, beq_eq_false_iff_ne.mpr (Ne.symm (Nat.ne_of_lt hb)), [], .nil, Heap.DictOf.new h⟩
def tDNewK : TE := fun _ H Q => ∀ p, H p = none → Q (.ref p) (upd H p (.dK []))
def tDNewT : TE := fun _ H Q => ∀ p, H p = none → Q (.ref p) (upd H p (.dT []))
section
variable {X : Cx} {pos : Pos}
theorem pe_dnewK : PE X (.Dict [] [] pos) tDNewK := fun pins s σ H Q I h =>
  wpAny_Dict_empty ⟨.ref s.heap.objs.size, _, I.laid (a := s.heap.objs.size) (o := .dK []) (t' := s.toks) (fun _ _ q => Heap.get?_push_of_some _ q) (Nat.le_refl _) (dk_empty s.heap I.big), rfl, h _ (I.hok.fresh (Nat.le_refl _))⟩
end
def tPairs : List (TE × TE) → St → Hp → (List (V × V) → Hp → Prop) → Prop
  | [], _, H, Q => Q [] H
  | (tk, tv) :: r, σ, H, Q => tk σ H fun x H1 => tv σ H1 fun y H2 => tPairs r σ H2 fun ps H3 => Q ((x, y) :: ps) H3
abbrev VV : List (V × V) → List (Value × Value) → Prop := Paired fun p q => RelV p.1 q.1 ∧ RelV p.2 q.2
def PPs (X : Cx) (pos : Pos) (keys : List (Option Expr)) (values : List Expr) (trs : List (TE × TE)) : Prop :=
  ∀ (pins : List (Addr × Obj)) (s : Shared) (σ : St) (H : Hp) (Q : List (V × V) → Hp → Prop), Inv X pins σ H s → tPairs trs σ H Q →
    wpAny (model X.prog X.w) X.A (evalPairs (pairTrees keys values X.env pos)) (fun vs s' => ∃ ps H', Inv X pins σ H' s' ∧ VV ps vs ∧ Q ps H') X.xe s
def mergeK (kvs more : List (Key × V)) : List (Key × V) := more.foldl (fun acc kv => putK acc kv.1 kv.2) kvs
theorem KV.merge : ∀ {more : List (Key × V)} {rs : List (Key × Value)} {kvs : List (Key × V)} {vs : List (Key × Value)}, KV more rs → KV kvs vs → KV (mergeK kvs more) (merged vs rs) := by
  intro more rs kvs vs r
  unfold KV at r
  induction r generalizing kvs vs with
  | nil => intro q; exact q
  | @cons p q ps qs h t ih =>
    intro r0
    have e : KV (putK kvs p.1 p.2) (stored vs q.1 q.2) := by
      have := r0.put p.1 h.2
      rw [← h.1]; exact this
    exact ih e
theorem length_mergeK : ∀ (more kvs : List (Key × V)), (mergeK kvs more).length ≤ kvs.length + more.length
  | [], kvs => by show kvs.length ≤ kvs.length + 0; omega
  | p :: r, kvs => by
    have h1 := length_mergeK r (putK kvs p.1 p.2)
    have h2 := length_putK kvs p.1 p.2
    show (mergeK (putK kvs p.1 p.2) r).length ≤ _
    rw [List.length_cons]; omega
def tDisp (trs : List (TE × TE)) : TE := fun σ H Q => ∀ p, H p = none → tPairs trs σ (upd H p (.dK [])) fun ps H2 => H2 p = some (.dK []) ∧ ∃ kvs : List (Key × V), ps = kvs.map (fun kv => (kV kv.1, kv.2)) ∧ kvs.length ≤ 15 ∧ Q (.ref p) (upd H2 p (.dK (mergeK [] kvs)))
structure M1 (X : Cx) (o : Expr) (m : Str) (apos : Pos) (e : Expr) (cpos : Pos) : Prop where
  base : attributeBase o m X.env (eval o X.env) = eval o X.env
  few : ((backTo cpos (starEach [e] X.env)).all (fun x => !x.1) && (backToKw cpos (keywordEach [] X.env)).all (fun x => x.1.isSome)
    && decide (([e] : List Expr).length + ([] : List Keyword).length + (if ([] : List Keyword).isEmpty then 0 else 1) < 30)) = true
  line : (apos.endLine == cpos.line) = true
  trees : backTo cpos (starEach [e] X.env) = [(false, eval e X.env)]
structure M2 (X : Cx) (o : Expr) (m : Str) (apos : Pos) (e f : Expr) (cpos : Pos) : Prop where
  base : attributeBase o m X.env (eval o X.env) = eval o X.env
  few : ((backTo cpos (starEach [e, f] X.env)).all (fun x => !x.1) && (backToKw cpos (keywordEach [] X.env)).all (fun x => x.1.isSome)
    && decide (([e, f] : List Expr).length + ([] : List Keyword).length + (if ([] : List Keyword).isEmpty then 0 else 1) < 30)) = true
  line : (apos.endLine == cpos.line) = true
  trees : backTo cpos (starEach [e, f] X.env) = [(false, eval e X.env), (false, eval f X.env)]
def IsD (H : Hp) (a : Addr) : Prop := (∃ kvs, Rd H a (.dK kvs)) ∨ ∃ kvs, Rd H a (.dT kvs)
theorem isD_at {X : Cx} {pins : List (Addr × Obj)} {σ : St} {H : Hp} {s : Shared} {a : Addr} (I : Inv X pins σ H s) (d : IsD H a) :
    s.TypeIs (.ref a) "dict" ∧ (∀ b, Value.ref a = .ref b → ∃ ob, s.heap.get? b = some ob ∧ ob.dict = none) ∧ (a == sysModules) = false := by
  rcases d with ⟨kvs, e⟩ | ⟨kvs, e⟩
  · obtain ⟨_, hd, vs, _, dd⟩ := dk_rd I.hok e
    refine ⟨dd.typeIs, fun b q => ?_, hd⟩
    cases q
    obtain ⟨ob, _, _, h1, h2, _⟩ := dd
    exact ⟨ob, h1, h2.2.1⟩
  · obtain ⟨_, hd, xs, _, dd⟩ := dt_rd I.hok e
    refine ⟨dd.typeIs, fun b q => ?_, hd⟩
    cases q
    obtain ⟨ob, _, _, h1, h2, _⟩ := dd
    exact ⟨ob, h1, h2.2.1⟩
section
variable {X : Cx} {pins : List (Addr × Obj)} {σ : St} {H : Hp} {s : Shared} {a : Addr} {y d : V} {u r : Value} {o : Option V} {A : Around} {E : Value → Shared → Prop}
theorem d_get1 {Q : Value → Shared → Prop} (hu : A.units + 1 < cLine) (I : Inv X pins σ H s) (g : DGet H a y o) (ry : RelV y u) (h : ∀ w' s', Inv X pins σ H s' → RelV (o.getD .non) w' → Q w' s') :
    wpAny (model X.prog X.w) A (call (.builtin "dict.get") [.ref a, u]) Q E s := by
  rcases g with ⟨kvs, k, e, ey, l⟩ | ⟨kvs, k, b, e, ey, eb, l⟩
  · subst ey
    obtain ⟨z, hd, vs, rel, dd⟩ := dk_rd I.hok e
    refine call_meetsIn PySem.F.slot_dict_get dd.typeIs PySem.F.entry_dict_get (PySem.F.args_dict_get_2 _ _) (meets_dict_get (mixKind X.prog X.w) a (kV_is ry) hd) ⟨_, dd.mapOf, h _ _ (I.tok _) ?_⟩
    rw [l]
    exact (rel.val k).getD rfl
  · subst ey
    cases (show u = Value.ref b from ry)
    obtain ⟨z, hd, xs, rel, dd⟩ := dt_rd I.hok e
    refine call_meetsIn PySem.F.slot_dict_get dd.typeIs PySem.F.entry_dict_get (PySem.F.args_dict_get_2 _ _) (meetsH_dict_get (tupleKind (mixKind X.prog X.w)) a b hd) ⟨tupleKind_room_in1 hu, k, xs, key_of I.hok eb, dd, h _ _ (I.tok _) ?_⟩
    rw [l]
    exact (rel.val k).getD rfl
end
def tDGet1 (td ty : TE) : TE := fun σ H Q => td σ H fun x H1 => ∃ a, x = .ref a ∧ IsD H1 a ∧ ty σ H1 fun y H2 => ∃ o, DGet H2 a y o ∧ Q (o.getD .non) H2
def tDGet2 (td ty tx : TE) : TE := fun σ H Q => td σ H fun x H1 => ∃ a, x = .ref a ∧ IsD H1 a ∧ ty σ H1 fun y H2 => tx σ H2 fun z H3 => ∃ o, DGet H3 a y o ∧ Q (o.getD z) H3
def tDPop1 (td ty : TE) : TE := fun σ H Q => td σ H fun x H1 => ∃ a, x = .ref a ∧ IsD H1 a ∧ ty σ H1 fun y H2 => ∃ kvs k v, H2 a = some (.dK kvs) ∧ y = kV k ∧ valV kvs k = some v ∧ Q v (upd H2 a (.dK (dropK kvs k)))
def tDPop2 (td ty tx : TE) : TE := fun σ H Q => td σ H fun x H1 => ∃ a, x = .ref a ∧ IsD H1 a ∧ ty σ H1 fun y H2 => tx σ H2 fun z H3 => ∃ kvs k, H3 a = some (.dK kvs) ∧ y = kV k ∧
  (∀ v, valV kvs k = some v → Q v (upd H3 a (.dK (dropK kvs k)))) ∧ (valV kvs k = none → Q z H3)
section
variable {X : Cx} {o e f : Expr} {apos cpos : Pos} {td ty tx : TE}
theorem pe_dget1 (hu : X.A.units + 1 < cLine) (ho : PE X o td) (he : PE X e ty) (m : M1 X o "get" apos e cpos) : PE X (.Call (.Attribute o "get" apos) [e] [] cpos) (tDGet1 td ty) := by
  intro pins s σ H Q I h
  refine wpAny_Call_method m.base m.few m.line PySem.F.plainAttrs_dict PySem.F.slot_dict_get PySem.F.type_dict_get (thn (ho pins s σ H _ I h) fun u s1 ⟨x, H1, I1, rx, a, ex, d, q1⟩ => ?_)
  subst ex
  obtain rfl : u = Value.ref a := rx
  obtain ⟨t1, t2, _⟩ := isD_at I1 d
  refine ⟨t1, t2, ?_⟩
  rw [m.trees]
  refine Calls.callWith_builtin rfl (Calls.evalArgs_plain (Calls.spliced_cons (thn (he pins s1 σ H1 _ I1 q1) fun iv s2 ⟨y, H2, I2, ry, ov, g, q2⟩ => Calls.spliced_nil ?_)))
  exact d_get1 hu I2 g ry fun w' s3 I3 rw' => ⟨_, H2, I3, rw', q2⟩
end
section
variable {X : Cx} {pins : List (Addr × Obj)} {σ : St} {H : Hp} {s : Shared} {a : Addr} {kvs : List (Key × V)} {A : Around} {E : Value → Shared → Prop}
end
section
variable {X : Cx} {pins : List (Addr × Obj)} {σ : St} {H : Hp} {s : Shared} {a : Addr} {y : V} {u : Value} {A : Around} {E : Value → Shared → Prop}
end
end L2
namespace Att
open PySem PySem.W PySem.Calls PyProof.Rows
theorem ints_of_wellAll {P : Params} {h : Heap} : ∀ (ns : List Int) (vs : List Value), WellAll P h vs (ns.map WData.int) → IntsAre vs ns := by
  intro ns
  induction ns with
  | nil =>
    intro vs w
    rw [List.map_nil] at w
    cases w
    exact .nil
  | cons n ns ih =>
    intro vs w
    rw [List.map_cons] at w
    cases w with
    | cons a b =>
      cases a
      exact .cons _ _ (ih _ b)
theorem script_of {l : OpenLaw} {n : Nat} (hn : l.most = some n) {P : Params} {h : Heap} {args : List WData} {vals : List Value}
    (hpre : l.row.toRowW.claim.pre args = true) (hwl : WellAll P h vals args) :
    ∃ a vs ns, vals = [Value.ref a] ∧ args = [WData.list (ns.map WData.int)] ∧ h.get? a = some { cls := .type "list", data := .seq vs.toArray } ∧ IntsAre vs ns ∧ ns.length ≤ n := by
  have hsh : WShape.hasAll [] args [.list .int] = true := (pre_splitW hpre).1
  have hc : l.pre.holds [] { args := args } = true := (pre_splitW hpre).2
  obtain ⟨d, r, rfl, h1, h2⟩ := hasAllW_cons hsh
  obtain rfl := hasAllW_nil h2
  obtain ⟨xs, rfl, h3⟩ := hasW_list h1
  obtain ⟨ns, rfl⟩ := items_int h3
  have hlen : ns.length ≤ n := by
    unfold OpenLaw.pre at hc
    have h4 : (WTm.not (.lt (.lit (.int (n : Int))) (.len (.arg 0)))).holds [] { args := [.list (ns.map .int)] } = true := by
      have h4 := (holds_andW hc).1
      rw [hn] at h4
      exact h4
    have h5 := condW_of h4 (w_not (w_lt w_lit (w_len_list (w_arg rfl))))
    rw [List.length_map] at h5
    refine Nat.le_of_not_lt fun q => ?_
    have q' : (n : Int) < ((ns.length : Nat) : Int) := by omega
    first
      | (rw [decide_eq_true q'] at h5; exact absurd h5 (by decide))
      | (simp at h5; omega)
  cases hwl with
  | cons w1 w2 =>
    cases w2
    cases w1 with
    | list ho hall => exact ⟨_, _, ns, rfl, rfl, ho, ints_of_wellAll ns _ hall, hlen⟩
theorem post_true (l : OpenLaw) (args : List WData) : l.row.toRowW.claim.post args (.bool true) args = true :=
  postW_of (r := l.row.toRowW) (X := (true == true))
    (show WShape.has [] (.bool true) .bool = true by first | rfl | decide | simp [WShape.has, WShape.arms, WShape.armsAll])
    (show (WTm.eq .res (.lit (.bool true))).value [] { args := args, res := some (.bool true), after := args } = some (.bool (true == true)) from w_eq_bool (w_res rfl) w_lit) rfl
theorem attach_call {l : OpenLaw} {n : Nat} {q : Program} {loose : List Str} {XP : (Str → Option Value) → Heap → Prop} {YP : World → Heap → Prop} {d : DefRec}
    (hn : l.most = some n) (hdf : d.params.defaults = [])
    (call : ∀ (w : World) (s₀ s₁ : Shared) (mg mb : Str → Option Value) (fa : Addr) (o : Obj) (pm cd doc : Value) (a : Addr) (vs : List Value) (ns : List Int),
      Ground q loose [] XP w s₀ mg mb s₁.heap → YP w s₁.heap →
      s₁.heap.get? fa = some o → o.data = .func (docDef d.name d.params d.body d.scope pm cd doc) → s₁.heap.CodeRec cd d.name → mg d.name = some (.ref fa) →
      s₁.heap.get? a = some { cls := .type "list", data := .seq vs.toArray } → IntsAre vs ns → ns.length ≤ n → s₁.gens = #[] →
      codeAny (model l.prog w) callerA (.call (.ref fa) ⟨[.ref a], []⟩) (fun r s' => r = .ok (.ret (.bool true)) ∧ OldK s₁.heap s'.heap ∧ s'.os = s₁.os ∧ AllBare s'.gens) s₁) :
    WalkO q loose XP YP l.row.toRowW d [] (fun f vs => PySem.call f vs) := by
  intro w s₀ s₁ mg mb G Y fa o pm cd doc dV kV ho hd hcd hD hmg hg args vals as hpre hlay hrd hwl hlo
  obtain rfl : dV = .none := Dflts.none hD hdf
  obtain rfl : kV = .none := Dflts.noKw hD
  obtain ⟨a, vs, ns, rfl, rfl, hobj, hints, hlen⟩ := script_of hn hpre hwl
  refine enter_call (codeAny_mono (call w s₀ s₁ mg mb fa o pm cd doc a vs ns G Y ho (fd_plain hd) hcd hmg hobj hints hlen hg) fun r s' hq => ?_)
  obtain ⟨rfl, h2, h3, h4⟩ := hq
  exact ⟨.inl ⟨.bool true, .bool true, [], rfl, fun _ => rfl, .bool true, post_true l _, fun _ => ⟨List.Pairwise.nil, fun _ hm => (nomatch hm)⟩⟩, h2, h3, h4⟩
section
variable {prog : Program} {w : World} {A : Around} {E : Value → Shared → Prop} {s : Shared} {K : Frag}
def noObjs (h : Heap) : Heap := { h with objs := #[] }
def ledger (h : Heap) (L d : Addr) : List (Addr × Obj) := (List.range h.objs.size).filterMap fun a => if a = L ∨ a = d then none else (h.get? a).map fun o => (a, o)
end
end Att
namespace L2
open PySem PySem.Spec PyProof.Rows
theorem vals_ints : ∀ {vs : List Value} {ns : List Int}, IntsAre vs ns → Vals (ns.map V.int) vs
  | _, _, .nil => .nil
  | _, _, .cons n t h => .cons ⟨t, rfl⟩ (vals_ints h)
def Only (H : Hp) : Prop := ∀ b, H b = none ∨ ∃ o xs, H b = some (.frz o (.lst xs))
theorem law_call {P : Program} {w : World} {K : PySem.W.Frag} {mg mb : Str → Option Value} {CX : CXT} {k : Nat} {fa a : Addr} {fd : FuncData} {x : Str} {sp : Sp} {s₁ : Shared} {vs : List Value} {ns : List Int}
    (KX : K.In s₁.heap) (hns : s₁.heap.Ns mainGlobals mg) (hb : s₁.heap.Ns builtinsNs mb) (hbb : ∀ x : Str, x ≠ "__name__" → mb x = bootBuiltins x) (hlim : s₁.heap.NoLimit) (hg : s₁.gens = #[])
    (ha : s₁.heap.get? a = some { cls := .type "list", data := .seq vs.toArray }) (hi : IntsAre vs ns) (hl : ns.length ≤ sizeLine) (hr : Room k callerA)
    (F : ∀ base : Heap, K.In base → base.Ns mainGlobals mg → FnOk P w K mg base CX k fa fd [x] sp) (hbind : ∀ (s : Shared) (u : Value), BindsTo s fd ⟨[u], []⟩ [(x, u)])
    (hsp : ∀ H : Hp, Only H → SqL K H a (ns.map V.int) → sp [.ref a] H (fun v _ => v = .bl true) fun _ _ _ => False)
    (hCX : ∀ H e s', CX [] H s₁ (fun _ _ _ => False) e s' → False) :
    codeAny (model P w) callerA (.call (.ref fa) ⟨[.ref a], []⟩) (fun r s' => r = .ok (.ret (.bool true)) ∧ OldK s₁.heap s'.heap ∧ s'.os = s₁.os ∧ AllBare s'.gens) s₁ := by
  have rv := vals_ints hi
  have lenV := hi.length
  have core : ∀ H : Hp, Only H → SqL K H a (ns.map V.int) → HOk P w H s₁.heap → (∀ b, H b ≠ none → b = a) → (H a ≠ none → K.lookup a = none) →
      codeAny (model P w) callerA (.call (.ref fa) ⟨[.ref a], []⟩) (fun r s' => r = .ok (.ret (.bool true)) ∧ OldK s₁.heap s'.heap ∧ s'.os = s₁.os ∧ AllBare s'.gens) s₁ := by
    intro H hO hS hok hA hK
    have base_of : ∀ {b : Addr} {o : Obj}, s₁.heap.get? b = some o → H b = none → (hidT s₁.heap H).get? b = some o := fun e n => hidT_get e n
    have noA : ∀ {b : Addr} {o : Obj} {es : Array DictEntry} {ep : Nat}, s₁.heap.get? b = some o → o.data = .dict es ep → H b = none := fun {b o es ep} e d => by
      cases q : H b with
      | none => rfl
      | some u =>
        have e' : b = a := hA b (by rw [q]; simp)
        subst e'
        rw [ha] at e; cases e
        have d' : Data.seq vs.toArray _ = Data.dict es ep := d
        cases d'
    have nsK : ∀ {b : Addr} {m : Str → Option Value}, s₁.heap.Ns b m → (hidT s₁.heap H).Ns b m := fun {b m} ⟨o, es, ep, e, d, r⟩ => ⟨o, es, ep, base_of e (noA e d), d, r⟩
    have hKb : K.In (hidT s₁.heap H) := fun b o e => base_of (KX b o e) (by
      cases q : H b with
      | none => rfl
      | some u =>
        have e' : b = a := hA b (by rw [q]; simp)
        subst e'
        rw [hK (by rw [q]; simp)] at e; cases e)
    have hM : Mod K mg (hidT s₁.heap H) := ⟨hKb, nsK hns, ⟨mb, nsK hb, hbb⟩, let ⟨mc, h1, h2⟩ := hlim; ⟨mc, nsK h1, h2⟩⟩
    have e0 : Env0 P w K mg (hidT s₁.heap H) callerA [] s₁ H := ⟨rfl, hM, fun b o e => of_hidT e, Nat.le_of_eq (hidT_size _ _), trivial, fun b hb => absurd (show b ∈ ([] : List Addr) from hb) (by simp), hok, .of_eq hg⟩
    refine codeAny_mono ((F _ hKb (nsK hns)).run callerA [] s₁ H ⟨[.ref a], []⟩ [.ref a] [.ref a] _ _ hr e0 (hbind s₁ (.ref a)) (.cons rfl .nil) (hsp H hO hS)) fun r s' h => ?_
    cases r with
    | error e => exact (hCX H e s' h).elim
    | ok fl =>
      cases fl with
      | next => exact False.elim h
      | brk => exact False.elim h
      | cont => exact False.elim h
      | ret u =>
        obtain ⟨v, H', os, bare, un, hok', r', q⟩ := h
        have q' : v = .bl true := q
        subst q'
        obtain rfl : u = Value.bool true := r'
        refine ⟨rfl, OldK.of_keep fun b o e => ?_, os, bare⟩
        cases q : H b with
        | none => exact un.keep b o e q (by intro z; exact absurd (show b ∈ ([] : List Addr) from z) (by simp)) (by simp)
        | some u =>
          rcases hO b with z | ⟨ob, xs, z⟩
          · rw [q] at z; cases z
          · have z2 := un.frzs b ob _ z
            obtain ⟨e1, _⟩ := hok b _ z
            obtain ⟨e2, _⟩ := hok' b _ z2
            rw [e] at e1; cases e1
            exact e2
  cases hk : K.lookup a with
  | some o =>
    have e := KX a o hk
    rw [ha] at e
    cases e
    refine core (fun _ => none) (fun _ => .inl rfl) (.inr ⟨_, vs.toArray, _, hk, rfl, rfl, rfl, by rw [List.size_toArray, lenV]; exact hl, by simpa using rv⟩) (fun b u z => by have z' : (none : Option HO) = some u := z; cases z') (fun b z => absurd rfl z) fun z => absurd rfl z
  | none =>
    refine core (fun b => if b = a then some (.frz { cls := .type "list", data := .seq vs.toArray } (.lst (ns.map V.int))) else none) (fun b => ?_) (.inl (.inr ⟨{ cls := .type "list", data := .seq vs.toArray }, if_pos rfl⟩)) (fun b u z => ?_) (fun b z => ?_) fun _ => hk
    · by_cases hb : b = a
      · exact .inr ⟨_, _, if_pos hb⟩
      · exact .inl (if_neg hb)
    · by_cases hb : b = a
      · have z' := (if_pos hb).symm.trans z
        cases z'
        subst hb
        exact ⟨ha, by rw [List.length_map]; exact hl, vs, _, rv, ha⟩
      · have z' := (if_neg hb).symm.trans z
        cases z'
    · by_cases hb : b = a
      · exact hb
      · exact absurd (if_neg hb) z
end L2
namespace L2
open PySem PySem.Spec PyProof.Rows
abbrev KOf {K : PySem.W.Frag} {h : Heap} (_ : K.In h) : PySem.W.Frag := K
theorem walk_of {l : PySem.W.OpenLaw} {n k : Nat} {q : Program} {loose : List Str} {XP : (Str → Option Value) → Heap → Prop} {YP : World → Heap → Prop} {d : DefRec} {K : Params → PySem.W.Frag} {CX : World → CXT} {sp : World → Sp} {x : Str}
    (hn : l.most = some n) (hn2 : n ≤ sizeLine) (hdf : d.params.defaults = []) (hr : Room k callerA)
    (hY : ∀ (w : World) (h : Heap), YP w h → (K w.params).In h)
    (F : ∀ (w : World) (mg : Str → Option Value) (fa : Addr) (h : Heap), (K w.params).In h → h.Ns mainGlobals mg → mg d.name = some (.ref fa) →
      ∃ fd : FuncData, (∀ (s : Shared) (u : Value), BindsTo s fd ⟨[u], []⟩ [(x, u)]) ∧
        ∀ base : Heap, (K w.params).In base → base.Ns mainGlobals mg → FnOk l.prog w (K w.params) mg base (CX w) k fa fd [x] (sp w))
    (hsp : ∀ (w : World) (H : Hp) (a : Addr) (ns : List Int), ns.length ≤ n → Only H → SqL (K w.params) H a (ns.map V.int) → sp w [.ref a] H (fun v _ => v = .bl true) fun _ _ _ => False)
    (hCX : ∀ (w : World) (H : Hp) (s : Shared) (e : Value) (s' : Shared), CX w [] H s (fun _ _ _ => False) e s' → False) :
    PySem.W.WalkO q loose XP YP l.row.toRowW d [] (fun f vs => PySem.call f vs) := by
  refine Att.attach_call hn hdf fun w s₀ s₁ mg mb fa o pm cd doc a vs ns G Y ho hd hcd hmg hobj hints hlen hg => ?_
  have KX := hY w _ Y
  obtain ⟨fd, hb, hF⟩ := F w mg fa _ KX G.T.g hmg
  exact law_call KX G.T.g G.T.b G.T.builtins G.T.nolimit hg hobj hints (Nat.le_trans hlen hn2) hr hF hb (fun H hO hS => hsp w H a ns hlen hO hS) fun H e s' => hCX w H s₁ e s'
end L2
namespace L2
open PySem PySem.Spec PyProof.Rows
def inClass (s : Stmt) (j : Nat) : Stmt := match s with
  | .ClassDef _ _ _ body _ _ _ _ _ _ _ => body.getD j (.Pass ⟨0, 0, 0, 0⟩)
  | _ => .Pass ⟨0, 0, 0, 0⟩
def defArgs (s : Stmt) : Arguments := match s with
  | .FunctionDef _ a _ _ _ _ _ _ _ _ => a
  | _ => { posonlyargs := [], args := [], vararg := none, kwonlyargs := [], kw_defaults := [], kwarg := none, defaults := [] }
def defBody (s : Stmt) : List Stmt := match s with
  | .FunctionDef _ _ b _ _ _ _ _ _ _ => b
  | _ => []
def defScope (s : Stmt) : Scope := match s with
  | .FunctionDef _ _ _ _ _ _ sc _ _ _ => sc
  | _ => { kind := .function, names := [], isGenerator := false, isCoroutine := false }
abbrev CX0 : CXT := fun _ _ _ _ _ _ => False
abbrev E0 : XK := fun _ _ _ => False
theorem pass0 {X : Cx} : Passes CX0 X E0 := fun _ _ _ _ _ _ _ h => h.elim
structure Fun (K : PySem.W.Frag) (x qual : Str) (st : Stmt) (f : Addr) (fd : FuncData) : Prop where
  ex : ∃ (oc : Value) (od : Option Addr) (kV doc pm : Value) (an : Option Addr) (cdv ct : Value) (osl : Array (Option Value)),
    fd = PySem.W.fnOf x qual (defArgs st) (defBody st) (defScope st) .none kV doc pm an cdv ct ∧ K.lookup f = some ⟨oc, od, .func fd, osl⟩ ∧ PySem.W.codeIn K cdv qual = true
  kp : PySem.W.keepIn K (.ref f) = true
section
variable {P : Program} {w : World} {K : PySem.W.Frag} {mg : Str → Option Value} {base : Heap}
theorem Fun.ok {x qual : Str} {st : Stmt} {f : Addr} {fd : FuncData} {N ps : List Str} {k : Nat} {sp : Sp} (F : Fun K x qual st f fd) (S : FnScope N ps (defScope st)) (len : ∀ vs H Q E, sp vs H Q E → vs.length = ps.length)
    (hbody : ∀ (cdv : Value) (A : Around) (outer : List Env) (s : Shared) (H : Hp) (vs : List V) (Q : VK) (E : XK), Room k (A.deeper (envOfC qual (defScope st) s.heap.objs.size f cdv)) → sp vs H Q E →
      ∃ t, PSs (cxOf CX0 P w K mg base N qual (defScope st) f cdv A outer s H E).nox (defBody st) t ∧ t { nx := fun _ H' => Q .non H', rt := Q } (start N vs) H) : FnOk P w K mg base CX0 (k + 1) f fd ps sp := by
  obtain ⟨oc, od, kV, doc, pm, an, cdv, ct, osl, rfl, lk, hcd⟩ := F.ex
  refine fn_of lk hcd S len fun A outer s H vs Q E hr hsp => ?_
  obtain ⟨t, h, q⟩ := hbody cdv A outer s H vs Q E hr hsp
  exact ⟨t, h.nox, q⟩
theorem Fun.binds {x qual : Str} {st : Stmt} {f : Addr} {fd : FuncData} {ps : List Str} (F : Fun K x qual st f fd)
    (h : ∀ (kV doc pm : Value) (an : Option Addr) (cdv ct : Value) (us : List Value), us.length = ps.length → bindArgs (PySem.W.fnOf x qual (defArgs st) (defBody st) (defScope st) .none kV doc pm an cdv ct) ⟨us, []⟩ = pure (ps.zip us)) : Binds K fd ps [] := by
  obtain ⟨oc, od, kV, doc, pm, an, cdv, ct, osl, rfl, lk, hcd⟩ := F.ex
  exact .all (h kV doc pm an cdv ct)
theorem fun_mk {x qual : Str} {st : Stmt} {f : Addr} {oc : Value} {od an : Option Addr} {osl : Array (Option Value)} {kV doc pm cdv ct : Value} (l : K.lookup f = some ⟨oc, od, .func (PySem.W.fnOf x qual (defArgs st) (defBody st) (defScope st) .none kV doc pm an cdv ct), osl⟩)
    (c : PySem.W.codeIn K cdv qual = true) (k : PySem.W.keepIn K (.ref f) = true) : Fun K x qual st f (PySem.W.fnOf x qual (defArgs st) (defBody st) (defScope st) .none kV doc pm an cdv ct) := ⟨⟨oc, od, kV, doc, pm, an, cdv, ct, osl, rfl, l, c⟩, k⟩
end
theorem hu_of {A : Around} {k : Nat} (hr : Room k A) : A.units + 1 < cLine := Nat.lt_of_le_of_lt (Nat.add_le_add_left (by decide : 1 ≤ 64) _) hr.units
theorem small1000 {n : Nat} (h : n ≤ 1000) : n < sizeLine := Nat.lt_of_le_of_lt h (by decide)
section
variable {X : Cx}
theorem pv (i : Nat) {x : Str} {pos : Pos} (hN : X.N[i]? = some x := by rfl) (hv : Vis X.env.scope x := by first | exact Or.inl rfl | exact Or.inr (Or.inl rfl) | exact Or.inr (Or.inr rfl)) (hd : (x == ("__debug__" : Str)) = false := by decide)
    (hcd : (x == ("__classdict__" : Str)) = false := by decide) : PE X (.Name x pos) (tVar i) := pe_var hN hv hd hcd
end
theorem iteF {A B : Prop} (h : B) : if false = true then A else B := by
  rw [if_neg Bool.false_ne_true]
  exact h
theorem iteT {A B : Prop} (h : A) : if true = true then A else B := by
  rw [if_pos rfl]
  exact h
theorem ite2 {c A B : Prop} [Decidable c] (h1 : c → A) (h2 : ¬ c → B) : if c then A else B := by
  by_cases h : c
  · rw [if_pos h]
    exact h1 h
  · rw [if_neg h]
    exact h2 h
def Same (H H' : Hp) : Prop := ∀ b o, H b = some o → H' b = some o
theorem Same.refl (H : Hp) : Same H H := fun _ _ h => h
theorem Same.trans {H H1 H2 : Hp} (a : Same H H1) (b : Same H1 H2) : Same H H2 := fun c o h => b c o (a c o h)
theorem Same.free {H H' : Hp} (e : Same H H') {l : Addr} (h : H' l = Option.none) : H l = Option.none := by
  cases q : H l with
  | none => rfl
  | some o =>
    rw [e l o q] at h
    cases h
theorem Same.seq {K : PySem.W.Frag} {H H' : Hp} {a : Addr} {xs : List V} (e : Same H H') (h : SqL K H a xs) : SqL K H' a xs := by
  rcases h with (h | ⟨o, h⟩) | h
  · exact .inl (.inl (e _ _ h))
  · exact .inl (.inr ⟨o, e _ _ h⟩)
  · exact .inr h
section
variable {κ : Type} [DecidableEq κ]
end
end L2
set_option Elab.async false
set_option linter.all false
set_option maxRecDepth 100000
set_option maxHeartbeats 4000000
namespace L2
open PySem PySem.Spec PyProof.Rows
abbrev NoX : Value → Shared → Prop := fun _ _ => False
theorem noX {al : Type} {t : Sem al} {Q : al → Shared → Prop} {M : Model} {A : Around} {E : Value → Shared → Prop} {s : Shared} (h : wpAny M A t Q NoX s) : wpAny M A t Q E s :=
  wpAny_mono h (fun _ _ q => q) fun _ _ z => z.elim
def capSt (cap : List (Option Nat)) (σ : St) : St := cap.map fun o => match o with
  | none => none
  | some j => (σ[j]?).join
inductive Ext : St → St → Prop
  | nil : Ext [] []
  | skip {a b : St} {x : Option V} : Ext a b → Ext (none :: a) (x :: b)
  | keep {a b : St} {x : Option V} : Ext a b → Ext (x :: a) (x :: b)
theorem Ext.len {a b : St} (h : Ext a b) : a.length = b.length := by
  induction h with
  | nil => rfl
  | skip _ ih => simp [ih]
  | keep _ ih => simp [ih]
theorem Ext.get {a b : St} (h : Ext a b) : ∀ (i : Nat) v, a[i]? = some (some v) → b[i]? = some (some v) := by
  induction h with
  | nil => intro i v e; simp at e
  | skip _ ih =>
    intro i v e
    cases i with
    | zero => simp at e
    | succ i => simpa using ih i v (by simpa using e)
  | keep _ ih =>
    intro i v e
    cases i with
    | zero => simpa using e
    | succ i => simpa using ih i v (by simpa using e)
def Cx.block (X : Cx) (sc : Scope) (cl : List (Str × Addr)) (N : List Str) (s : Shared) (H : Hp) (C : Addr) (ex : List Addr) : Cx where
  prog := X.prog
  w := X.w
  K := X.K
  mg := X.mg
  base := X.base
  A := X.A
  N := N
  s₀ := s
  H₀ := H
  env := compEnvC sc cl C X.env
  outer := X.stack
  stack := X.stack
  ex := ex
  fn := fun _ => false
  calm := X.calm
  pn := []
  xe := NoX
theorem closure_ok {env : Env} : ∀ (names : List (Str × NameKind)) (cs : List (Str × Addr)), (∀ n, (n, NameKind.free) ∈ names → ∃ c, env.cells.lookup n = some c) →
    (∀ x c, cs.lookup x = some c → env.cells.lookup x = some c) →
    ∃ cl : List (Str × Addr), (forIn names cs fun (x : Str × NameKind) (r : List (Str × Addr)) => (if (x.2 == NameKind.free) = true then do let c ← cellOf env x.1; pure (ForInStep.yield ((x.1, c) :: r)) else pure (ForInStep.yield r)) : Sem (List (Str × Addr))) = pure cl ∧
      (∀ x c, cl.lookup x = some c → env.cells.lookup x = some c) ∧ (∀ n, (n, NameKind.free) ∈ names → ∃ c, cl.lookup n = some c) ∧ (∀ n c, cs.lookup n = some c → ∃ c, cl.lookup n = some c)
  | [], cs, _, hc => ⟨cs, rfl, hc, fun _ h => (nomatch h), fun n c e => ⟨c, e⟩⟩
  | (n, k) :: r, cs, h, hc => by
    by_cases hk : k = .free
    · subst hk
      obtain ⟨c, ec⟩ := h n List.mem_cons_self
      have hc' : ∀ x c', ((n, c) :: cs).lookup x = some c' → env.cells.lookup x = some c' := fun x c' e => by
        rw [List.lookup_cons] at e
        cases hx : x == n with
        | true => rw [hx] at e; cases e; rw [eq_of_beq hx]; exact ec
        | false => rw [hx] at e; exact hc x c' e
      obtain ⟨cl, e1, e2, e3, e4⟩ := closure_ok r ((n, c) :: cs) (fun m hm => h m (List.mem_cons_of_mem _ hm)) hc'
      refine ⟨cl, ?_, e2, fun m hm => ?_, fun m c' e => ?_⟩
      · rw [List.forIn_cons, ← e1]
        simp only [beq_self_eq_true, if_true, cellOf, ec]
        rfl
      · rcases List.mem_cons.mp hm with z | z
        · cases z
          exact e4 n c (by simp)
        · exact e3 m z
      · by_cases hm : m = n
        · subst hm; exact e4 m c (by simp)
        · exact e4 m c' (by rw [List.lookup_cons, beq_eq_false_iff_ne.mpr hm]; exact e)
    · have hb : (k == NameKind.free) = false := by simpa using hk
      obtain ⟨cl, e1, e2, e3, e4⟩ := closure_ok r cs (fun m hm => h m (List.mem_cons_of_mem _ hm)) hc
      refine ⟨cl, ?_, e2, fun m hm => ?_, e4⟩
      · rw [List.forIn_cons, ← e1]
        simp only [hb, Bool.false_eq_true, if_false]
        rfl
      · rcases List.mem_cons.mp hm with z | z
        · cases z; exact absurd rfl hk
        · exact e3 m z
theorem closure_of {sc : Scope} {env : Env} (h : ∀ n, (n, NameKind.free) ∈ sc.names → ∃ c, env.cells.lookup n = some c) :
    ∃ cl : List (Str × Addr), closureFor sc env = pure cl ∧ (∀ x c, cl.lookup x = some c → env.cells.lookup x = some c) ∧ (∀ n, (n, NameKind.free) ∈ sc.names → ∃ c, cl.lookup n = some c) := by
  obtain ⟨cl, e1, e2, e3, _⟩ := closure_ok (env := env) sc.names [] h (fun x c e => by simp at e)
  refine ⟨cl, ?_, e2, e3⟩
  unfold closureFor
  rw [← bind_pure (pure cl), ← e1]
theorem lookup_mem {names : List (Str × NameKind)} {x : Str} {k : NameKind} (h : names.lookup x = some k) : (x, k) ∈ names := by
  induction names with
  | nil => simp at h
  | cons p r ih =>
    obtain ⟨n, j⟩ := p
    rw [List.lookup_cons] at h
    cases hx : x == n with
    | true => rw [hx] at h; cases h; rw [eq_of_beq hx]; exact List.mem_cons_self
    | false => rw [hx] at h; exact List.mem_cons_of_mem _ (ih h)
theorem relabel_free {sc : Scope} {env : Env} {x : Str} {k : NameKind} (hk : k = .cell ∨ k = .free) (nc : ∀ y ∈ sc.names, y.2 ≠ .cell) (h : (relabel sc env).names.lookup x = some k) : (x, NameKind.free) ∈ sc.names := by
  have m := lookup_mem h
  obtain ⟨⟨n, j⟩, hm, e⟩ := List.mem_map.mp m
  have q : (if (j == NameKind.free && env.scope.kind == .function && env.kindOf n == some .cell) = true then (n, NameKind.cell) else (n, j)) = (x, k) := e
  split at q
  · rename_i c
    rw [Bool.and_eq_true, Bool.and_eq_true] at c
    have j' : j = .free := by simpa using c.1.1
    cases q
    rw [j'] at hm
    exact hm
  · cases q
    rcases hk with z | z
    · exact absurd z (nc _ hm)
    · rw [z] at hm; exact hm
theorem lookup_relabel_free {sc : Scope} {env : Env} {x : Str} : ∀ {names : List (Str × NameKind)}, names.lookup x = some .free →
    (names.map fun (n, k) => if (k == NameKind.free && env.scope.kind == .function && env.kindOf n == some .cell) then (n, NameKind.cell) else (n, k)).lookup x = some .cell ∨
    (names.map fun (n, k) => if (k == NameKind.free && env.scope.kind == .function && env.kindOf n == some .cell) then (n, NameKind.cell) else (n, k)).lookup x = some .free
  | [], h => by simp at h
  | (n, k) :: r, h => by
    have ih := @lookup_relabel_free sc env x r
    rw [List.lookup_cons] at h
    by_cases c : (k == NameKind.free && env.scope.kind == .function && env.kindOf n == some .cell) = true
    · rw [List.map_cons]
      simp only [c, if_true, List.lookup_cons]
      cases hx : x == n with
      | true => exact .inl rfl
      | false => rw [hx] at h; exact ih h
    · rw [List.map_cons]
      have c' := Bool.eq_false_iff.mpr c
      simp only [c', Bool.false_eq_true, if_false, List.lookup_cons]
      cases hx : x == n with
      | true => rw [hx] at h; cases h; exact .inr rfl
      | false => rw [hx] at h; exact ih h
theorem comp_loop {P : Program} {w : World} {A : Around} {R : Result → Shared → Prop} {s : Shared} {elt tg iter : Expr} {ifs : List Expr} {sc : Scope} {pos : Pos} {it acc : Value} {env : Env} (J : Nat → Shared → Prop)
    (turn : ∀ n s, J n s → wpAny (model P w) A (pyNext it) (fun r s1 => match r with
      | none => R (.ok .next) s1
      | some v => wpAny (model P w) A (letOwnedTupleGo tg it v) (fun _ s2 => wpAny (model P w) A (assign tg env v) (fun _ s3 =>
          wpAny (model P w) A (forIn ifs true fun c r => if r = true then do let ok ← isTrue c env (eval c env); pure (ForInStep.yield ok) else pure (ForInStep.yield r)) (fun ok s4 =>
            if ok = true then wpAny (model P w) A (eval elt env) (fun x s5 => wpAny (model P w) A (call (.builtin "list.append") [acc, x]) (fun _ s6 => ∃ m, m < n ∧ J m s6) NoX s5) NoX s4
            else ∃ m, m < n ∧ J m s4) NoX s3) NoX s2) NoX s1) NoX s) (n : Nat) (h : J n s) :
    codeAny (model P w) A (.compLoop (.ListComp elt [⟨tg, iter, ifs, 0⟩] sc pos) 0 it acc env) R s := by
  refine codeAny_loop rfl J (fun n s hJ => ?_) n h
  refine wpAny_noted ?_
  rw [compTurn_list]
  refine wpAny_bind (wpAny_standAt (wpAny_bind (noX (thn (turn n s hJ) fun r s1 h1 => ?_))))
  cases r with
  | none => exact wpAny_pure h1
  | some v =>
    refine wpAny_bind (noX (thn h1 fun _ s2 h2 => ?_))
    refine wpAny_bind (noX (thn h2 fun _ s3 h3 => ?_))
    refine wpAny_bind (noX (thn h3 fun ok s4 h4 => ?_))
    cases ok with
    | false => exact wpAny_pure ⟨rfl, h4⟩
    | true => exact wpAny_bind (wpAny_bind (noX (thn h4 fun x s5 h5 => wpAny_bind (noX (thn h5 fun _ s6 h6 => wpAny_pure (wpAny_pure ⟨rfl, h6⟩))))))
def PTs (X : Cx) (ifs : List Expr) (t : TT) : Prop :=
  ∀ (pins : List (Addr × Obj)) (s : Shared) (σ : St) (H : Hp) (Q : Bool → Hp → Prop), Inv X pins σ H s → t σ H Q →
    wpAny (model X.prog X.w) X.A (forIn ifs true fun c r => if r = true then do let ok ← isTrue c X.env (eval c X.env); pure (ForInStep.yield ok) else pure (ForInStep.yield r)) (TP X pins σ Q) X.xe s
def tYes : TT := fun _ H Q => Q true H
theorem pts_nil {X : Cx} : PTs X [] tYes := fun _ _ _ H _ I h => wpAny_tests_nil ⟨H, I, h⟩
theorem pts_one {X : Cx} {c : Expr} {t : TT} (h : PT X c t) : PTs X [c] t := fun pins s σ H Q I hq => wpAny_tests_one (h pins s σ H Q I hq)
def tComp (cap : List (Option Nat)) (wi : TI) (g : TG) (tt : TT) (te : TE) : TE := fun σ H Q => wi σ H fun J H1 => ∀ acc, H1 acc = none →
  ∃ W : Nat → Nat → Hp → Prop, (∃ m, W 0 m (upd H1 acc (.lst []))) ∧ ∀ i m H2, W i m H2 →
    (J.stop i H2 ∧ Q (.ref acc) H2) ∨ (J.go i H2 ∧ ∃ N : Hp → Prop, (∀ H', N H' → ∃ m', m' < m ∧ W (i + 1) m' H') ∧ ∀ x H3, J.yld i H2 x H3 → g x (capSt cap σ) H3 fun σ2 H4 => Ext (capSt cap σ) σ2 ∧ tt σ2 H4 fun b H5 =>
      if b = true then te σ2 H5 fun y H6 => ∃ zs, H6 acc = some (.lst zs) ∧ zs.length < sizeLine ∧ N (upd H6 acc (.lst (zs ++ [y])))
      else N H5)
theorem HOk.but {P : Program} {w : World} {H : Hp} {h h' : Heap} {C : Addr} (x : HOk P w H h) (n : H C = none) (sb : Heap.SameBut C h h') : HOk P w H h' := fun a o e =>
  (x a o e).stay (fun b u hb q => (sb.2 b (fun z => by
    subst z
    rcases hb with z | z
    · subst z; rw [n] at e; cases e
    · rw [n] at z; cases z)).trans q) (fun _ q => q) fun _ _ q => q
theorem Un.but {fs ex : List Addr} {H H' : Hp} {h h1 h2 : Heap} {C : Addr} (u : Un fs ex H H' h h1) (lt : h.objs.size ≤ C) (sb : Heap.SameBut C h1 h2) : Un fs ex H H' h h2 := by
  have ne : ∀ b o, h.get? b = some o → b ≠ C := fun b o e => Nat.ne_of_lt (Nat.lt_of_lt_of_le (Heap.lt_size e) lt)
  refine ⟨fun b o e n hb hx => (sb.2 b (ne b o e)).trans (u.keep b o e n hb hx), fun b o e n hb hx => ?_, u.free, fun b o e hx => ?_, u.tups, u.frzs, u.tbls⟩
  · obtain ⟨sl, q⟩ := u.slot b o e n hb hx
    exact ⟨sl, (sb.2 b (ne b o e)).trans q⟩
  · obtain ⟨o', q⟩ := u.there b o e hx
    exact ⟨o', (sb.2 b (ne b o e)).trans q⟩
section
variable {X : Cx}
theorem block_ok {pins : List (Addr × Obj)} {σ : St} {H : Hp} {s : Shared} {sc : Scope} {cl : List (Str × Addr)} {N : List Str} {C : Addr} {fp : List Addr} (I : Inv X pins σ H s) (hk : sc.kind = .function) (nc : ∀ y ∈ sc.names, y.2 ≠ .cell)
    (hC : s.heap.objs.size ≤ C) (hf : ∀ b ∈ fp, FpOk X pins H b) (hfo : ∀ b ∈ fp, ∃ o, s.heap.get? b = some o) (c1 : ∀ x c, cl.lookup x = some c → X.env.cells.lookup x = some c) (c2 : ∀ n, (n, NameKind.free) ∈ sc.names → ∃ c, cl.lookup n = some c) :
    (X.block sc cl N s H C fp).Ok where
  mod := I.ok.mod
  kind := hk
  glob := I.ok.glob
  blt := I.ok.blt
  above := hC
  inj := fun x y c e e' => I.ok.inj x y c (c1 x c e) (c1 y c e')
  has := fun x h => c2 x (h.elim (relabel_free (.inl rfl) nc) (relabel_free (.inr rfl) nc))
  cab := fun x c e => (nomatch e)
  hd := I.ok.hd
  frames := I.ok.frames
  stk := .inl rfl
  exf := fun b hb => ⟨fun z => by
    obtain ⟨o, e⟩ := hfo b hb
    have lt := Heap.lt_size e
    rw [z] at lt
    exact absurd (Nat.lt_of_lt_of_le lt hC) (Nat.lt_irrefl _), fun x c e => (hf b hb).2.2.2.2.1 x c (c1 x c e)⟩
  bs := I.bs
  bsz := Nat.le_trans I.ok.bsz I.sz
  noex := fun b o e hb => by
    rcases (hf b hb).2.2.2.1 with z | z
    · exact I.ok.noex b o e z
    · exact absurd (Nat.lt_of_lt_of_le (Heap.lt_size (I.ok.bs b o e).1) z) (Nat.lt_irrefl _)
  exfs := fun b hb hs => by
    rcases List.mem_cons.mp (I.stkSub b hs) with z | z
    · exact (hf b hb).2.1 z
    · exact (hf b hb).2.2.1 z
  funs := I.stack
  frf := I.stkFree
theorem pe_comp {elt tg iter : Expr} {ifs : List Expr} {sc : Scope} {pos : Pos} {wi : TI} {g : TG} {tt : TT} {te : TE} (N : List Str) (cap : List (Option Nat)) (hc : X.calm = true) (hi : PI X tg iter wi)
    (hg : ∀ cl s H C ex, PG (X.block sc cl N s H C ex) tg g) (ht : ∀ cl s H C ex, PTs (X.block sc cl N s H C ex) ifs tt) (he : ∀ cl s H C ex, PE (X.block sc cl N s H C ex) elt te)
    (hk : sc.kind = .function) (nc : ∀ y ∈ sc.names, y.2 ≠ .cell) (hnames : ∀ y ∈ sc.names, y.2 = .local → sc.names.lookup y.1 = some .local)
    (hfree : ∀ n, (n, NameKind.free) ∈ sc.names → X.env.kindOf n = some .cell)
    (hcap : ∀ (i j : Nat), cap[i]? = some (some j) → ∃ x, N[i]? = some x ∧ X.N[j]? = some x ∧ sc.names.lookup x = some .free) (hlen : cap.length = N.length)
    (hs : ∀ x, foldedSetIterable iter X.env x = pure x := by intro _; rfl) : PE X (.ListComp elt [⟨tg, iter, ifs, 0⟩] sc pos) (tComp cap wi g tt te) := by
  intro pins s σ H Q I h
  obtain ⟨cl, hclos, c1, c2⟩ := closure_of (sc := sc) (env := X.env) fun n hn => I.ok.has n (.inl (hfree n hn))
  rw [eval_ListComp]
  refine wpAny_comprehension_free (use := none) rfl hs hclos hk hnames ?_
  refine thn (hi pins s σ H _ I h) fun v s1 h1 => thn h1 fun itv s2 h2 => ?_
  obtain ⟨it, fp, tn, J, H2, e, I2, T, st2, f2, q2⟩ := h2
  subst e
  have hfr : H2 s2.heap.objs.size = none := I2.fresh
  obtain ⟨W, ⟨m0, w0⟩, turn⟩ := q2 s2.heap.objs.size hfr
  have I3 := I2.lnew (ys := []) (its := []) (t' := s2.toks) .nil (Nat.zero_le _)
  have hacc : H2 s2.heap.objs.size = none := hfr
  refine wpAny_newObj_type (wpAny_newFunctionEnv nc (by intro y hy; simp at hy) (fun h4 hns hsb => ?_) hk)
  generalize hs3 : ({ s2 with heap := s2.heap.push { cls := .type "list", data := .seq ([] : List Value).toArray } } : Shared) = s3 at hns hsb I3 ⊢
  have hheap : s3.heap = s2.heap.push { cls := .type "list", data := .seq ([] : List Value).toArray } := by rw [← hs3]
  generalize hH3 : upd H2 s2.heap.objs.size (.lst []) = H3 at I3 w0
  have up2 : ∀ b o, s2.heap.get? b = some o → s3.heap.get? b = some o := fun b o q => by rw [hheap]; exact Heap.get?_push_of_some _ q
  have neA : ∀ b ∈ fp, b ≠ s2.heap.objs.size := fun b hb => by
    obtain ⟨o, q, _⟩ := T.obj _ _ st2 b hb
    exact Nat.ne_of_lt (Heap.lt_size q)
  have f3 : ∀ b ∈ fp, FpOk X pins H3 b := fun b hb => ⟨by rw [← hH3, upd_ne (neA b hb)]; exact (f2 b hb).1, (f2 b hb).2⟩
  have o3 : ∀ b ∈ fp, ∃ o, s3.heap.get? b = some o := fun b hb => by
    obtain ⟨o, q, _⟩ := T.obj _ _ st2 b hb
    exact ⟨o, up2 b o q⟩
  have ok' := block_ok (N := N) (C := s3.heap.objs.size) I3 hk nc (Nat.le_refl _) f3 o3 c1 c2
  generalize hC : s3.heap.objs.size = C at hns hsb ok' ⊢
  have ltC : ∀ b o, s3.heap.get? b = some o → b ≠ C := fun b o q => by rw [← hC]; exact Nat.ne_of_lt (Heap.lt_size q)
  have up4 : ∀ b o, s3.heap.get? b = some o → h4.get? b = some o := fun b o q => hsb.extBut b o (ltC b o q) (Heap.get?_push_of_some _ q)
  have st4 : tn 0 h4 := T.keep _ _ _ st2 fun b hb o q => up4 b o (up2 b o q)
  have I4 : Inv (X.block sc cl N s3 H3 C fp) [] (capSt cap σ) H3 { s3 with heap := h4, toks := s3.toks + ([] : List (Str × Value)).length } := by
    refine ⟨ok', rfl, I3.bare, Un.kept up4, ⟨_, hns, fun i x v e1 e2 e3 => ?_⟩, fun x c q => ?_, ?_, fun x c q => I3.freeC x c (c1 x c q), fun p hp => (nomatch hp), I3.hok.kept up4, ?_⟩
    · have ee : ∃ j, cap[i]? = some (some j) ∧ σ[j]? = some (some v) := by
        unfold capSt at e2
        rw [List.getElem?_map] at e2
        cases q : cap[i]? with
        | none => rw [q] at e2; cases e2
        | some o =>
          rw [q] at e2
          cases o with
          | none => cases e2
          | some j =>
            refine ⟨j, rfl, ?_⟩
            have e2' : some ((σ[j]?).join) = some (some v) := e2
            cases z : σ[j]? with
            | none => rw [z] at e2'; cases e2'
            | some o' =>
              rw [z] at e2'
              have e2'' : o' = some v := Option.some.inj e2'
              rw [e2'']
      obtain ⟨j, ej, es⟩ := ee
      obtain ⟨x', n1, n2, n3⟩ := hcap i j ej
      have e1' : N[i]? = some x := e1
      rw [n1] at e1'
      cases e1'
      have hfr' : (x, NameKind.free) ∈ sc.names := lookup_mem n3
      have kc := hfree x hfr'
      obtain ⟨m, _, hl⟩ := I3.loc
      obtain ⟨u, r, l⟩ := hl j x v n2 es (.inr (.inl kc))
      refine ⟨u, r, ?_⟩
      rcases l with ⟨l, _⟩ | ⟨_, c, ec, z⟩
      · rw [kc] at l; cases l
      · obtain ⟨c', ec'⟩ := c2 x hfr'
        have := c1 x c' ec'
        rw [ec] at this
        cases this
        obtain ⟨oc, q1, q2⟩ := z
        exact .inr ⟨lookup_relabel_free (sc := sc) n3, c, ec', oc, up4 _ _ q1, q2⟩
    · obtain ⟨v, oc, q1, q2⟩ := I3.cell x c (c1 x c q)
      exact ⟨v, oc, up4 _ _ q1, q2⟩
    · exact I3.hok.fresh (by rw [hC]; exact Nat.le_refl _)
    · show (capSt cap σ).length = N.length
      unfold capSt
      rw [List.length_map, hlen]
  have loop : codeAny (model X.prog X.w) X.A (.compLoop (.ListComp elt [⟨tg, iter, ifs, 0⟩] sc pos) 0 (.ref it) (.ref s2.heap.objs.size) (compEnvC sc cl C X.env)) (compPost (model X.prog X.w) X.A X.xe none (EP X pins σ Q) (.ref s2.heap.objs.size) C)
      { s3 with heap := h4, toks := s3.toks + ([] : List (Str × Value)).length } := by
    have stat : ∀ {H' : Hp}, (∀ b ∈ fp, H' b = none) → ∀ b ∈ fp, FpOk (X.block sc cl N s3 H3 C fp) [] H' b := fun hn b hb =>
      ⟨hn b hb, (ok'.exf b hb).1, ok'.exfs b hb, .inl hb, (ok'.exf b hb).2, fun p hp => (nomatch hp)⟩
    refine comp_loop (fun n s' => ∃ i H', Inv (X.block sc cl N s3 H3 C fp) [] (capSt cap σ) H' s' ∧ tn i s'.heap ∧ (∀ b ∈ fp, H' b = none) ∧ W i n H') ?_ m0 ⟨0, H3, I4, st4, fun b hb => (f3 b hb).1, w0⟩
    rintro n s5 ⟨i, H5, I5, st5, fr5, w5⟩
    rcases turn i n H5 w5 with ⟨stop, qn⟩ | ⟨go, N', hN', step⟩
    · refine thn (T.done (X.block sc cl N s3 H3 C fp) rfl rfl rfl hc i [] s5 _ H5 NoX I5 (stat fr5) st5 stop) fun r s6 ⟨hr, I6⟩ => ?_
      subst hr
      obtain ⟨m, hm, _⟩ := I6.loc
      refine ⟨m, hm, fun h' sb => ⟨.ref s2.heap.objs.size, H5, ?_, rfl, qn⟩⟩
      refine I3.call' (s' := { s6 with heap := h' }) (ch := fp) I6.os (I6.base.but (by rw [← hC]; exact Nat.le_refl _) sb) (I6.hok.but I6.free sb) I6.bare fun b hb => ?_
      obtain ⟨g0, g1, g2, g3, g4, g5⟩ := f3 b hb
      exact ⟨g3, g1, g4, g5⟩
    · refine thn (T.item (X.block sc cl N s3 H3 C fp) rfl rfl rfl hc i [] s5 _ H5 NoX I5 (stat fr5) st5 go) fun r s6 ⟨u, hr, h6⟩ => ?_
      subst hr
      refine thn h6 fun _ s7 ⟨x, H7, I7, r7, y7, st7, fr7⟩ => ?_
      have I7' := I7.pinned (stat fr7) (T.obj _ _ st7)
      have again : ∀ {σ8 : St} {H8 : Hp} {s8 : Shared}, Inv (X.block sc cl N s3 H3 C fp) ([] ++ pinsAt fp s7.heap) σ8 H8 s8 → Ext (capSt cap σ) σ8 → N' H8 →
          ∃ m, m < n ∧ ∃ i H', Inv (X.block sc cl N s3 H3 C fp) [] (capSt cap σ) H' s8 ∧ tn i s8.heap ∧ (∀ b ∈ fp, H' b = none) ∧ W i m H' := fun {σ8 H8 s8} I8 ex n8 => by
        obtain ⟨m', hm, w8⟩ := hN' H8 n8
        have I8' := I8.unpinned.weak ex.len ex.get
        refine ⟨m', hm, i + 1, H8, I8', T.keep _ _ _ st7 fun b hb o q => (I8.pin (b, o) (List.mem_append_right _ (List.mem_append_right _ (mem_pinsAt hb q)))).1, fun b hb => ?_, w8⟩
        obtain ⟨o, q, d⟩ := T.obj _ _ st7 b hb
        exact (I8.pin (b, o) (List.mem_append_right _ (List.mem_append_right _ (mem_pinsAt hb q)))).2.1
      refine thn (hg cl s3 H3 C fp _ s7 _ H7 x u _ I7' r7 (step x H7 y7)) fun _ s8 ⟨σ8, H8, I8, ex8, q8⟩ => ?_
      refine thn (ht cl s3 H3 C fp _ s8 σ8 H8 _ I8 q8) fun b s9 ⟨H9, I9, q9⟩ => ?_
      cases b with
      | false => exact again I9 ex8 q9
      | true =>
        rw [if_pos rfl] at q9 ⊢
        refine thn (he cl s3 H3 C fp _ s9 σ8 H9 _ I9 q9) fun yv s10 ⟨y, H10, I10, r10, zs, e10, l10, q10⟩ => ?_
        refine thn (mt_append (X := X.block sc cl N s3 H3 C fp) _ s10 σ8 H10 (.ref s2.heap.objs.size) [y] (.ref s2.heap.objs.size) [yv] (fun _ H' => N' H') I10 rfl (.cons r10 .nil) ⟨_, zs, y, rfl, rfl, e10, l10, q10⟩) fun _ s11 ⟨_, H11, I11, _, q11⟩ => ?_
        exact again I11 ex8 q11
  exact codeAny_compStart_list loop (T.self X.A 0 _ _ _ st4 loop)
end
def compCk (sc : Scope) (env : Env) (XN N : List Str) (cap : List (Option Nat)) : Bool :=
  (sc.kind == .function) && (sc.names.all fun y => y.2 != .cell) && (sc.names.all fun y => y.2 != .local || sc.names.lookup y.1 == some .local) &&
  (sc.names.all fun y => y.2 != .free || env.kindOf y.1 == some .cell) &&
  ((List.range cap.length).all fun i => match cap[i]? with
    | some (some j) => (match N[i]? with | some x => XN[j]? == some x && sc.names.lookup x == some .free | none => false)
    | _ => true) && (cap.length == N.length)
theorem pe_compB {X : Cx} {elt tg iter : Expr} {ifs : List Expr} {sc : Scope} {pos : Pos} {wi : TI} {g : TG} {tt : TT} {te : TE} (N : List Str) (cap : List (Option Nat)) (hc : X.calm = true) (hi : PI X tg iter wi)
    (hg : ∀ cl s H C ex, PG (X.block sc cl N s H C ex) tg g) (ht : ∀ cl s H C ex, PTs (X.block sc cl N s H C ex) ifs tt) (he : ∀ cl s H C ex, PE (X.block sc cl N s H C ex) elt te)
    (ck : compCk sc X.env X.N N cap = true) (hs : ∀ x, foldedSetIterable iter X.env x = pure x := by intro _; rfl) : PE X (.ListComp elt [⟨tg, iter, ifs, 0⟩] sc pos) (tComp cap wi g tt te) := by
  unfold compCk at ck
  simp only [Bool.and_eq_true] at ck
  obtain ⟨⟨⟨⟨⟨k1, k2⟩, k3⟩, k4⟩, k5⟩, k6⟩ := ck
  refine pe_comp N cap hc hi hg ht he (by simpa using k1) (fun y hy => ?_) (fun y hy z => ?_) (fun n hn => ?_) (fun i j e => ?_) (by simpa using k6) hs
  · have := List.all_eq_true.mp k2 y hy
    simpa using this
  · have := List.all_eq_true.mp k3 y hy
    rw [z] at this
    simpa using this
  · have := List.all_eq_true.mp k4 _ hn
    simpa using this
  · have hi : i < cap.length := (List.getElem?_eq_some_iff.mp e).1
    have := List.all_eq_true.mp k5 i (List.mem_range.mpr hi)
    rw [e] at this
    dsimp only at this
    cases q : N[i]? with
    | none => rw [q] at this; cases this
    | some x =>
      rw [q] at this
      dsimp only at this
      rw [Bool.and_eq_true] at this
      exact ⟨x, rfl, by simpa using this.1, by simpa using this.2⟩
end L2
set_option Elab.async false
set_option linter.all false
set_option maxRecDepth 100000
set_option maxHeartbeats 4000000
namespace L2
open PySem PySem.Spec PyProof.Rows
section
variable {prog : Program} {w : World} {A : Around} {E : Value → Shared → Prop} {s : Shared}
theorem next_tup_item {it t : Addr} {i : Nat} {items : Array Value} {x : Value} {Q : Value → Shared → Prop} (hit : s.heap.IsTupleIter it t i) (ht : s.heap.IsTuple t items) (hx : items[i]? = some x)
    (hQ : ∀ h', h'.IsTupleIter it t (i + 1) → Heap.SameBut it s.heap h' → Q x { s with heap := h' }) : wpAny (model prog w) A (Builtin.SmallTypes.nextOf (.ref it)) Q E s := by
  obtain ⟨o, ho, hc, hd⟩ := id hit; obtain ⟨ol, hol, _, nl, hdl⟩ := ht; unfold Builtin.SmallTypes.nextOf
  refine wpAny_bind (wpAny_callSpecial?_slot (name := Str.ofString "__next__") hit.typeIs F.slot_tuple_iterator_next (wpAny_call_entry F.slot_tuple_iterator_next hit.typeIs F.entry_tuple_iterator_next ?_ (F.args_tuple_iterator_next_1 _)))
  show wpAny _ _ (field (.ref it) 0 >>= _) _ _ s; refine wpAny_bind (wpAny_field ho hd (x := .ref t) rfl ?_)
  show wpAny _ _ (if (Value.ref t == Value.none) = true then _ else _) _ _ s; rw [if_neg (show ¬ ((Value.ref t == Value.none) = true) from Bool.false_ne_true)]
  show wpAny _ _ (field (.ref it) 1 >>= _) _ _ s; refine wpAny_bind (wpAny_field ho hd (x := .int i 0) rfl ?_)
  show wpAny _ _ (seqItems? (.ref t) >>= _) _ _ s; refine wpAny_bind (wpAny_seqItems hol hdl ?_); simp only [Int.toNat_natCast, hx]
  refine wpAny_bind (wpAny_setField ho hd (by simp) (wpAny_pure ⟨x, rfl, wpAny_pure (hQ _ ?_ (Heap.SameBut.update ..))⟩))
  exact ⟨_, Heap.get?_update_self _ ho (Obj.isFreed_of_fields (Obj.data_mapFields hd _)), (Obj.cls_mapFields ..).trans hc, by rw [Obj.data_mapFields hd]; simp [rawInt]⟩
theorem next_tup_end {it t : Addr} {i : Nat} {items : Array Value} {Q : Value → Shared → Prop} (hh : A.handled = none) (hit : s.heap.IsTupleIter it t i) (ht : s.heap.IsTuple t items) (hx : items[i]? = none)
    (hE : ∀ h' e, Heap.ExtBut it s.heap h' → (∃ o, h'.get? e = some o ∧ o.cls = .type "StopIteration") → E (.ref e) { s with heap := h' }) : wpAny (model prog w) A (Builtin.SmallTypes.nextOf (.ref it)) Q E s := by
  obtain ⟨o, ho, hc, hd⟩ := id hit; obtain ⟨ol, hol, _, nl, hdl⟩ := ht; unfold Builtin.SmallTypes.nextOf
  refine wpAny_bind (wpAny_callSpecial?_slot (name := Str.ofString "__next__") hit.typeIs F.slot_tuple_iterator_next (wpAny_call_entry F.slot_tuple_iterator_next hit.typeIs F.entry_tuple_iterator_next ?_ (F.args_tuple_iterator_next_1 _)))
  show wpAny _ _ (field (.ref it) 0 >>= _) _ _ s; refine wpAny_bind (wpAny_field ho hd (x := .ref t) rfl ?_)
  show wpAny _ _ (if (Value.ref t == Value.none) = true then _ else _) _ _ s; rw [if_neg (show ¬ ((Value.ref t == Value.none) = true) from Bool.false_ne_true)]
  show wpAny _ _ (field (.ref it) 1 >>= _) _ _ s; refine wpAny_bind (wpAny_field ho hd (x := .int i 0) rfl ?_)
  show wpAny _ _ (seqItems? (.ref t) >>= _) _ _ s; refine wpAny_bind (wpAny_seqItems hol hdl ?_); simp only [Int.toNat_natCast, hx]
  refine wpAny_bind (wpAny_rule (wpAny_bind (wpAny_setField ho hd (by simp) ?_))); show wpAny _ _ (newExc (.type "StopIteration") [] >>= _) _ _ _
  refine wpAny_bind ?_; simp only [newExc, newTuple]; refine wpAny_bind (wpAny_newObj_type ?_ (by size_fits))
  refine wpAny_bind (m := firstArgMember _ _) (wpAny_of_eq (a := Value.none) (by first | rfl | (simp only [firstArgMember]; rfl)) ?_); refine wpAny_newObj_type ?_ (by size_fits)
  simp only [raiseNew]; refine wpAny_bind (wpAny_handled ?_); first | rw [show A.in1.handled = none from hh] | rw [hh]
  refine wpAny_bind (wpAny_pure (wpAny_throw ?_)); exact hE _ _ (((Heap.SameBut.update ..).extBut.push _).push _) ⟨_, Heap.get?_push_size _ rfl, rfl⟩
theorem draws_tuple {prog : Program} {w : World} {A : Around} (hh : A.handled = none) (it t : Addr) (hne : t ≠ it) (items : Array Value) :
    Draws prog w A it [it, t] items.size (fun i v => items[i]? = some v) (fun i h => h.IsTupleIter it t i ∧ h.IsTuple t items) where
  live := fun _ _ st => let ⟨o, ho, _⟩ := st.1; ⟨o, ho⟩
  frame := fun _ _ _ st hk => ⟨let ⟨o, ho, r⟩ := st.1; ⟨o, hk it (by simp) o ho, r⟩, let ⟨o, ho, r⟩ := st.2; ⟨o, hk t (by simp) o ho, r⟩⟩
  item := fun i s Q E hi st hQ => next_tup_item st.1 st.2 (x := items[i]) (by simp [hi]) fun h' hit' hs' => hQ _ h' s.toks (by simp [hi]) ⟨hit', let ⟨o, ho, r⟩ := st.2; ⟨o, hs'.extBut t o hne ho, r⟩⟩ hs'
  done := fun s Q E st hE => next_tup_end hh st.1 st.2 (by simp) hE
theorem meets_enum_tup (l : Addr) (items : Array Value) (n : Nat) (dct : Option Addr) (sl : Array (Option Value)) :
    Meets (Builtin.«enumerate.__new__» ⟨[.type "enumerate", .ref l], []⟩) (fun _ R s => s.heap.get? l = some { cls := .type "tuple", dict := dct, data := .seq items n, slots := sl } ∧
      R (.ok (.ret (.ref (s.heap.push { cls := .type "tuple_iterator", data := .fields #[.ref l, .int 0 0] }).objs.size)))
        { s with heap := (s.heap.push { cls := .type "tuple_iterator", data := .fields #[.ref l, .int 0 0] }).push { cls := .type "enumerate", data := .fields #[.none, .bool false, .ref s.heap.objs.size, rawInt 0, .none, .none] } }) :=
  .of_wp fun prog w A R s h => by
    obtain ⟨hp, g, d, tk, os⟩ := s; obtain ⟨hl, h⟩ := h; have hsub := sub_enumerate
    have hL : Heap.IsTuple (Shared.heap ⟨hp, g, d, tk, os⟩) l items := ⟨_, hl, rfl, n, rfl⟩
    wp_walk using AutoSeq1.wpAny_loadPart' hl
    refine wpAny_stack_any fun st => wpAny_pure ?_; split
    · rename_i c _ _ _ _ _; cases (c == Value.type "enumerate")
      · wp_walk using AutoSeq1.wpAny_loadPart' hl, wpAny_pyIter_tuple hL; exact ⟨_, rfl, h⟩
      · wp_walk using AutoSeq1.wpAny_loadPart' hl, wpAny_pyIter_tuple hL; exact ⟨_, rfl, h⟩
    · wp_walk using AutoSeq1.wpAny_loadPart' hl, wpAny_pyIter_tuple hL; exact ⟨_, rfl, h⟩
theorem call_enum_tup {l : Addr} {items : Array Value} {Q : Value → Shared → Prop} (hL : s.heap.IsTuple l items)
    (h : ∀ h', IsEnum h' (s.heap.objs.size + 1) s.heap.objs.size 0 .none → h'.IsTupleIter s.heap.objs.size l 0 → h'.objs.size = s.heap.objs.size + 2 →
      (∀ b o, s.heap.get? b = some o → h'.get? b = some o) → Q (.ref (s.heap.objs.size + 1)) { s with heap := h' }) : wpAny (model prog w) A (call (.type "enumerate") [.ref l]) Q E s := by
  obtain ⟨⟨c, dct, dt, sl⟩, hl, hc, n, hd⟩ := hL; replace hc : c = .type "tuple" := hc; replace hd : dt = .seq items n := hd; subst hc hd
  refine callType_new F.called_enumerate (by decide) (F.typeCall_enumerate_1 _) (F.newCall_enumerate_1 _) (fun obj => F.args_object_init_2 obj _) F.entry_enumerate_new (meets_enum_tup l items n dct sl) ⟨hl, ?_⟩
  have hz : (s.heap.push { cls := .type "tuple_iterator", data := .fields #[.ref l, .int 0 0] }).objs.size = s.heap.objs.size + 1 := Heap.size_push ..
  show _ ∧ _
  rw [hz]
  have he : IsEnum ((s.heap.push { cls := .type "tuple_iterator", data := .fields #[.ref l, .int 0 0] }).push { cls := .type "enumerate", data := .fields #[.none, .bool false, .ref s.heap.objs.size, rawInt 0, .none, .none] }) (s.heap.objs.size + 1) s.heap.objs.size 0 .none := by
    have := Heap.get?_push_size (s.heap.push { cls := .type "tuple_iterator", data := .fields #[.ref l, .int 0 0] }) (o := { cls := .type "enumerate", data := .fields #[.none, .bool false, .ref s.heap.objs.size, rawInt 0, .none, .none] }) rfl
    rw [hz] at this; exact this
  exact ⟨⟨_, he, rfl⟩, h _ he ⟨_, Heap.get?_push_of_some _ (Heap.get?_push_size _ rfl), rfl, rfl⟩ (by rw [Heap.size_push, hz]) fun b o x => Heap.get?_push_of_some _ (Heap.get?_push_of_some _ x)⟩
end
section
variable {X : Cx} {pins : List (Addr × Obj)} {σ : St} {H : Hp} {s : Shared} {h' : Heap}
theorem Inv.turnedN {t' : Nat} {ch : List Addr} (I : Inv X pins σ H s) (k : ∀ b o, b ∉ ch → s.heap.get? b = some o → h'.get? b = some o) (hf : ∀ b ∈ ch, FpOk X pins H b) : Inv X pins σ H { s with heap := h', toks := t' } := by
  refine I.step (g' := s.gens) (d' := s.drawn) (ch := ch) (fun b hb => ?_) (fun b o _ _ hc e _ => k b o hc e) (fun b o _ _ hc e _ => ⟨o.slots, k b o hc e⟩) (fun _ _ _ _ n => n)
    (fun b o hc e => ⟨o, k b o hc e⟩) (fun _ _ e => e) (fun _ _ _ e => e) (fun b ps e => ⟨#[], by rw [e]; simp⟩) (fun m hm => ?_) (fun b u e => ?_) I.bare
  · obtain ⟨f0, f1, f2, f3, f4, f5⟩ := hf b hb
    exact ⟨f3, f1, f4, f5⟩
  · obtain ⟨o, es, ep, ho, r⟩ := hm
    exact ⟨o, es, ep, k _ o (fun z => (hf _ z).2.1 rfl) ho, r⟩
  · refine (I.hok b u e).stay (fun c v hc q => k c v (fun z => ?_) q) (fun _ q => q) fun _ _ q => q
    have n := (hf c z).1
    rcases hc with y | y
    · rw [y, e] at n; cases n
    · rw [y] at n; cases n
theorem Inv.turnedL {t' : Nat} {ch : List Addr} {a : Addr} {o : HO} (I : Inv X pins σ H s) (k : ∀ b o, b ∉ ch → s.heap.get? b = some o → h'.get? b = some o) (hf : ∀ b ∈ ch, FpOk X pins H b) (hp : s.heap.objs.size ≤ a)
    (new : ObjOk X.prog X.w (upd H a o) h' a o) : Inv X pins σ (upd H a o) { s with heap := h', toks := t' } := by
  have hn : H a = none := I.hok.fresh hp
  have ne : ∀ b u, s.heap.get? b = some u → b ≠ a := fun b u e => Nat.ne_of_lt (Nat.lt_of_lt_of_le (Heap.lt_size e) hp)
  refine I.step (g' := s.gens) (d' := s.drawn) (ch := ch) (fun b hb => ?_) (fun b o _ _ hc e _ => k b o hc e) (fun b o _ _ hc e _ => ⟨o.slots, k b o hc e⟩) (fun b u _ e n => by rw [upd_ne (ne b u e)]; exact n)
    (fun b o hc e => ⟨o, k b o hc e⟩) (fun b xs q => by rw [upd_ne (ne_of_none q hn)]; exact q) (fun b u xs q => by rw [upd_ne (ne_of_none q hn)]; exact q) (fun b ps q => ⟨#[], by rw [upd_ne (ne_of_none q hn), q]; simp⟩) (fun m hm => ?_) (fun b u e => ?_) I.bare
  · obtain ⟨f0, f1, f2, f3, f4, f5⟩ := hf b hb
    exact ⟨f3, f1, f4, f5⟩
  · obtain ⟨o, es, ep, ho, r⟩ := hm
    exact ⟨o, es, ep, k _ o (fun z => (hf _ z).2.1 rfl) ho, r⟩
  · by_cases hb : b = a
    · subst hb
      rw [upd_same] at e
      cases e
      exact new
    · rw [upd_ne hb] at e
      refine (I.hok b u e).stay (fun c v hc q => k c v (fun z => ?_) q) (fun c q => by rw [upd_ne (ne_of_none q hn)]; exact q) fun c xs q => by rw [upd_ne (ne_of_none q hn)]; exact q
      have n := (hf c z).1
      rcases hc with y | y
      · rw [y, e] at n; cases n
      · rw [y] at n; cases n
end
def Ite (K : PySem.W.Frag) (a : Addr) : It :=
  ⟨fun i H => ∃ xs x, SqT K H a xs ∧ xs[i]? = some x, fun i H x H' => ∃ T y, H T = none ∧ x = .ref T ∧ H' = upd H T (.tup [.int i, y]) ∧ ∀ xs, SqT K H a xs → xs[i]? = some y, fun i H => ∃ xs, SqT K H a xs ∧ xs.length ≤ i⟩
theorem turn_enum {P : Program} {w : World} {K : PySem.W.Frag} {es : List Expr} {k : Nat} {pos : Pos} (a e it : Addr) (hei : e ≠ it) :
    Turn P w K (.Tuple es k pos) (Ite K a) [e, it] e (fun i h => (∃ old, IsEnum h e it i old) ∧ h.IsTupleIter it a i) where
  mem := by simp
  obj := fun i h st b hb => by
    obtain ⟨⟨old, z⟩, o, e', c, d⟩ := st
    rcases List.mem_cons.mp hb with y | y
    · subst y; exact ⟨_, z, fun v q => by have q' : Data.fields _ = Data.cell v := q; cases q'⟩
    · cases List.mem_singleton.mp y
      exact ⟨o, e', fun v q => by rw [d] at q; cases q⟩
  keep := fun i h h' st k => by
    obtain ⟨⟨old, z⟩, o, e', r⟩ := st
    exact ⟨⟨old, k e (by simp) _ z⟩, o, k it (by simp) o e', r⟩
  item := by
    intro X hP hw hK hc i pins s σ H E I hf st hg
    subst hP hw hK
    obtain ⟨xs, x, hq, hx⟩ := hg
    obtain ⟨its, rv, p, hz⟩ := I.tuple hq
    obtain ⟨u, hu, ru⟩ := rv.get hx
    obtain ⟨⟨old, he⟩, hit⟩ := st
    have p' : s.heap.IsTuple a its.toArray := p
    have hai : a ≠ it := fun z => by
      obtain ⟨o1, q1, c1, _⟩ := p'
      obtain ⟨o2, q2, c2, _⟩ := hit
      rw [z, q2] at q1; cases q1; rw [c2] at c1; injection c1 with c3; exact absurd c3 (by decide)
    have hae : a ≠ e := fun z => by
      obtain ⟨o1, q1, c1, _⟩ := p'
      rw [z] at q1
      have he' : s.heap.get? e = some _ := he
      rw [he'] at q1; cases q1; injection c1 with c3; exact absurd c3 (by decide)
    have hilt : i < its.toArray.size := by
      have := (List.getElem?_eq_some_iff.mp hu).1
      simpa using this
    refine wpAny_pyNext_enum_itemD (draws_tuple (A := X.A.in1) (I.ok.hd hc) it a hai its.toArray) he ⟨hit, p'⟩ hilt hei (by simp [hei, Ne.symm hae]) fun y h1 tk hy ho hst hT hsz hk => ?_
    have hyu : y = u := by
      have : (its.toArray)[i]? = some u := by simpa using hu
      rw [hy] at this; exact Option.some.inj this
    subst hyu
    refine ⟨_, rfl, ?_⟩
    have hn : H s.heap.objs.size = none := I.fresh
    have I1 : Inv X pins σ (upd H s.heap.objs.size (.tup [.int i, x])) { s with heap := h1, toks := tk + 1 } := I.turnedL (ch := [e, it]) (fun b o hb q => hk b o (fun z => hb (by simp [z])) (fun z => hb (by simp [z])) q) hf (Nat.le_refl _)
      ⟨Nat.le_of_lt (small1000 (show 2 ≤ 1000 by decide)), [.int i tk, y], .cons ⟨_, rfl⟩ (.cons ru .nil), _, hT, rfl, _, rfl⟩
    have neT : ∀ b ∈ [e, it], b ≠ s.heap.objs.size := fun b hb => by
      rcases List.mem_cons.mp hb with z | z
      · subst z; exact Nat.ne_of_lt (Heap.lt_size (show s.heap.get? b = some _ from he))
      · cases List.mem_singleton.mp z
        obtain ⟨o2, q2, _⟩ := hit
        exact Nat.ne_of_lt (Heap.lt_size q2)
    refine wpAny_letOwnedTupleGo_enum (s := { s with heap := h1, toks := tk + 1 }) ho fun h2 he2 hs2 => ⟨.ref s.heap.objs.size, _, ?_, rfl, ⟨_, x, hn, rfl, rfl, fun ys hy' => by rw [I.tuple_inj hy' hq]; exact hx⟩, ⟨⟨_, he2⟩, ?_⟩, fun b hb => ?_⟩
    · refine I1.turnedN (t' := tk + 1) (ch := [e]) (fun b o hb q => (hs2.2 b (fun z => hb (by simp [z]))).trans q) fun b hb => ?_
      have eb := List.mem_singleton.mp hb
      subst eb
      obtain ⟨f0, f⟩ := hf b (by simp)
      exact ⟨by rw [upd_ne (neT b (by simp))]; exact f0, f⟩
    · obtain ⟨o2, q2, r2⟩ := hst.1
      exact ⟨o2, (hs2.2 it hei.symm).trans q2, r2⟩
    · rw [upd_ne (neT b hb)]; exact (hf b hb).1
  done := by
    intro X hP hw hK hc i pins s σ H E I hf st hg
    subst hP hw hK
    obtain ⟨xs, hq, hx⟩ := hg
    obtain ⟨its, rv, p, hz⟩ := I.tuple hq
    obtain ⟨⟨old, he⟩, hit⟩ := st
    have p' : s.heap.IsTuple a its.toArray := p
    have hai : a ≠ it := fun z => by
      obtain ⟨o1, q1, c1, _⟩ := p'
      obtain ⟨o2, q2, c2, _⟩ := hit
      rw [z, q2] at q1; cases q1; rw [c2] at c1; injection c1 with c3; exact absurd c3 (by decide)
    have hl := rv.length
    have hT : s.TypeIs (.ref e) "enumerate" := ⟨_, he, rfl⟩
    unfold pyNext
    refine wpAny_bind (wpAny_attempt (wpAny_callSpecial?_slot (name := Str.ofString "__next__") hT F.slot_enumerate_next (wpAny_call_entry F.slot_enumerate_next hT F.entry_enumerate_next ?_ (F.args_enumerate_next_1 _))))
    show wpAny _ _ (field (.ref e) 2 >>= _) _ _ _
    refine wpAny_bind (wpAny_field he rfl (x := .ref it) rfl ?_)
    refine wpAny_bind (next_tup_end (I.ok.hd hc) hit p' (by simp; omega) fun h1 x hx1 ⟨o, ho, hc'⟩ => ?_)
    refine wpAny_bind (wpAny_isInstance (T := "StopIteration") (b := true) ⟨o, ho, hc'⟩ isSubtype_stop ?_)
    exact wpAny_pure ⟨rfl, I.turnedN (t' := s.toks) (ch := [it]) (fun b o hb q => hx1 b o (fun z => hb (by simp [z])) q) fun b hb => hf b (by simp at hb ⊢; exact .inr hb)⟩
  self := fun _ _ _ _ _ st h => let ⟨⟨_, he⟩, _⟩ := st; wpAny_pyIter_enum he h
def iEnum (K : PySem.W.Frag) (ta : TA) : TI := fun σ H R => ta σ H fun vs H1 => ∃ a, vs = [.ref a] ∧ (∃ xs, SqT K H1 a xs) ∧ R (Ite K a) H1
theorem pi_enum {X : Cx} {es : List Expr} {k : Nat} {tpos : Pos} {a : Expr} {ta : TA} {p pos : Pos} (hg : Gl X "enumerate") (hm : X.mg "enumerate" = none) (ha : PA X [a] ta) (hs : starEach [a] X.env = [(false, eval a X.env)] := by rfl) :
    PI X (.Tuple es k tpos) (.Call (.Name "enumerate" p) [a] [] pos) (iEnum X.K ta) := by
  intro pins s σ H R I h
  refine Call_ (ld_blt I hg hm boot_enumerate (PyProof.Rows.callWith_type1 (thn (ha pos pins s σ H _ I h) fun us s1 ⟨vs, H1, I1, r1, q1⟩ => ?_) hs rfl))
  obtain ⟨b, e, ⟨xs, hq⟩, q⟩ := q1
  subst e
  obtain ⟨u, rfl, ru⟩ := vals1 r1
  cases ru
  obtain ⟨its, rv, tp, hz⟩ := I1.tuple hq
  refine call_enum_tup (show s1.heap.IsTuple b its.toArray from tp) fun h' he hit hsz hk => ?_
  refine wpAny_pyIter_enum he ⟨_, [s1.heap.objs.size + 1, s1.heap.objs.size], _, _, H1, rfl, I1.kept (t' := s1.toks) hk, turn_enum b _ _ (Nat.succ_ne_self _), ⟨⟨_, he⟩, hit⟩, fun c hc => ?_, q⟩
  have ge : s1.heap.objs.size ≤ c := by
    rcases List.mem_cons.mp hc with z | z
    · rw [z]; exact Nat.le_succ _
    · rw [List.mem_singleton.mp z]; exact Nat.le_refl _
  exact I1.fpOk ge (I1.hok.fresh ge)
theorem for_enum {K : PySem.W.Frag} {a : Addr} {xs : List V} {g : TG} {tb : TS} {D : Ends} {σ : St} {H : Hp} (Pv : Nat → St → Hp → Prop) (h0 : Pv 0 σ H) (hl : ∀ i σ H, i ≤ xs.length → Pv i σ H → SqT K H a xs)
    (hs : ∀ i x T σ H, xs[i]? = some x → Pv i σ H → H T = none → g (.ref T) σ (upd H T (.tup [.int i, x])) fun σ2 H2 => tb { D with nx := Pv (i + 1), ct := Pv (i + 1), bk := D.nx } σ2 H2) (hd : ∀ σ H, Pv xs.length σ H → D.nx σ H) :
    ∃ W : Nat → Nat → St → Hp → Prop, (∃ m, W 0 m σ H) ∧ ∀ i m σ H, W i m σ H →
      ((Ite K a).stop i H ∧ D.nx σ H) ∨ ((Ite K a).go i H ∧ ∃ N : St → Hp → Prop, (∀ σ' H', N σ' H' → ∃ m', m' < m ∧ W (i + 1) m' σ' H') ∧ ∀ x H', (Ite K a).yld i H x H' → g x σ H' fun σ2 H2 => tb { D with nx := N, ct := N, bk := D.nx } σ2 H2) := by
  refine ⟨fun i m σ H => m = xs.length - i ∧ i ≤ xs.length ∧ Pv i σ H, ⟨xs.length, by simp, Nat.zero_le _, h0⟩, ?_⟩
  rintro i m σ H ⟨rfl, hi, p⟩
  have q := hl i σ H hi p
  by_cases hlt : i < xs.length
  · refine .inr ⟨⟨xs, xs[i], q, by simp [hlt]⟩, Pv (i + 1), fun σ' H' p' => ⟨xs.length - (i + 1), by omega, rfl, hlt, p'⟩, fun x H' y => ?_⟩
    obtain ⟨T, z, hT, ex, eH, y⟩ := y
    subst ex eH
    exact hs i z T σ H (y xs q) p hT
  · have e : i = xs.length := by omega
    subst e
    exact .inl ⟨⟨xs, q, Nat.le_refl _⟩, hd σ H p⟩
end L2
set_option Elab.async false
set_option linter.all false
set_option maxRecDepth 100000
set_option maxHeartbeats 4000000
namespace L2
open PySem PySem.Spec PyProof.Rows
section
variable {X : Cx}
def rCatU (K : PySem.W.Frag) : R2 := fun x y H Q => ∃ a b xs ys, x = .ref a ∧ y = .ref b ∧ SqT K H a xs ∧ SqT K H b ys ∧ xs.length + ys.length ≤ sizeLine ∧
  ∀ p H', Same H H' → SqT K H' p (xs ++ ys) → Q (.ref p) H'
theorem same_upd {H : Hp} {p : Addr} {o : HO} (h : H p = none) : Same H (upd H p o) := fun b u q => by rw [upd_ne (ne_of_none q h)]; exact q
def rIsi (K : PySem.W.Frag) : List V → Hp → VK → Prop := fun xs H Q => ∃ x T t b, xs = [x, .ty T] ∧ TyOf K H x t ∧ PySem.W.kitOne K t (.type T) = some b ∧ Q (.bl b) H
theorem call_isi : CallR X (.builtin "isinstance") (rIsi X.K) := by
  intro pins s σ H xs us Q I r h
  obtain ⟨x, T, t, b, rfl, ty, e, q⟩ := h
  obtain ⟨u, w', rfl, ru, rw'⟩ := vals2 r
  cases rw'
  exact isinst_ok I ru ty e fun tk => ⟨.bl b, H, I.tok tk, rfl, q⟩
def rSlS : V → Option Int → Option Int → Hp → VK → Prop := fun x lo hi H Q => ∃ z, x = .str z ∧ z.length ≤ sizeLine ∧ ((Txt.slice z lo hi).length ≤ z.length → Q (.str (Txt.slice z lo hi)) H)
def rEqS (neg : Bool) : R2 := fun x y H Q => ∃ (p r : Addr) (xs ys : List Str), x = .ref p ∧ y = .ref r ∧ H p = some (.lst (xs.map V.str)) ∧ H r = some (.lst (ys.map V.str)) ∧ Q (.bl (if neg then !decide (xs = ys) else decide (xs = ys))) H
theorem flat_strs (xs : List Str) : (xs.map V.str).all flatV = true := by
  rw [List.all_eq_true]
  intro x hx
  obtain ⟨y, _, rfl⟩ := List.mem_map.mp hx
  rfl
def rSortD : List V → Hp → VK → Prop := fun xs H Q => ∃ (d : Addr) (kvs : List (Key × V)) (ks : List Str), xs = [.ref d] ∧ H d = some (.dK kvs) ∧ kvs.map (·.1) = ks.map Sum.inr ∧ ks.length < 64 ∧
  ∀ (l : Addr) (ss : List Str), H l = none → ss.Perm ks → ss.Pairwise (fun a b => ltCps b.cps.toList a.cps.toList = false) → Q (.ref l) (upd H l (.lst (ss.map V.str)))
theorem strs_of {P : Program} {w : World} : ∀ {vs : List (Key × Value)} {ks : List Str} {us : List Value}, vs.map (·.1) = ks.map Sum.inr → us.length = vs.length →
    (∀ (j : Nat) (v : Value), us[j]? = some v → ∃ k x, vs[j]? = some (k, x) ∧ (mixKind P w).is k v = true) → StrsAre us ks
  | [], [], [], _, _, _ => .nil
  | (k, x) :: vs, y :: ks, u :: us, e, hl, h => by
    have e1 : k = Sum.inr y := (List.cons.inj e).1
    have e2 : vs.map (·.1) = ks.map Sum.inr := (List.cons.inj e).2
    obtain ⟨k', x', q, m⟩ := h 0 u rfl
    have q' : (k, x) = (k', x') := Option.some.inj q
    cases q'
    subst e1
    rcases keyIs_shape (show keyIs (Sum.inr y) u = true from m) with ⟨i, t, z, _⟩ | ⟨z, t, z1, z2⟩
    · cases z
    · cases z1
      subst z2
      exact .cons _ t (strs_of e2 (by simpa using hl) fun j v hv => h (j + 1) v (by simpa using hv))
  | [], _ :: _, _, e, _, _ => nomatch e
  | _ :: _, [], _, e, _, _ => nomatch e
  | [], [], _ :: _, _, e, _ => nomatch e
  | _ :: _, _ :: _, [], _, e, _ => nomatch e
theorem vals_strs : ∀ {us : List Value} {ks : List Str}, StrsAre us ks → Vals (ks.map V.str) us
  | _, _, .nil => .nil
  | _, _, .cons y t r => .cons ⟨t, rfl⟩ (vals_strs r)
theorem cps_trans {a b c : Str} (h1 : ltCps b.cps.toList a.cps.toList = false) (h2 : ltCps c.cps.toList b.cps.toList = false) : ltCps c.cps.toList a.cps.toList = false := by
  rw [ltCps_eq, decide_eq_false_iff_not] at *
  exact List.le_trans (l₁ := a.cps.toList) (l₂ := b.cps.toList) (l₃ := c.cps.toList) h1 h2
theorem rising_all : ∀ (p : Str) (l : List Str), risingS p l = true → (p :: l).Pairwise (fun a b => ltCps b.cps.toList a.cps.toList = false)
  | p, [], _ => by simp
  | p, x :: r, h => by
    have h' : (!ltCps x.cps.toList p.cps.toList && risingS x r) = true := h
    rw [Bool.and_eq_true] at h'
    have h1 : ltCps x.cps.toList p.cps.toList = false := by simpa using h'.1
    have ih := rising_all x r h'.2
    refine List.pairwise_cons.mpr ⟨fun y hy => ?_, ih⟩
    rcases List.mem_cons.mp hy with z | z
    · subst z; exact h1
    · exact cps_trans h1 ((List.pairwise_cons.mp ih).1 y z)
theorem pairwise_sorted : ∀ {l : List Str}, sortedS l = true → l.Pairwise (fun a b => ltCps b.cps.toList a.cps.toList = false)
  | [], _ => .nil
  | x :: r, h => rising_all x r h
theorem kv_keys {kvs : List (Key × V)} {vs : List (Key × Value)} (h : KV kvs vs) : kvs.map (·.1) = vs.map (·.1) := by
  unfold KV at h
  induction h with
  | nil => rfl
  | cons r _ ih => simp [r.1, ih]
end
end L2
set_option Elab.async false
set_option linter.all false
set_option maxRecDepth 100000
set_option maxHeartbeats 4000000
namespace L2
open PySem PySem.Spec PyProof.Rows
structure FnB (P : Program) (w : World) (K : PySem.W.Frag) (mg : Str → Option Value) (base : Heap) (k : Nat) (x : Str) (f : Addr) (fd : FuncData) (ps : List Str) (sp : Sp) : Prop where
  ok : FnOk P w K mg base CX0 k f fd ps sp
  bd : Binds K fd ps []
  kp : PySem.W.keepIn K (.ref f) = true
  gl : mg x = some (.ref f)
theorem FnB.up {P : Program} {w : World} {K : PySem.W.Frag} {mg : Str → Option Value} {base : Heap} {j k : Nat} {x : Str} {f : Addr} {fd : FuncData} {ps : List Str} {sp : Sp} (F : FnB P w K mg base j x f fd ps sp) (h : j ≤ k) : FnB P w K mg base k x f fd ps sp :=
  ⟨F.ok.mono h, F.bd, F.kp, F.gl⟩
def Tk (H H' : Hp) : Prop := ∀ b xs, H b = some (.tup xs) → H' b = some (.tup xs)
theorem Tk.refl (H : Hp) : Tk H H := fun _ _ h => h
theorem Tk.trans {H H1 H2 : Hp} (a : Tk H H1) (b : Tk H1 H2) : Tk H H2 := fun c xs h => b c xs (a c xs h)
theorem Same.tk {H H' : Hp} (h : Same H H') : Tk H H' := fun b xs e => h b _ e
theorem Tk.lst {H : Hp} {p : Addr} {xs : List V} {o : HO} (h : H p = some (.lst xs)) : Tk H (upd H p o) := fun b ys e => by
  rw [upd_ne (fun z => by subst z; rw [h] at e; cases e)]; exact e
theorem Tk.dk {H : Hp} {p : Addr} {kvs : List (Key × V)} {o : HO} (h : H p = some (.dK kvs)) : Tk H (upd H p o) := fun b ys e => by
  rw [upd_ne (fun z => by subst z; rw [h] at e; cases e)]; exact e
section
variable {X : Cx}
def rCatV : R2 := fun x y H Q => ∃ a b xs ys, x = .ref a ∧ y = .ref b ∧ H a = some (.tup xs) ∧ H b = some (.tup ys) ∧ xs.length + ys.length ≤ sizeLine ∧
  ∀ p H', Same H H' → H' p = some (.tup (xs ++ ys)) → Q (.ref p) H'
theorem op_catV : OpR X (binaryOp .Add) rCatV := by
  intro pins s σ H x y v u Q I rx ry h
  obtain ⟨a, b, xs, ys, rfl, rfl, ha, hb, hz, q⟩ := h
  by_cases hx : xs = []
  · subst hx
    cases rx
    cases ry
    obtain ⟨its, r1, p1, _⟩ := I.tuple (SqT.of ha)
    obtain ⟨its2, r2, p2, _⟩ := I.tuple (SqT.of hb)
    have e0 : its = [] := r1.nil_iff.mpr rfl
    subst e0
    obtain ⟨⟨cls, dd, data, sl⟩, ho, hc, n, hd⟩ := id p1
    obtain ⟨⟨cls2, dd2, data2, sl2⟩, ho2, hc2, n2, hd2⟩ := id p2
    simp only at hc hd hc2 hd2
    subst hc hd hc2 hd2
    exact concat_meets ⟨_, ho, rfl⟩ ⟨_, ho2, rfl⟩ noFill_tuple_add seq_tuple_add PySem.F.slot_tuple_add PySem.F.entry_tuple_add (PySem.F.args_tuple_add_2 _ _) (tuple_addW0 a b _ _ n n2 dd dd2 sl sl2 rfl) ⟨ho, ho2, ⟨.ref b, H, I, rfl, q b H (.refl H) hb⟩⟩
  · refine op_catT pins s σ H (.ref a) (.ref b) v u Q I rx ry ⟨a, b, xs, ys, rfl, rfl, SqT.of ha, SqT.of hb, hx, hz, fun e => ?_, fun e p hp => ?_⟩
    · subst e
      exact q a H (.refl H) (by rw [List.append_nil]; exact ha)
    · exact q p _ (same_upd hp) upd_same
def rSlV : V → Option Int → Option Int → Hp → VK → Prop := fun x lo hi H Q => ∃ a xs, x = .ref a ∧ H a = some (.tup xs) ∧
  ¬ (HT.sIx xs.length 0 lo = 0 ∧ HT.sIx xs.length xs.length hi = xs.length) ∧ ∀ p H', Same H H' → H' p = some (.tup (cutV xs lo hi)) → Q (.ref p) H'
theorem sl_tupV : SlR X rSlV := by
  intro pins s σ H x v vl vu lo hi sl Q I rx hs pl pu h
  obtain ⟨a, xs, rfl, ha, hw, q⟩ := h
  exact sl_tup pins s σ H (.ref a) v vl vu lo hi sl Q I rx hs pl pu ⟨a, xs, rfl, SqT.of ha, hw, fun p hp => q p _ (same_upd hp) upd_same⟩
end
inductive Atom where
  | name (x : Str) | num (n : Int) | gap (g : Str)
inductive Bin where
  | add | sub | mul | thn
def Bin.s : Bin → Str
  | .add => "add" | .sub => "sub" | .mul => "mul" | .thn => "then"
inductive Tr where
  | num (n : Int) | name (x : Str) | ask (x : Str) | stop (x : Str) | gap (g : Str) (as : List Atom)
  | say (a : Tr) | bin (o : Bin) (a b : Tr) | ite (a b c : Tr) | lett (x : Str) (a b : Tr)
def AtRep (H : Hp) : Atom → V → Prop
  | .name x, v => ∃ a, v = .ref a ∧ H a = some (.tup [.str "name", .str x])
  | .num n, v => ∃ a, v = .ref a ∧ H a = some (.tup [.str "num", .int n])
  | .gap g, v => ∃ a b, v = .ref a ∧ H a = some (.tup [.str "gap", .str g, .ref b]) ∧ H b = some (.tup [])
def Rep (H : Hp) : Tr → V → Prop
  | .num n, v => ∃ a, v = .ref a ∧ H a = some (.tup [.str "num", .int n])
  | .name x, v => ∃ a, v = .ref a ∧ H a = some (.tup [.str "name", .str x])
  | .ask x, v => ∃ a, v = .ref a ∧ H a = some (.tup [.str "ask", .str x])
  | .stop x, v => ∃ a, v = .ref a ∧ H a = some (.tup [.str "stop", .str x])
  | .gap g as, v => ∃ a b us, v = .ref a ∧ H a = some (.tup [.str "gap", .str g, .ref b]) ∧ H b = some (.tup us) ∧ us.length ≤ 1000 ∧ Paired (AtRep H) as us
  | .say t, v => ∃ a u, v = .ref a ∧ H a = some (.tup [.str "say", u]) ∧ Rep H t u
  | .bin o s t, v => ∃ a u w, v = .ref a ∧ H a = some (.tup [.str o.s, u, w]) ∧ Rep H s u ∧ Rep H t w
  | .ite r s t, v => ∃ a u w z, v = .ref a ∧ H a = some (.tup [.str "if", u, w, z]) ∧ Rep H r u ∧ Rep H s w ∧ Rep H t z
  | .lett x s t, v => ∃ a u w, v = .ref a ∧ H a = some (.tup [.str "let", .str x, u, w]) ∧ Rep H s u ∧ Rep H t w
theorem AtRep.mono {H H' : Hp} (k : Tk H H') : ∀ {t : Atom} {v : V}, AtRep H t v → AtRep H' t v
  | .name _, _, ⟨a, e, h⟩ => ⟨a, e, k _ _ h⟩
  | .num _, _, ⟨a, e, h⟩ => ⟨a, e, k _ _ h⟩
  | .gap _, _, ⟨a, b, e, h, h'⟩ => ⟨a, b, e, k _ _ h, k _ _ h'⟩
theorem Rep.mono {H H' : Hp} (k : Tk H H') : ∀ {t : Tr} {v : V}, Rep H t v → Rep H' t v
  | .num _, _, ⟨a, e, h⟩ => ⟨a, e, k _ _ h⟩
  | .name _, _, ⟨a, e, h⟩ => ⟨a, e, k _ _ h⟩
  | .ask _, _, ⟨a, e, h⟩ => ⟨a, e, k _ _ h⟩
  | .stop _, _, ⟨a, e, h⟩ => ⟨a, e, k _ _ h⟩
  | .gap _ _, _, ⟨a, b, us, e, h, h', n, p⟩ => ⟨a, b, us, e, k _ _ h, k _ _ h', n, Paired.mapP p fun _ _ z => z.mono k⟩
  | .say _, _, ⟨a, u, e, h, r⟩ => ⟨a, u, e, k _ _ h, r.mono k⟩
  | .bin _ _ _, _, ⟨a, u, w, e, h, r, s⟩ => ⟨a, u, w, e, k _ _ h, r.mono k, s.mono k⟩
  | .ite _ _ _, _, ⟨a, u, w, z, e, h, r, s, t⟩ => ⟨a, u, w, z, e, k _ _ h, r.mono k, s.mono k, t.mono k⟩
  | .lett _ _ _, _, ⟨a, u, w, e, h, r, s⟩ => ⟨a, u, w, e, k _ _ h, r.mono k, s.mono k⟩
inductive Kd where
  | num | name | ask | stop | gap | say | add | sub | mul | thn | ite | lett
  deriving DecidableEq
def Kd.s : Kd → Str
  | .num => "num" | .name => "name" | .ask => "ask" | .stop => "stop" | .gap => "gap"
  | .say => "say" | .add => "add" | .sub => "sub" | .mul => "mul" | .thn => "then" | .ite => "if" | .lett => "let"
def Kd.leaf : Kd → Bool
  | .num => true | .name => true | .ask => true | .stop => true | .gap => true
  | _ => false
theorem Kd.inj {a b : Kd} (h : a.s = b.s) : a = b := by
  revert h
  cases a <;> cases b <;> first | (intro _; rfl) | (intro h; exact absurd h (by decide +kernel))
theorem Kd.eq_iff {a b : Kd} : (V.str a.s = V.str b.s) ↔ a = b := ⟨fun h => Kd.inj (V.str.inj h), fun h => by rw [h]⟩
def Bin.kd : Bin → Kd
  | .add => .add | .sub => .sub | .mul => .mul | .thn => .thn
def Tr.kd : Tr → Kd
  | .num _ => .num | .name _ => .name | .ask _ => .ask | .stop _ => .stop | .gap _ _ => .gap
  | .say _ => .say | .bin o _ _ => o.kd | .ite _ _ _ => .ite | .lett _ _ _ => .lett
def Tr.sign (t : Tr) : Str := t.kd.s
theorem Bin.kd_s (o : Bin) : o.kd.s = o.s := by cases o <;> rfl
def Tr.parts : Tr → List Tr
  | .say a => [a] | .bin _ a b => [a, b] | .ite a b c => [a, b, c] | .lett _ a b => [a, b]
  | _ => []
def Tr.head : Tr → Nat
  | .gap _ _ => 3 | .say _ => 1 | .bin _ _ _ => 1 | .ite _ _ _ => 1
  | _ => 2
theorem Rep.all {H : Hp} : ∀ {t : Tr} {v : V}, Rep H t v → ∃ a hs us, v = .ref a ∧ H a = some (.tup (.str t.sign :: hs ++ us)) ∧ hs.length + 1 = t.head ∧ Paired (Rep H) t.parts us
  | .num n, _, ⟨a, e, h⟩ => ⟨a, [.int n], [], e, h, rfl, .nil⟩
  | .name x, _, ⟨a, e, h⟩ => ⟨a, [.str x], [], e, h, rfl, .nil⟩
  | .ask x, _, ⟨a, e, h⟩ => ⟨a, [.str x], [], e, h, rfl, .nil⟩
  | .stop x, _, ⟨a, e, h⟩ => ⟨a, [.str x], [], e, h, rfl, .nil⟩
  | .gap g _, _, ⟨a, b, us, e, h, h', _, p⟩ => ⟨a, [.str g, .ref b], [], e, h, rfl, .nil⟩
  | .say _, _, ⟨a, u, e, h, r⟩ => ⟨a, [], [u], e, h, rfl, .cons r .nil⟩
  | .bin o _ _, _, ⟨a, u, w, e, h, r, s⟩ => ⟨a, [], [u, w], e, (by show _ = some (HO.tup [V.str o.kd.s, u, w]); rw [Bin.kd_s]; exact h), rfl, .cons r (.cons s .nil)⟩
  | .ite _ _ _, _, ⟨a, u, w, z, e, h, r, s, t⟩ => ⟨a, [], [u, w, z], e, h, rfl, .cons r (.cons s (.cons t .nil))⟩
  | .lett x _ _, _, ⟨a, u, w, e, h, r, s⟩ => ⟨a, [.str x], [u, w], e, h, rfl, .cons r (.cons s .nil)⟩
def Tr.size : Tr → Nat
  | .say a => a.size + 1 | .bin _ a b => a.size + b.size + 1 | .ite a b c => a.size + b.size + c.size + 1 | .lett _ a b => a.size + b.size + 1
  | _ => 1
theorem paired_get {α : Type} {F : α → V → Prop} : ∀ {as : List α} {us : List V} {i : Nat} {u : V}, Paired F as us → us[i]? = some u → ∃ a, as[i]? = some a ∧ F a u
  | _, _, _, _, .nil, e => by simp at e
  | _, _, 0, _, .cons r _, e => by simp at e; subst e; exact ⟨_, rfl, r⟩
  | _, _, i + 1, u, .cons _ t, e => by
    obtain ⟨a, h1, h2⟩ := paired_get (i := i) (u := u) t (by simpa using e)
    exact ⟨a, by simpa using h1, h2⟩
theorem same_set {H H' : Hp} {p : Addr} {o : HO} (g : Same H H') (h : H p = none) : Same H (upd H' p o) := fun b u q => by rw [upd_ne (ne_of_none q h)]; exact g b u q
theorem take_next {α : Type} {as : List α} {i : Nat} {a : α} (h : as[i]? = some a) : as.take (i + 1) = as.take i ++ [a] := by
  rw [List.take_add_one, h]; rfl
def Atom.names : Atom → List Str
  | .name x => [x]
  | _ => []
def Tr.names : Tr → List Str
  | .name x => [x]
  | .gap _ as => as.flatMap Atom.names
  | _ => []
theorem line1000 {n : Nat} (h : n ≤ 1000) : n ≤ sizeLine := Nat.le_of_lt (small1000 h)
def constVs : List Expr → Option (List V)
  | [] => some []
  | .Constant (.str x) _ _ :: r => (constVs r).map fun l => V.str x :: l
  | .Constant (.int i) _ _ :: r => (constVs r).map fun l => V.int i :: l
  | _ => none
def tRow (vs : List V) : TA := fun _ H Q => Q vs H
theorem pa_row {X : Cx} : ∀ {es : List Expr} (vs : List V), constVs es = some vs → PA X es (tRow vs)
  | [], vs, h => by cases h; exact pa_nil
  | .Constant (.str x) j p :: r, vs, h => by
    obtain ⟨l, hl, e⟩ := Option.map_eq_some_iff.mp (show (constVs r).map (fun l => V.str x :: l) = some vs from h)
    subst e
    exact pa_cons pe_str (pa_row l hl)
  | .Constant (.int x) j p :: r, vs, h => by
    obtain ⟨l, hl, e⟩ := Option.map_eq_some_iff.mp (show (constVs r).map (fun l => V.int x :: l) = some vs from h)
    subst e
    exact pa_cons pe_int (pa_row l hl)
def rowT : Expr → Option (List V)
  | .Tuple es _ _ => constVs es
  | _ => none
def rowL : Expr → Option (List V)
  | .List es _ => constVs es
  | _ => none
theorem pe_tupR {X : Cx} {e : Expr} (vs : List V) (h : rowT e = some vs) : PE X e (tTup (tRow vs)) := by
  unfold rowT at h
  split at h
  · exact pe_tup (pa_row vs h)
  · cases h
theorem pe_lstR {X : Cx} {e : Expr} (vs : List V) (h : rowL e = some vs) : PE X e (tLst (tRow vs)) := by
  unfold rowL at h
  split at h
  · exact pe_lst (pa_row vs h)
  · cases h
end L2
set_option Elab.async false
set_option linter.all false
set_option maxRecDepth 100000
set_option maxHeartbeats 4000000
namespace L2
open PySem
abbrev DRow := Str × (Str ⊕ Int)
abbrev En := Str → Int
abbrev Res := List DRow × (Int ⊕ Str)
def askR (x : Str) : DRow := ("ask", .inl x)
def sayR (n : Int) : DRow := ("say", .inr n)
def Bin.op : Bin → Int → Int → Int
  | .add, m, n => (m + n) % 10 ^ 30
  | .sub, m, n => (m - n) % 10 ^ 30
  | .mul, m, n => (m * n) % 10 ^ 30
  | .thn, _, n => n
def En.set (e : En) (x : Str) (n : Int) : En := fun y => if y = x then n else e y
def pre (D : List DRow) (o : Option Res) : Option Res := o.map fun q => (D ++ q.1, q.2)
def seqR (r : Option Res) (k : Int → Option Res) : Option Res := r.bind fun r => match r.2 with
  | .inr w => some (r.1, .inr w)
  | .inl n => pre r.1 (k n)
def ev (a : En) : Tr → En → Option Res
  | .num n, _ => some ([], .inl n)
  | .name x, e => some ([], .inl (e x))
  | .ask x, _ => some ([askR x], .inl (a x))
  | .stop x, _ => some ([], .inr x)
  | .gap _ _, _ => none
  | .say t, e => seqR (ev a t e) fun n => some ([sayR n], .inl n)
  | .bin o s t, e => seqR (ev a s e) fun m => seqR (ev a t e) fun n => some ([], .inl (o.op m n))
  | .ite c s t, e => seqR (ev a c e) fun n => if n = 0 then ev a t e else ev a s e
  | .lett x s t, e => seqR (ev a s e) fun n => ev a t (e.set x n)
def aft (a : En) (t : Tr) (e : En) (E : List Int) : Option (Option Res × List Int) :=
  match t with
  | .say _ => match E with
    | n :: E => some (some ([sayR n], .inl n), E)
    | _ => none
  | .bin .thn _ t => match E with
    | _ :: E => some (ev a t e, E)
    | _ => none
  | .bin o _ _ => match E with
    | n :: m :: E => some (some ([], .inl (o.op m n)), E)
    | _ => none
  | .ite _ s t => match E with
    | n :: E => some (if n = 0 then ev a t e else ev a s e, E)
    | _ => none
  | .lett x _ t => match E with
    | n :: E => some (ev a t (e.set x n), E)
    | _ => none
  | _ => none
abbrev Item := Tr × En × Bool
def cont (a : En) : List Item → List Int → Option Res
  | [], [] => none
  | [], n :: _ => some ([], .inl n)
  | (t, e, false) :: W, E => seqR (ev a t e) fun n => cont a W (n :: E)
  | (t, e, true) :: W, E => (aft a t e E).bind fun p => seqR p.1 fun n => cont a W (n :: p.2)
section
variable {a e : En} {W : List Item} {E : List Int}
end
def wtR : Tr → Nat
  | .bin .thn _ t => 2 * t.size + 1
  | .ite _ s t => 2 * s.size + 2 * t.size + 1
  | .lett _ _ t => 2 * t.size + 1
  | _ => 1
def wtI : Item → Nat
  | (t, _, false) => 2 * t.size
  | (t, _, true) => wtR t
def wt (W : List Item) : Nat := (W.map wtI).sum
end L2
set_option Elab.async false
set_option linter.all false
set_option maxRecDepth 100000
set_option maxHeartbeats 4000000
namespace L2
open PySem PySem.Spec PyProof.Rows
def tOrT (K : PySem.W.Frag) (ta tb : TE) : TE := fun σ H Q => ta σ H fun x H1 => ∃ k, TruV K x H1 k ∧ if k = true then Q x H1 else tb σ H1 Q
theorem pe_orV {X : Cx} {a b : Expr} {rest : List Expr} {pos : Pos} {ta tb : TE} (ha : PE X a ta) (hb : PE X (.BoolOp .Or (b :: rest) pos) tb) : PE X (.BoolOp .Or (a :: b :: rest) pos) (tOrT X.K ta tb) := by
  intro pins s σ H Q I h
  refine BoolOp_or (thn (ha pins s σ H _ I h) fun v s1 ⟨x, H1, I1, r1, k, e1, q1⟩ => ?_)
  refine thn (tru_ok pins s1 σ H1 x v (fun c H2 => if c = true then Q x H2 else tb σ H2 Q) I1 r1 ⟨k, e1, q1⟩) fun c s2 ⟨H2, I2, q2⟩ => ?_
  cases c with
  | true => exact ⟨x, H2, I2, r1, q2⟩
  | false => exact hb pins s2 σ H2 Q I2 q2
def eqDk (ka kb : List (Key × V)) : Bool := ka.length == kb.length && ka.all fun p => match valV kb p.1 with
  | none => false
  | some y => eqV p.2 y
def rEqDk (neg : Bool) : R2 := fun x y H Q => ∃ (a b : Addr) (ka kb : List (Key × V)), x = .ref a ∧ y = .ref b ∧ H a = some (.dK ka) ∧ H b = some (.dK kb) ∧ (∀ p ∈ ka, flatV p.2 = true) ∧ (∀ p ∈ kb, flatV p.2 = true) ∧
  Q (.bl (if neg then !eqDk ka kb else eqDk ka kb)) H
def CMulB (i j : Int) : Prop := i.natAbs < 2 ^ 100 ∧ j.natAbs < 2 ^ 100
structure FunD (K : PySem.W.Frag) (x qual : Str) (st : Stmt) (f : Addr) (fd : FuncData) (dvs : List Value) : Prop where
  ex : ∃ (oc : Value) (od : Option Addr) (kV doc pm : Value) (an : Option Addr) (cdv ct : Value) (osl : Array (Option Value)) (dt : Addr) (o : Obj) (n : Nat),
    fd = PySem.W.fnOf x qual (defArgs st) (defBody st) (defScope st) (.ref dt) kV doc pm an cdv ct ∧ K.lookup f = some ⟨oc, od, .func fd, osl⟩ ∧ PySem.W.codeIn K cdv qual = true ∧ K.lookup dt = some o ∧ o.data = .seq dvs.toArray n
  kp : PySem.W.keepIn K (.ref f) = true
section
variable {P : Program} {w : World} {K : PySem.W.Frag} {mg : Str → Option Value} {base : Heap}
theorem FunD.ok {x qual : Str} {st : Stmt} {f : Addr} {fd : FuncData} {dvs : List Value} {N ps : List Str} {k : Nat} {sp : Sp} (F : FunD K x qual st f fd dvs) (S : FnScope N ps (defScope st)) (len : ∀ vs H Q E, sp vs H Q E → vs.length = ps.length)
    (hbody : ∀ (cdv : Value) (A : Around) (outer : List Env) (s : Shared) (H : Hp) (vs : List V) (Q : VK) (E : XK), Room k (A.deeper (envOfC qual (defScope st) s.heap.objs.size f cdv)) → sp vs H Q E →
      ∃ t, PSs (cxOf CX0 P w K mg base N qual (defScope st) f cdv A outer s H E).nox (defBody st) t ∧ t { nx := fun _ H' => Q .non H', rt := Q } (start N vs) H) : FnOk P w K mg base CX0 (k + 1) f fd ps sp := by
  obtain ⟨oc, od, kV, doc, pm, an, cdv, ct, osl, dt, o, n, rfl, lk, hcd, _⟩ := F.ex
  refine fn_of lk hcd S len fun A outer s H vs Q E hr hsp => ?_
  obtain ⟨t, h, q⟩ := hbody cdv A outer s H vs Q E hr hsp
  exact ⟨t, h.nox, q⟩
theorem funD_mk {x qual : Str} {st : Stmt} {f dt : Addr} {oc : Value} {od an : Option Addr} {osl : Array (Option Value)} {kV doc pm cdv ct : Value} {o : Obj} {dvs : List Value} {n : Nat} (l : K.lookup f = some ⟨oc, od, .func (PySem.W.fnOf x qual (defArgs st) (defBody st) (defScope st) (.ref dt) kV doc pm an cdv ct), osl⟩)
    (c : PySem.W.codeIn K cdv qual = true) (k : PySem.W.keepIn K (.ref f) = true) (ld : K.lookup dt = some o) (hd : o.data = .seq dvs.toArray n) : FunD K x qual st f (PySem.W.fnOf x qual (defArgs st) (defBody st) (defScope st) (.ref dt) kV doc pm an cdv ct) dvs :=
  ⟨⟨oc, od, kV, doc, pm, an, cdv, ct, osl, dt, o, n, rfl, l, c, ld, hd⟩, k⟩
theorem vals_n1 : Vals [V.non] [Value.none] := .cons rfl .nil
structure FnD (P : Program) (w : World) (K : PySem.W.Frag) (mg : Str → Option Value) (base : Heap) (k : Nat) (x : Str) (f : Addr) (fd : FuncData) (ps : List Str) (sp : Sp) : Prop where
  ok : FnOk P w K mg base CX0 k f fd ps sp
  bd0 : Binds K fd ps []
  bd1 : Binds K fd ps [.none]
  bd2 : Binds K fd ps [.none, .none]
  kp : PySem.W.keepIn K (.ref f) = true
  gl : mg x = some (.ref f)
structure FnM (P : Program) (w : World) (K : PySem.W.Frag) (mg : Str → Option Value) (base : Heap) (k : Nat) (C : Addr) (m : Str) (f : Addr) (fd : FuncData) (ps : List Str) (sp : Sp) : Prop where
  ok : FnOk P w K mg base CX0 k f fd ps sp
  bd : Binds K fd ps []
  mt : Meth K C m f
end
end L2
set_option Elab.async false
set_option linter.all false
set_option maxRecDepth 100000
set_option maxHeartbeats 4000000
namespace L2
open PySem PySem.Spec PyProof.Rows
def rvObj (l : Addr) (i : Int) : Obj := { cls := .type "reversed", data := .fields #[.ref l, rawInt i] }
section
variable {prog : Program} {w : World} {A : Around} {E : Value → Shared → Prop} {s : Shared}
end
def Itv (K : PySem.W.Frag) (a : Addr) (n : Nat) : It :=
  ⟨fun i H => i < n ∧ ∃ xs x, SqT K H a xs ∧ xs.length = n ∧ xs[n - 1 - i]? = some x, fun i H x H' => H' = H ∧ ∀ xs, SqT K H a xs → xs[n - 1 - i]? = some x, fun i _ => n ≤ i⟩
def iRev (K : PySem.W.Frag) (ta : TA) : TI := fun σ H R => ta σ H fun vs H1 => ∃ a, vs = [.ref a] ∧ ∃ xs, SqT K H1 a xs ∧ R (Itv K a xs.length) H1
end L2
set_option Elab.async false
set_option linter.all false
set_option maxRecDepth 100000
set_option maxHeartbeats 4000000
namespace L2
open PySem PySem.Spec PyProof.Rows
def sV : Str ⊕ Int → V
  | .inl x => .str x
  | .inr n => .int n
def RowRep (H : Hp) (r : DRow) (v : V) : Prop := ∃ a, v = .ref a ∧ H a = some (.tup [.str r.1, sV r.2])
def endR : Int ⊕ Str → DRow
  | .inl n => ("is", .inr n)
  | .inr w => ("stop", .inl w)
structure TD (H H' : Hp) : Prop where
  tk : Tk H H'
  dk : ∀ b kvs, H b = some (.dK kvs) → H' b = some (.dK kvs)
def EnvAt (H : Hp) (n : Nat) (e : En) (v : V) : Prop := ∃ d kvs, v = .ref d ∧ H d = some (.dK kvs) ∧ kvs.length ≤ n ∧ ∀ x : Str, (valV kvs (Sum.inr x : Key)).getD (.int 0) = .int (e x)
def InB (i : Int) : Prop := 0 ≤ i ∧ i < 10 ^ 30
def EnB (e : En) : Prop := ∀ x, InB (e x)
def TrB : Tr → Prop
  | .num n => InB n
  | .say a => TrB a | .bin _ a b => TrB a ∧ TrB b | .ite a b c => TrB a ∧ TrB b ∧ TrB c | .lett _ a b => TrB a ∧ TrB b
  | _ => True
def ItemRep (H : Hp) (i : Item) (v : V) : Prop := ∃ a u dv n, v = .ref a ∧ H a = some (.tup [u, dv, .bl i.2.2]) ∧ Rep H i.1 u ∧ EnvAt H n i.2.1 dv ∧ n + i.1.size ≤ 900 ∧ TrB i.1 ∧ EnB i.2.1
def cflds (aA dl el wl : Addr) : List (Str × V) := putF "waiting" (.ref wl) (putF "ends" (.ref el) (putF "deeds" (.ref dl) (putF "asked" (.ref aA) [])))
section
variable {aA dl el wl : Addr}
end
structure Co (C : Addr) (H : Hp) (p aA dl el wl : Addr) (ds es ws : List V) : Prop where
  ob : ∃ dx, H p = some (.ins C dx (cflds aA dl el wl))
  d : H dl = some (.lst ds)
  e : H el = some (.lst es)
  w : H wl = some (.lst ws)
  de : dl ≠ el
  dw : dl ≠ wl
  ew : el ≠ wl
def Kp (dl el wl : Addr) (H H' : Hp) : Prop := ∀ b o, H b = some o → b ≠ dl → b ≠ el → b ≠ wl → H' b = some o
section
variable {C : Addr} {H H' : Hp} {p aA dl el wl : Addr} {ds es ws : List V}
end
theorem paired_append {α : Type} {F : α → V → Prop} : ∀ {as bs : List α} {us vs : List V}, Paired F as us → Paired F bs vs → Paired F (as ++ bs) (us ++ vs)
  | _, _, _, _, .nil, h => h
  | _, _, _, _, .cons r t, h => .cons r (paired_append t h)
structure Cf (C : Addr) (H : Hp) (p aA dl el wl : Addr) (a : En) (W : List Item) (E : List Int) (D : List DRow) : Prop where
  co : ∃ ds ws, Co C H p aA dl el wl ds (E.reverse.map V.int) ws ∧ Paired (RowRep H) D ds ∧ Paired (ItemRep H) W.reverse ws
  en : EnvAt H 900 a (.ref aA)
  ab : EnB a
  eb : ∀ n ∈ E, InB n
section
variable {C : Addr} {H H' : Hp} {p aA dl el wl : Addr} {a : En} {W : List Item} {E : List Int} {D : List DRow}
end
theorem paired_len {α : Type} {F : α → V → Prop} {as : List α} {us : List V} (h : Paired F as us) : us.length = as.length := h.length.symm
def bgn (a : En) (t : Tr) (e : En) (W : List Item) (E : List Int) (D : List DRow) : Option (List Item × List Int × List DRow) :=
  match t with
  | .num n => some (W, n :: E, D)
  | .name x => some (W, e x :: E, D)
  | .ask x => some (W, a x :: E, D ++ [askR x])
  | .stop _ => none
  | .gap _ _ => none
  | .say s => some ((s, e, false) :: (t, e, true) :: W, E, D)
  | .bin .thn s _ => some ((s, e, false) :: (t, e, true) :: W, E, D)
  | .bin _ s u => some ((s, e, false) :: (u, e, false) :: (t, e, true) :: W, E, D)
  | .ite c _ _ => some ((c, e, false) :: (t, e, true) :: W, E, D)
  | .lett _ s _ => some ((s, e, false) :: (t, e, true) :: W, E, D)
def gon (t : Tr) (e : En) (W : List Item) (E : List Int) (D : List DRow) : Option (List Item × List Int × List DRow) :=
  match t, E with
  | .say _, n :: E => some (W, n :: E, D ++ [sayR n])
  | .bin .thn _ u, _ :: E => some ((u, e, false) :: W, E, D)
  | .bin o _ _, n :: m :: E => some (W, o.op m n :: E, D)
  | .ite _ s u, n :: E => some ((if n = 0 then u else s, e, false) :: W, E, D)
  | .lett x _ u, n :: E => some ((u, e.set x n, false) :: W, E, D)
  | _, _ => none
end L2
set_option Elab.async false
set_option linter.all false
set_option maxRecDepth 100000
set_option maxHeartbeats 4000000
namespace L2
open PySem PySem.Spec PyProof.Rows
theorem strs_back : ∀ {ys : List Str} {us : List Value}, Vals (ys.map V.str) us → StrsAre us ys
  | [], _, h => by cases h; exact .nil
  | y :: ys, _, h => by
    cases h with
    | cons r t =>
      obtain ⟨tk, rfl⟩ := r
      exact .cons y tk (strs_back t)
def rJoin : V → List V → Hp → VK → Prop := fun x xs H Q => ∃ (z : Str) (l : Addr) (ys : List Str), x = .str z ∧ xs = [.ref l] ∧ H l = some (.lst (ys.map V.str)) ∧ z.length ≤ 16 ∧ (ys.map (·.length)).sum + ys.length ≤ 1048576 ∧ Q (.str (Txt.join z ys)) H
theorem mt_join {X : Cx} : MtR X "str.join" rJoin := by
  intro pins s σ H x xs v us Q I rx rs h
  obtain ⟨z, l, ys, rfl, rfl, hl, hz, hw, q⟩ := h
  obtain ⟨t, rfl⟩ := rx
  obtain ⟨u, rfl, ru⟩ := Vals.one rs
  cases ru
  obtain ⟨_, its, n, r, le, e⟩ := I.lstM hl
  have L1 : s.heap.IsList l its.toArray := ⟨_, e, rfl, _, rfl⟩
  exact join_listW L1 (strs_back r) hz hw fun t' k => ⟨.str _, H, I.tok k, ⟨t', rfl⟩, q⟩
def Itw (K : PySem.W.Frag) (a : Addr) (n : Nat) : It :=
  ⟨fun i H => i < n ∧ ∃ xs x, SqL K H a xs ∧ xs.length = n ∧ xs[n - 1 - i]? = some x, fun i H x H' => H' = H ∧ ∀ xs, SqL K H a xs → xs[n - 1 - i]? = some x, fun i _ => i = n⟩
def iRevL (K : PySem.W.Frag) (ta : TA) : TI := fun σ H R => ta σ H fun vs H1 => ∃ a, vs = [.ref a] ∧ ∃ xs, SqL K H1 a xs ∧ R (Itw K a xs.length) H1
end L2
set_option Elab.async false
set_option linter.all false
set_option maxRecDepth 100000
set_option maxHeartbeats 4000000
namespace L2
open PySem PySem.Spec PyProof.Rows
def Itr2 (n : Nat) : It := ⟨fun i _ => i < n, fun i H x H' => H' = H ∧ x = .int ((i : Int) * 2), fun i _ => n ≤ i⟩
def iRng3 (ta : TA) : TI := fun σ H R => ta σ H fun vs H1 => ∃ j : Int, vs = [.int 0, .int j, .int 2] ∧ 0 ≤ j ∧ j < 1000 ∧ R (Itr2 ((j + 1) / 2).toNat) H1
theorem comp_listR {K : PySem.W.Frag} {a : Addr} {xs : List V} {acc : Addr} {g : TG} {tt : TT} {te : TE} {σ : L2.St} {H : Hp} {R : Hp → Prop} (Pv : Nat → Hp → Prop) (h0 : Pv 0 (upd H acc (.lst []))) (hl : ∀ i H, i ≤ xs.length → Pv i H → SqL K H a xs)
    (hs : ∀ i x H, xs[i]? = some x → Pv i H → g x σ H fun σ2 H4 => Ext σ σ2 ∧ tt σ2 H4 fun b H5 =>
      if b = true then te σ2 H5 fun y H6 => ∃ zs, H6 acc = some (.lst zs) ∧ zs.length < sizeLine ∧ Pv (i + 1) (upd H6 acc (.lst (zs ++ [y]))) else Pv (i + 1) H5) (hd : ∀ H, Pv xs.length H → R H) :
    ∃ W : Nat → Nat → Hp → Prop, (∃ m, W 0 m (upd H acc (.lst []))) ∧ ∀ i m H2, W i m H2 →
      ((Itl K a).stop i H2 ∧ R H2) ∨ ((Itl K a).go i H2 ∧ ∃ N : Hp → Prop, (∀ H', N H' → ∃ m', m' < m ∧ W (i + 1) m' H') ∧ ∀ x H3, (Itl K a).yld i H2 x H3 → g x σ H3 fun σ2 H4 => Ext σ σ2 ∧ tt σ2 H4 fun b H5 =>
        if b = true then te σ2 H5 fun y H6 => ∃ zs, H6 acc = some (.lst zs) ∧ zs.length < sizeLine ∧ N (upd H6 acc (.lst (zs ++ [y])))
        else N H5) := by
  refine ⟨fun i m H => m = xs.length - i ∧ i ≤ xs.length ∧ Pv i H, ⟨xs.length, by simp, Nat.zero_le _, h0⟩, ?_⟩
  rintro i m H2 ⟨rfl, hi, p⟩
  have q := hl i H2 hi p
  by_cases hlt : i < xs.length
  · refine .inr ⟨⟨xs, xs[i], q, by simp [hlt]⟩, Pv (i + 1), fun H' p' => ⟨xs.length - (i + 1), by omega, rfl, hlt, p'⟩, fun x H' y => ?_⟩
    obtain ⟨e, y⟩ := y
    subst e
    exact hs i x _ (y xs q) p
  · have e : i = xs.length := by omega
    subst e
    exact .inl ⟨⟨xs, q, Nat.le_refl _⟩, hd H2 p⟩
end L2
set_option Elab.async false
set_option linter.all false
set_option maxRecDepth 100000
set_option maxHeartbeats 4000000
namespace L2
open PySem PySem.Spec PyProof.Rows
section
variable {prog : Program} {w : World}
def EqT (prog : Program) (w : World) (A : Around) (s : Shared) (y x : Value) : Prop := ∀ (E : Value → Shared → Prop) (Q : Bool → Shared → Prop), Q true s → wpAny (model prog w) A (eqBool y x) Q E s
open AutoSeq1 (wpAny_loadPart')
open MeetsSeq MeetsSeq2 MeetsSeq3 SeqAt
end
def DEq (H : Hp) (a b : Addr) : Prop := a ≠ b ∧ ∃ ka kb, H a = some (.dK ka) ∧ H b = some (.dK kb) ∧ (∀ p ∈ ka, flatV p.2 = true) ∧ (∀ p ∈ kb, flatV p.2 = true) ∧ eqDk ka kb = true
def rEqLD (neg : Bool) : R2 := fun x y H Q => ∃ (p r : Addr) (ps qs : List Addr), x = .ref p ∧ y = .ref r ∧ H p = some (.lst (ps.map V.ref)) ∧ H r = some (.lst (qs.map V.ref)) ∧ ps.length = qs.length ∧ (∀ (j : Nat) (a b : Addr), ps[j]? = some a → qs[j]? = some b → DEq H a b) ∧ Q (.bl (!neg)) H
end L2
set_option Elab.async false
set_option linter.all false
set_option maxRecDepth 100000
set_option maxHeartbeats 1000000
namespace L2
open PySem PySem.Spec PyProof.Rows
section
variable {X : Cx}
end
end L2
set_option Elab.async false
set_option linter.all false
set_option maxRecDepth 100000
set_option maxHeartbeats 4000000
namespace L2
open PySem PySem.Spec PyProof.Rows
inductive Dt where
  | int (i : Int) | str (x : Str) | tup (ds : List Dt)
mutual
def Dt.beq : Dt → Dt → Bool
  | .int i, .int j => decide (i = j)
  | .str x, .str y => decide (x = y)
  | .tup ds, .tup es => Dt.beqs ds es
  | _, _ => false
def Dt.beqs : List Dt → List Dt → Bool
  | [], [] => true
  | d :: ds, e :: es => Dt.beq d e && Dt.beqs ds es
  | _, _ => false
end
mutual
theorem Dt.beq_iff : ∀ {d e : Dt}, Dt.beq d e = true ↔ d = e
  | .int i, .int j => by simp [Dt.beq]
  | .str x, .str y => by simp [Dt.beq]
  | .tup ds, .tup es => by
    have := Dt.beqs_iff (ds := ds) (es := es)
    simp [Dt.beq, this]
  | .int _, .str _ => by simp [Dt.beq]
  | .int _, .tup _ => by simp [Dt.beq]
  | .str _, .int _ => by simp [Dt.beq]
  | .str _, .tup _ => by simp [Dt.beq]
  | .tup _, .int _ => by simp [Dt.beq]
  | .tup _, .str _ => by simp [Dt.beq]
theorem Dt.beqs_iff : ∀ {ds es : List Dt}, Dt.beqs ds es = true ↔ ds = es
  | [], [] => by simp [Dt.beqs]
  | [], _ :: _ => by simp [Dt.beqs]
  | _ :: _, [] => by simp [Dt.beqs]
  | d :: ds, e :: es => by
    have h1 := Dt.beq_iff (d := d) (e := e)
    have h2 := Dt.beqs_iff (ds := ds) (es := es)
    simp [Dt.beqs, h1, h2]
end
mutual
def Dt.deep : Dt → Nat
  | .tup ds => Dt.deeps ds + 1
  | _ => 0
def Dt.deeps : List Dt → Nat
  | [] => 0
  | d :: ds => max (Dt.deep d) (Dt.deeps ds)
end
mutual
inductive DR (H : Hp) : Dt → V → Prop
  | int (i : Int) : DR H (.int i) (.int i)
  | str (x : Str) : DR H (.str x) (.str x)
  | tup {a : Addr} {xs : List V} {ds : List Dt} : H a = some (.tup xs) → DRs H ds xs → DR H (.tup ds) (.ref a)
inductive DRs (H : Hp) : List Dt → List V → Prop
  | nil : DRs H [] []
  | cons {d : Dt} {v : V} {ds : List Dt} {vs : List V} : DR H d v → DRs H ds vs → DRs H (d :: ds) (v :: vs)
end
mutual
theorem DR.mono {H H' : Hp} (k : Tk H H') : ∀ {d : Dt} {v : V}, DR H d v → DR H' d v
  | _, _, .int i => .int i
  | _, _, .str x => .str x
  | _, _, .tup h r => .tup (k _ _ h) (DRs.mono k r)
theorem DRs.mono {H H' : Hp} (k : Tk H H') : ∀ {ds : List Dt} {vs : List V}, DRs H ds vs → DRs H' ds vs
  | _, _, .nil => .nil
  | _, _, .cons r t => .cons (DR.mono k r) (DRs.mono k t)
end
mutual
theorem DR.inj {H : Hp} : ∀ {d e : Dt} {v : V}, DR H d v → DR H e v → d = e
  | _, _, _, .int _, .int _ => rfl
  | _, _, _, .str _, .str _ => rfl
  | _, _, _, .tup h r, .tup h' r' => by
    rw [h] at h'
    cases h'
    rw [DRs.inj r r']
theorem DRs.inj {H : Hp} : ∀ {ds es : List Dt} {vs : List V}, DRs H ds vs → DRs H es vs → ds = es
  | _, _, _, .nil, .nil => rfl
  | _, _, _, .cons r t, .cons r' t' => by rw [DR.inj r r', DRs.inj t t']
end
section
variable {X : Cx} {pins : List (Addr × Obj)} {σ : St} {H : Hp} {s : Shared}
def rEqD (neg : Bool) : R2 := fun x y H Q => ∃ (ds es : List Dt), DR H (.tup ds) x ∧ DR H (.tup es) y ∧ (Dt.tup ds).deep ≤ 150 ∧ Q (.bl (if neg then !Dt.beqs ds es else Dt.beqs ds es)) H
theorem hu150 {k : Nat} {A : Around} (hr : Room k A) : A.units + 150 < cLine := by have := hr.un; omega
end
end L2
set_option Elab.async false
set_option linter.all false
set_option maxRecDepth 100000
set_option maxHeartbeats 4000000
namespace L2
open PySem PySem.Spec PyProof.Rows
section
variable {prog : Program} {w : World} {A : Around} {E : Value → Shared → Prop} {s : Shared}
end
section
variable {prog : Program} {w : World} {A : Around} {E : Value → Shared → Prop} {s : Shared}
end
def Itz (a b : Addr) : It :=
  ⟨fun i H => ∃ xs ys x y, H a = some (.tup xs) ∧ H b = some (.tup ys) ∧ xs[i]? = some x ∧ ys[i]? = some y,
   fun i H v H' => ∃ T x y, H T = none ∧ v = .ref T ∧ H' = upd H T (.tup [x, y]) ∧ (∀ xs, H a = some (.tup xs) → xs[i]? = some x) ∧ ∀ ys, H b = some (.tup ys) → ys[i]? = some y,
   fun i H => ∃ xs ys, H a = some (.tup xs) ∧ H b = some (.tup ys) ∧ (xs.length ≤ i ∨ ys.length ≤ i)⟩
def iZip (ta : TA) : TI := fun σ H R => ta σ H fun vs H1 => ∃ a b xs ys, vs = [.ref a, .ref b] ∧ H1 a = some (.tup xs) ∧ H1 b = some (.tup ys) ∧ R (Itz a b) H1
end L2
set_option Elab.async false
set_option linter.all false
set_option maxRecDepth 100000
set_option maxHeartbeats 4000000
namespace L2
open PySem PySem.Spec PyProof.Rows
def Itzl (K : PySem.W.Frag) (a b : Addr) : It :=
  ⟨fun i H => ∃ xs ys x y, H a = some (.lst xs) ∧ H b = some (.lst ys) ∧ xs[i]? = some x ∧ ys[i]? = some y,
   fun i H v H' => ∃ T x y, H T = none ∧ v = .ref T ∧ H' = upd H T (.tup [x, y]) ∧ (∀ xs, H a = some (.lst xs) → xs[i]? = some x) ∧ ∀ ys, H b = some (.lst ys) → ys[i]? = some y,
   fun i H => ∃ xs ys, H a = some (.lst xs) ∧ H b = some (.lst ys) ∧ (xs.length ≤ i ∨ ys.length ≤ i)⟩
def iZipL (K : PySem.W.Frag) (ta : TA) : TI := fun σ H R => ta σ H fun vs H1 => ∃ a b xs ys, vs = [.ref a, .ref b] ∧ H1 a = some (.lst xs) ∧ H1 b = some (.lst ys) ∧ R (Itzl K a b) H1
theorem relKey {k : Key} {u : Value} (h : keyIs k u = true) : RelV (kV k) u := by
  rcases keyIs_shape h with ⟨i, t, rfl, rfl⟩ | ⟨x, t, rfl, rfl⟩
  · exact ⟨t, rfl⟩
  · exact ⟨t, rfl⟩
theorem kv_get : ∀ {kvs : List (Key × V)} {vs : List (Key × Value)} {i : Nat} {p : Key × V}, KV kvs vs → kvs[i]? = some p → ∃ v, vs[i]? = some (p.1, v)
  | _, _, _, _, .nil, e => by simp at e
  | _, _, 0, p, @Paired.cons _ _ _ a b _ _ r _, e => by
    have e' : a = p := by simpa using e
    subst e'
    exact ⟨b.2, by rw [r.1]; rfl⟩
  | _, _, i + 1, p, .cons _ t, e => by
    obtain ⟨v, h⟩ := kv_get (i := i) (p := p) t (by simpa using e)
    exact ⟨v, by simpa using h⟩
def Itd (o : Obj) (a : Addr) (kvs : List (Key × V)) : It :=
  ⟨fun i H => H a = some (.frz o (.dK kvs)) ∧ i < kvs.length, fun i H x H' => H' = H ∧ ∃ p, kvs[i]? = some p ∧ x = kV p.1, fun i H => H a = some (.frz o (.dK kvs)) ∧ kvs.length ≤ i⟩
theorem frz_at {X : Cx} {pins : List (Addr × Obj)} {σ : L2.St} {H : Hp} {s : Shared} {a : Addr} {o : Obj} {kvs : List (Key × V)} {es : Array DictEntry} {ep : Nat} (I : Inv X pins σ H s) (ha : H a = some (.frz o (.dK kvs))) (hd : o.data = .dict es ep) :
    ∃ vs, KV kvs vs ∧ kvs.length = vs.length ∧ s.heap.DictAt (mixKind X.prog X.w) a vs ep := by
  obtain ⟨e, z, sy, vs, r, o', es', ep', h1, c1, d1, rest⟩ := (show ObjOk X.prog X.w H s.heap a (.frz o (.dK kvs)) from I.hok a _ ha)
  rw [e] at h1
  cases h1
  rw [hd] at d1
  cases d1
  exact ⟨vs, r, Paired.length r, o, es, e, c1, hd, rest⟩
theorem turn_dict {P : Program} {w : World} {K : PySem.W.Frag} {tg : Expr} (a it : Addr) (o : Obj) (kvs : List (Key × V)) : Turn P w K tg (Itd o a kvs) [it] it (fun i h => ∃ es ep, o.data = .dict es ep ∧ h.IsKeyIter it a i kvs.length ep) where
  mem := by simp
  obj := fun i h st b hb => by
    have e : b = it := by simpa using hb
    subst e
    obtain ⟨_, _, _, ob, e, c, d⟩ := st
    exact ⟨ob, e, fun v z => by rw [d] at z; cases z⟩
  keep := fun i h h' st k => by
    obtain ⟨es, ep, hd, ob, e, r⟩ := st
    exact ⟨es, ep, hd, ob, k it (by simp) ob e, r⟩
  item := by
    intro X hP hw hK hc i pins s σ H E I hf st hg
    subst hP hw hK
    obtain ⟨ha, hi⟩ := hg
    obtain ⟨es, ep, hd, hit⟩ := st
    obtain ⟨vs, r, hl, hm⟩ := frz_at I ha hd
    obtain ⟨v, hv⟩ := kv_get r (List.getElem?_eq_getElem hi)
    obtain ⟨f0, f1, f2, f3, f4, f5⟩ := hf it (by simp)
    rw [hl] at hit
    refine wpAny_pyNext_dict_item hit hm hv fun key h' hk hit' sb => ?_
    have I1 : Inv X pins σ H { s with heap := h' } := I.turned (t' := s.toks) (fun b o hb e => (sb.2 b hb).trans e) f0 f1 f3 f4 f5
    obtain ⟨ob, e, c, d⟩ := id hit'
    rw [← hl] at hit'
    exact ⟨key, rfl, go_of (s := { s with heap := h' }) e c d (by decide) ⟨_, H, I1, relKey hk, ⟨rfl, _, List.getElem?_eq_getElem hi, rfl⟩, ⟨es, ep, hd, hit'⟩, fun b hb => (hf b hb).1⟩⟩
  done := by
    intro X hP hw hK hc i pins s σ H E I hf st hg
    subst hP hw hK
    obtain ⟨ha, hi⟩ := hg
    obtain ⟨es, ep, hd, hit⟩ := st
    obtain ⟨vs, r, hl, hm⟩ := frz_at I ha hd
    obtain ⟨f0, f1, f2, f3, f4, f5⟩ := hf it (by simp)
    rw [hl] at hit
    exact wpAny_pyNext_dict_end (I.ok.hd hc) hit hm (List.getElem?_eq_none (by omega)) fun h' eb => ⟨rfl, I.turned (t' := s.toks) (fun b o hb e => eb b o hb e) f0 f1 f3 f4 f5⟩
  self := fun A i s Q E st h => by
    obtain ⟨es, ep, hd, hit⟩ := st
    refine wpAny_pyIter_slot hit.typeIs F.slot_dict_keyiterator_iter (wpAny_call_entry F.slot_dict_keyiterator_iter hit.typeIs F.entry_dict_keyiterator_iter ?_ (F.args_dict_keyiterator_iter_1 _))
    show wpAny _ _ (ret (.ref it)) _ _ s
    exact wpAny_pure ⟨_, rfl, "dict_keyiterator", _, hit.typeIs, F.slot_dict_keyiterator_next.lookup, h⟩
def iDict (tl : TE) : TI := fun σ H R => tl σ H fun x H1 => ∃ a kvs, x = .ref a ∧ ((∃ o, H1 a = some (.frz o (.dK kvs)) ∧ R (Itd o a kvs) H1) ∨ (H1 a = some (.dK kvs) ∧ ∀ o, R (Itd o a kvs) (upd H1 a (.frz o (.dK kvs)))))
theorem pi_dict {X : Cx} {tg l : Expr} {tl : TE} (hl : PE X l tl) : PI X tg l (iDict tl) := by
  intro pins s σ H R I h
  refine thn (hl pins s σ H _ I h) fun v s1 ⟨x, H1, I1, r1, q1⟩ => ?_
  obtain ⟨a, kvs, e, q⟩ := q1
  subst e
  cases r1
  rcases q with ⟨o, ha, q⟩ | ⟨ha, q⟩
  · obtain ⟨e, z, sy, vs, r, o', es', ep', h1, c1, d1, rest⟩ := (show ObjOk X.prog X.w H1 s1.heap a (.frz o (.dK kvs)) from I1.hok a _ ha)
    rw [e] at h1
    cases h1
    refine wpAny_pyIter_dict (knd := mixKind X.prog X.w) (kvs := vs) (ep := ep') sy ⟨o, es', e, c1, d1, rest⟩ ?_
    refine ⟨s1.heap.objs.size, [s1.heap.objs.size], _, _, H1, rfl, I1.kept (t' := s1.toks) fun b o e => Heap.get?_push_of_some _ e, turn_dict a _ o kvs, ⟨es', ep', d1, _, Heap.get?_push_size _ rfl, rfl, by rw [Paired.length r]; rfl⟩, fun b hb => ?_, q⟩
    have e : b = s1.heap.objs.size := by simpa using hb
    subst e
    exact I1.fpOk (Nat.le_refl _) (I1.hok.fresh (Nat.le_refl _))
  · obtain ⟨z, sy, vs, r, o, es', ep', e, c1, d1, rest⟩ := (show ObjOk X.prog X.w H1 s1.heap a (.dK kvs) from I1.hok a _ ha)
    refine wpAny_pyIter_dict (knd := mixKind X.prog X.w) (kvs := vs) (ep := ep') sy ⟨o, es', e, c1, d1, rest⟩ ?_
    have lt := Heap.lt_size e
    refine ⟨s1.heap.objs.size, [s1.heap.objs.size], _, _, upd H1 a (.frz o (.dK kvs)), rfl, I1.write (t' := s1.toks) (x := a) (e := a) (by rw [ha]; exact True.intro) (.inl rfl) (fun b o _ e => Heap.get?_push_of_some _ e) ⟨o, Heap.get?_push_of_some _ e⟩ ?_, turn_dict a _ o kvs, ⟨es', ep', d1, _, Heap.get?_push_size _ rfl, rfl, by rw [Paired.length r]; rfl⟩, fun b hb => ?_, q o⟩
    · exact ⟨Heap.get?_push_of_some _ e, z, sy, vs, r, o, es', ep', Heap.get?_push_of_some _ e, c1, d1, rest⟩
    · have e : b = s1.heap.objs.size := by simpa using hb
      subst e
      exact I1.fpOk (Nat.le_refl _) (by rw [upd_ne (Nat.ne_of_gt lt)]; exact I1.hok.fresh (Nat.le_refl _))
theorem for_dict {o : Obj} {a : Addr} {kvs : List (Key × V)} {g : TG} {tb : TS} {D : Ends} {σ : L2.St} {H : Hp} (Pv : Nat → L2.St → Hp → Prop) (h0 : Pv 0 σ H) (hl : ∀ i σ H, i ≤ kvs.length → Pv i σ H → H a = some (.frz o (.dK kvs)))
    (hs : ∀ i p σ H, kvs[i]? = some p → Pv i σ H → g (kV p.1) σ H fun σ2 H2 => tb { D with nx := Pv (i + 1), ct := Pv (i + 1), bk := D.nx } σ2 H2) (hd : ∀ σ H, Pv kvs.length σ H → D.nx σ H) :
    ∃ W : Nat → Nat → L2.St → Hp → Prop, (∃ m, W 0 m σ H) ∧ ∀ i m σ H, W i m σ H →
      ((Itd o a kvs).stop i H ∧ D.nx σ H) ∨ ((Itd o a kvs).go i H ∧ ∃ N : L2.St → Hp → Prop, (∀ σ' H', N σ' H' → ∃ m', m' < m ∧ W (i + 1) m' σ' H') ∧ ∀ x H', (Itd o a kvs).yld i H x H' → g x σ H' fun σ2 H2 => tb { D with nx := N, ct := N, bk := D.nx } σ2 H2) := by
  refine ⟨fun i m σ H => m = kvs.length - i ∧ i ≤ kvs.length ∧ Pv i σ H, ⟨kvs.length, by simp, Nat.zero_le _, h0⟩, ?_⟩
  rintro i m σ H ⟨rfl, hi, p⟩
  have q := hl i σ H hi p
  by_cases hlt : i < kvs.length
  · refine .inr ⟨⟨q, hlt⟩, Pv (i + 1), fun σ' H' p' => ⟨kvs.length - (i + 1), by omega, rfl, hlt, p'⟩, fun x H' y => ?_⟩
    obtain ⟨e, p', hp', ex⟩ := y
    subst e ex
    exact hs i p' σ _ hp' p
  · have e : i = kvs.length := by omega
    subst e
    exact .inl ⟨⟨q, Nat.le_refl _⟩, hd σ H p⟩
end L2
set_option Elab.async false
set_option linter.all false
set_option maxRecDepth 100000
set_option maxHeartbeats 4000000
namespace L2
open PySem PySem.Spec PyProof.Rows
theorem comp_tupR {K : PySem.W.Frag} {a : Addr} {xs : List V} {acc : Addr} {g : TG} {tt : TT} {te : TE} {σ : L2.St} {H : Hp} {R : Hp → Prop} (Pv : Nat → Hp → Prop) (h0 : Pv 0 (upd H acc (.lst []))) (hl : ∀ i H, i ≤ xs.length → Pv i H → SqT K H a xs)
    (hs : ∀ i x H, xs[i]? = some x → Pv i H → g x σ H fun σ2 H4 => Ext σ σ2 ∧ tt σ2 H4 fun b H5 =>
      if b = true then te σ2 H5 fun y H6 => ∃ zs, H6 acc = some (.lst zs) ∧ zs.length < sizeLine ∧ Pv (i + 1) (upd H6 acc (.lst (zs ++ [y]))) else Pv (i + 1) H5) (hd : ∀ H, Pv xs.length H → R H) :
    ∃ W : Nat → Nat → Hp → Prop, (∃ m, W 0 m (upd H acc (.lst []))) ∧ ∀ i m H2, W i m H2 →
      ((Itt K a).stop i H2 ∧ R H2) ∨ ((Itt K a).go i H2 ∧ ∃ N : Hp → Prop, (∀ H', N H' → ∃ m', m' < m ∧ W (i + 1) m' H') ∧ ∀ x H3, (Itt K a).yld i H2 x H3 → g x σ H3 fun σ2 H4 => Ext σ σ2 ∧ tt σ2 H4 fun b H5 =>
        if b = true then te σ2 H5 fun y H6 => ∃ zs, H6 acc = some (.lst zs) ∧ zs.length < sizeLine ∧ N (upd H6 acc (.lst (zs ++ [y])))
        else N H5) := by
  refine ⟨fun i m H => m = xs.length - i ∧ i ≤ xs.length ∧ Pv i H, ⟨xs.length, by simp, Nat.zero_le _, h0⟩, ?_⟩
  rintro i m H2 ⟨rfl, hi, p⟩
  have q := hl i H2 hi p
  by_cases hlt : i < xs.length
  · refine .inr ⟨⟨xs, xs[i], q, by simp [hlt]⟩, Pv (i + 1), fun H' p' => ⟨xs.length - (i + 1), by omega, rfl, hlt, p'⟩, fun x H' y => ?_⟩
    obtain ⟨e, y⟩ := y
    subst e
    exact hs i x _ (y xs q) p
  · have e : i = xs.length := by omega
    subst e
    exact .inl ⟨⟨xs, q, Nat.le_refl _⟩, hd H2 p⟩
theorem paired_appP {α β : Type} {F : α → β → Prop} : ∀ {as bs : List α} {us vs : List β}, Paired F as us → Paired F bs vs → Paired F (as ++ bs) (us ++ vs)
  | _, _, _, _, .nil, h => h
  | _, _, _, _, .cons r t, h => .cons r (paired_appP t h)
theorem nodup_at {α : Type} : ∀ {l : List α}, l.Nodup → ∀ {i j : Nat} {a : α}, l[i]? = some a → l[j]? = some a → i = j
  | [], _, i, j, a, h, _ => by simp at h
  | x :: l, nd, 0, 0, a, _, _ => rfl
  | x :: l, nd, 0, j + 1, a, h1, h2 => by
    rw [List.nodup_cons] at nd
    have e : x = a := by simpa using h1
    exact absurd (e ▸ List.mem_of_getElem? (show l[j]? = some a by simpa using h2)) nd.1
  | x :: l, nd, i + 1, 0, a, h1, h2 => by
    rw [List.nodup_cons] at nd
    have e : x = a := by simpa using h2
    exact absurd (e ▸ List.mem_of_getElem? (show l[i]? = some a by simpa using h1)) nd.1
  | x :: l, nd, i + 1, j + 1, a, h1, h2 => by
    rw [List.nodup_cons] at nd
    rw [nodup_at nd.2 (i := i) (j := j) (a := a) (by simpa using h1) (by simpa using h2)]
theorem pg_tupK {X : Cx} {K : PySem.W.Frag} {es : List Expr} {k : Nat} {t : TGs} {n : Nat} {pos : Pos} (hK : X.K = K) (hc : X.calm = true) (h : PGs X es t)
    (hn : (assignEach es X.env).length = n := by rfl) (hst : (assignEach es X.env).findIdx? (·.1) = none := by rfl) : PG X (.Tuple es k pos) (gTup K n t) := hK ▸ pg_tup hc h hn hst
section
variable {X : Cx}
def CMulC (i j : Int) : Prop := i.natAbs < 2 ^ 500 ∧ j.natAbs < 2 ^ 500
structure KDic (K : PySem.W.Frag) (P : Params) (d : Addr) : Prop where
  ex : ∃ (es : Array DictEntry) (n : Nat), K.lookup d = some ⟨.type "dict", none, .dict es n, #[]⟩ ∧ PySem.W.KeysLit P es.toList
  sy : (d == sysModules) = false
def rNotInK (d : Addr) : R2 := fun x y H Q => ∃ (z : Str) (r : Option Value), x = .str z ∧ y = .ref d ∧ PySem.W.nsIn X.K d z = some r ∧ Q (.bl (!r.isSome)) H
def rIxK (d : Addr) : R2 := fun x y H Q => ∃ (z : Str) (r : Value) (v : V), x = .ref d ∧ y = .str z ∧ PySem.W.nsIn X.K d z = some (some r) ∧ RelV v r ∧ Q v H
theorem call_isiD : CallR X (.builtin "isinstance") (fun xs H Q => ∃ (a : Addr) (kvs : List (Key × V)) (T : String) (b : Bool), xs = [.ref a, .ty T] ∧ Rd H a (.dK kvs) ∧ PySem.W.kitOne X.K (.type "dict") (.type T) = some b ∧ Q (.bl b) H) := by
  intro pins s σ H xs us Q I r h
  obtain ⟨a, kvs, T, b, rfl, e, hk, q⟩ := h
  obtain ⟨u, w', rfl, ru, rw'⟩ := vals2 r
  cases ru
  cases rw'
  obtain ⟨_, _, vs, _, o, es, ep, h1, h2, _⟩ := dk_rd I.hok e
  exact PySem.W.kia_one PySem.W.kitx_dict I.kIn ⟨o, h1, h2.1⟩ hk (fun z => nomatch z) fun tk => ⟨.bl b, H, I.tok tk, rfl, q⟩
def rSlW : V → Option Int → Option Int → Hp → VK → Prop := fun x lo hi H Q => ∃ a xs, x = .ref a ∧ H a = some (.tup xs) ∧ ∀ p H', Same H H' → H' p = some (.tup (cutV xs lo hi)) → Q (.ref p) H'
end
structure Sd (p : Prop) : Prop where
  un : p
section
variable {X : Cx} {st : Stmt} {rest : List Stmt} {t u : TS} {e a b : Expr} {es : List Expr} {te ta tb : TE} {tA : TA} {pos : Pos}
theorem pss_consS (h1 : Sd (PS X st t)) (h2 : Sd (PSs X rest u)) : Sd (PSs X (st :: rest) (tSeq t u)) := ⟨pss_cons h1.un h2.un⟩
theorem pss_oneS (h1 : Sd (PS X st t)) : Sd (PSs X [st] t) := ⟨pss_one h1.un⟩
theorem ps_ifS {c : Expr} {x y : List Stmt} {tc : TT} (hc : Sd (PT X c tc)) (ha : Sd (PSs X x t)) (hb : Sd (PSs X y u)) : Sd (PS X (.If c x y pos) (tIfS tc t u)) := ⟨ps_if hc.un ha.un hb.un⟩
theorem ps_retS (he : Sd (PE X e te)) : Sd (PS X (.Return (some e) pos) (tRet te)) := ⟨ps_ret he.un⟩
theorem ps_setS {i : Nat} {x : Str} {pos' : Pos} (hN : X.N.Nodup) (hi : X.N[i]? = some x) (hx : Loc X.env.scope x) (he : Sd (PE X e te)) (hs : swapsWith e (some (.Name x pos')) pos.line X.env = pure false := by rfl) (hf : X.fn x = true ∨ X.env.scope.names.lookup x = some .local := by first | exact .inl rfl | exact .inr rfl | assumption) :
    Sd (PS X (.Assign [.Name x pos'] e pos) (tAsg te (gName i))) := ⟨ps_set hN hi hx he.un hs hf⟩
theorem pe_tupS {k : Nat} (h : Sd (PA X es tA)) : Sd (PE X (.Tuple es k pos) (tTup tA)) := ⟨pe_tup h.un⟩
theorem pe_lstS (h : Sd (PA X es tA)) : Sd (PE X (.List es pos) (tLst tA)) := ⟨pe_lst h.un⟩
theorem pa_consS (ha : Sd (PE X e te)) (hr : Sd (PA X es tA)) (hs : starEach (e :: es) X.env = (false, eval e X.env) :: starEach es X.env := by rfl) : Sd (PA X (e :: es) (tCons te tA)) := ⟨pa_cons ha.un hr.un hs⟩
theorem pe_ixS {r : R2} (hr : IxR X r) (ha : Sd (PE X a ta)) (hb : Sd (PE X b tb)) (hs : PlainIx b) : Sd (PE X (.Subscript a b pos) (tOp r ta tb)) := ⟨pe_ix hr ha.un hb.un hs⟩
end
end L2
set_option Elab.async false
set_option linter.all false
set_option maxRecDepth 100000
set_option maxHeartbeats 4000000
namespace L2
open PySem PySem.Spec PyProof.Rows
section
variable {prog : Program} {w : World} {A : Around} {E : Value → Shared → Prop} {s : Shared}
abbrev ZipF (h : Heap) (z TI TO : Addr) (f0 : Value) (f1 : Bool) : Prop := h.get? z = some { cls := .type "zip", data := .fields #[f0, .bool f1, .bool false, .ref TI, .ref TO] }
def ZipS (h : Heap) (z TI TO : Addr) : Prop := ∃ f0 f1, ZipF h z TI TO f0 f1 ∧ (f0 = .none ∨ ∃ n : Nat, f0 = rawInt n)
end
def Itez (a b : Addr) : It :=
  ⟨fun i H => ∃ xs ys x y, H a = some (.tup xs) ∧ H b = some (.tup ys) ∧ xs[i]? = some x ∧ ys[i]? = some y,
   fun i H v H' => ∃ T U x y, H U = none ∧ (upd H U (.tup [x, y])) T = none ∧ v = .ref T ∧ H' = upd (upd H U (.tup [x, y])) T (.tup [.int i, .ref U]) ∧ (∀ xs, H a = some (.tup xs) → xs[i]? = some x) ∧ ∀ ys, H b = some (.tup ys) → ys[i]? = some y,
   fun i H => ∃ xs ys, H a = some (.tup xs) ∧ H b = some (.tup ys) ∧ (xs.length ≤ i ∨ ys.length ≤ i)⟩
abbrev EnZ (a b e z TI TO i1 i2 : Addr) (i : Nat) (h : Heap) : Prop := (∃ old, IsEnum h e z i old) ∧ ZipS h z TI TO ∧ IsPair h TI (.ref i1) (.ref i2) ∧ (∃ p q, IsPair h TO p q) ∧ h.IsTupleIter i1 a i ∧ h.IsTupleIter i2 b i
def iEnumZip (ta : TA) : TI := fun σ H R => ta σ H fun vs H1 => ∃ a b xs ys, vs = [.ref a, .ref b] ∧ H1 a = some (.tup xs) ∧ H1 b = some (.tup ys) ∧ R (Itez a b) H1
end L2
set_option Elab.async false
set_option linter.all false
namespace L2
open PySem PySem.Spec PyProof.Rows
section
variable {X : Cx}
def rMulT : R2 := fun x y H Q => ∃ (a : Addr) (v : V), x = .ref a ∧ H a = some (.tup [v]) ∧ ((y = .int 1 ∧ Q (.ref a) H) ∨ (y = .int 0 ∧ ∀ p, H p = none → Q (.ref p) (upd H p (.tup []))))
end
section
variable {prog : Program} {w : World} {A : Around} {E : Value → Shared → Prop} {s : Shared}
end
def tTupRev (ta : TA) : TE := fun σ H Q => ta σ H fun vs H1 => ∃ a xs, vs = [.ref a] ∧ H1 a = some (.tup xs) ∧ xs.length ≤ 8 ∧ ∀ p, H1 p = none → Q (.ref p) (upd H1 p (.tup xs.reverse))
end L2
set_option Elab.async false
set_option linter.all false
set_option maxRecDepth 100000
set_option maxHeartbeats 4000000
namespace L2
open PySem PySem.Spec PyProof.Rows
section
variable {X : Cx}
end
end L2
set_option Elab.async false
set_option linter.all false
set_option maxRecDepth 100000
set_option maxHeartbeats 4000000
namespace L2
open PySem PySem.Spec PyProof.Rows
section
variable {X : Cx}
def rInD (X : Cx) (neg : Bool) : R2 := fun x y H Q => ∃ (p : Addr) (xs : List V) (ds : List Dt) (dx : Dt), y = .ref p ∧ SqT X.K H p xs ∧ DRs H ds xs ∧ DR H dx x ∧ Dt.deeps ds ≤ 100 ∧ Q (.bl (if neg then !ds.any (fun d => Dt.beq d dx) else ds.any (fun d => Dt.beq d dx))) H
open Classical in
noncomputable def eqW (H : Hp) (dx : Dt) (w : Value) : Bool := decide (∃ x d, RelV x w ∧ DR H d x ∧ Dt.beq d dx = true)
end
end L2
set_option linter.all false
set_option maxRecDepth 100000
set_option maxHeartbeats 4000000
namespace PySem
open Sem (wp)
namespace F
theorem dul_entry : entryFor table "dict.update.loop" = some Builtin.«dict.update.loop» := entryFor_of_tree (by kernel_rfl)
theorem dul_plain : plainId "dict.update.loop" = true := by decide +kernel
theorem tuple_no_keys : typeLookup (.type "tuple") "keys" = pure none := am_miss_of_fast (by decide +kernel)
end F
theorem askAttr_miss_tuple {prog : Program} {w : World} {A : Around} {E : Value → Shared → Prop} {s : Shared} {a : Addr} {o : Obj} {xs : Array Value} {k : Nat} {name : Str} {Q : Option Value → Shared → Prop}
    (hx : s.heap.get? a = some o) (hc : o.cls = .type "tuple") (hdat : o.data = .seq xs k) (hd : o.dict = none) (hmiss : typeLookup (.type "tuple") name = pure none)
    (hname : (["__module__", "__name__", "__qualname__", "__doc__", "__annotations__"] : List Str).contains name = false) (hA : A.handled = none) (hsz : name.length + 100 ≤ sizeLine)
    (h : ∀ h' tk, (∀ b ob, s.heap.get? b = some ob → h'.get? b = some ob) → Q none { s with heap := h', toks := tk }) : wpAny (model prog w) A (getAttr? (.ref a) name) Q E s := by
  obtain ⟨c, dct, dat, sl⟩ := o
  simp only at hc hdat hd
  subst hc hdat hd
  obtain ⟨hp, g, d, tk, os⟩ := s
  have hT : ∀ tk', (⟨hp, g, d, tk', os⟩ : Shared).TypeIs (.ref a) "tuple" := fun _ => ⟨_, hx, rfl⟩
  have f1 := sub_AttributeError
  have f3 := F.slot_tuple_getattribute.lookup
  have f4 := F.slot_tuple_getattribute.bind (.ref a)
  have f5 := am_tuple_getattr_none
  unfold getAttr? getAttrBy? getAttrBy
  repeat (any_goals (first | assumption | exact hT _ | ((with_reducible show wpAny _ _ (call (Value.builtin "tuple.__getattribute__") _ _) _ _ _); refine call_meets F.slot_tuple_getattribute (hT _) am_entry_tuple_getattribute (F.args_tuple_getattribute_2 _ _) (meets_getattribute_miss_tuple a xs k sl name _ hmiss hname hsz) ⟨hx, hA, fun h' tk' e hx' => ?_⟩) | wp_step))
  obtain ⟨t', u', he⟩ := hx'.there
  show wpAny _ _ (getattributeRaised _ _ _ _ _ _ _) _ _ _
  unfold getattributeRaised
  repeat (any_goals (first | assumption | wp_step))
  all_goals first
    | exact h _ _ hx'.keeps
    | skip
section
variable {prog : Program} {w : World} {K : Type} [DecidableEq K] {knd : KeyKind prog w K} {A : Around} {R : Result → Shared → Prop} {E : Value → Shared → Prop}
def PairsIn (knd : KeyKind prog w K) (h : Heap) (its : List Value) (prs : List (K × Value)) : Prop :=
  its.length = prs.length ∧ ∀ (i : Nat) (x : Value), its[i]? = some x → ∃ (pa : Addr) (key : Value) (kv : K × Value), x = Value.ref pa ∧ prs[i]? = some kv ∧ h.IsTuple pa #[key, kv.2] ∧ knd.is kv.1 key = true
theorem Heap.IsTuple.kept {h h' : Heap} {a : Addr} {xs : Array Value} (x : h.IsTuple a xs) (k : ∀ b o, h.get? b = some o → h'.get? b = some o) : h'.IsTuple a xs :=
  let ⟨o, ho, r⟩ := x; ⟨o, k a o ho, r⟩
theorem dul_code {h0 : Heap} {d it t : Addr} {items : Array Value} {prs : List (K × Value)} (hA : A.handled = none) (hld : h0.objs.size ≤ d) (hli : h0.objs.size ≤ it) (hne : d ≠ it)
    (ht : h0.IsTuple t items) (hp : PairsIn knd h0 items.toList prs) (hsz : prs.length ≤ sizeLine) :
    ∀ (n i : Nat) (s : Shared), items.size - i = n → i ≤ items.size → (∀ b o, h0.get? b = some o → s.heap.get? b = some o) → s.heap.IsTupleIter it t i → s.heap.DictOf knd d (merged [] (prs.take i)) →
      (∀ h' tk, (∀ b o, h0.get? b = some o → h'.get? b = some o) → h'.DictOf knd d (merged [] prs) → R (.ok (.ret .none)) { s with heap := h', toks := tk }) →
      codeAny (model prog w) A (.builtin "dict.update.loop" ⟨[.ref d, .ref it, .int (i : Int) 0, .none], []⟩) R s := by
  have hlen : items.size = prs.length := by rw [← hp.1]; simp
  intro n
  induction n with
  | zero =>
    intro i s hn hi kp hit hd hR
    have e : i = items.size := by omega
    subst e
    refine codeAny_builtin F.dul_entry ?_
    rw [Around.under_plainId F.dul_plain _]
    refine wpAny_bind (wpAny_pyNext_tuple_end (show A.in1.handled = none from hA) hit (ht.kept kp) (by simp) fun h' he => ?_)
    show wpAny _ _ (Builtin.Dict.addKeywords d [] >>= _) _ _ _
    refine wpAny_bind (wpAny_pure (wpAny_pure (hR h' s.toks (fun b o hb => he b o (Nat.ne_of_lt (Nat.lt_of_lt_of_le (Heap.lt_size hb) hli)) (kp b o hb)) ?_)))
    rw [hlen, List.take_length] at hd
    obtain ⟨o, es, ep, ho, rest⟩ := hd
    exact ⟨o, es, ep, he d o hne ho, rest⟩
  | succ n ih =>
    intro i s hn hi kp hit hd hR
    have hlt : i < items.size := by omega
    obtain ⟨pa, key, kv, ex, ekv, htp, hkey⟩ := hp.2 i items[i] (by simp [hlt])
    refine codeAny_builtin F.dul_entry ?_
    rw [Around.under_plainId F.dul_plain _]
    refine wpAny_bind (wpAny_pyNext_tuple_item hit (ht.kept kp) (x := items[i]) (by simp [hlt]) fun h1 hit1 hs1 => ?_)
    have kp1 : ∀ b o, h0.get? b = some o → h1.get? b = some o := fun b o hb => hs1.extBut b o (Nat.ne_of_lt (Nat.lt_of_lt_of_le (Heap.lt_size hb) hli)) (kp b o hb)
    rw [ex]
    have htp1 := htp.kept kp1
    refine wpAny_bind (wpAny_holding (wpAny_bind (wpAny_tryCatch ?_)))
    unfold Builtin.Dict.pairItems
    refine wpAny_bind (wpAny_typeOf (s := { s with heap := h1 }) (v := .ref pa) (T := "tuple") htp1.typeIs ?_)
    rw [if_pos (by decide)]
    obtain ⟨o2, ho2, hc2, n2, hd2⟩ := htp1
    refine wpAny_bind (wpAny_seqItems ho2 hd2 (wpAny_pure ?_))
    have hd1 : h1.DictOf knd d (merged [] (prs.take i)) := by
      obtain ⟨o, es, ep, ho, rest⟩ := hd
      exact ⟨o, es, ep, hs1.extBut d o hne ho, rest⟩
    have hml : (merged [] (prs.take i)).length ≤ sizeLine := by
      have e1 := merged_length_le ([] : List (K × Value)) (prs.take i)
      rw [List.length_nil, List.length_take] at e1
      omega
    show wpAny _ _ (holding [key, kv.2] (dictSet d key kv.2)) _ _ _
    refine wpAny_holding (wpAny_dictSet_pairs (hsz := hml) hkey hd1 fun h2 hd2 hs2 => ?_)
    refine wpAny_pure ⟨plainId_quiet F.dul_plain _, ?_⟩
    refine ih (i + 1) _ (by omega) hlt (fun b o hb => hs2.extBut b o (Nat.ne_of_lt (Nat.lt_of_lt_of_le (Heap.lt_size hb) hld)) (kp1 b o hb)) (hit1.extBut hs2.extBut (Ne.symm hne)) ?_ fun h' tk k' d' => hR h' tk k' d'
    rw [merged_take_succ [] prs i kv ekv]
    exact hd2
theorem call_dict_tuple {s : Shared} {t : Addr} {o : Obj} {items : Array Value} {n : Nat} {prs : List (K × Value)} {Q : Value → Shared → Prop} (hA : A.handled = none) (hx : s.heap.get? t = some o) (hc : o.cls = .type "tuple") (hdat : o.data = .seq items n) (hdn : o.dict = none)
    (hp : PairsIn knd s.heap items.toList prs) (hsz : prs.length ≤ sizeLine)
    (h : ∀ h' tk, (∀ b o, s.heap.get? b = some o → h'.get? b = some o) → h'.DictOf knd s.heap.objs.size (merged [] prs) → Q (.ref s.heap.objs.size) { s with heap := h', toks := tk }) :
    wpAny (model prog w) A (call (.type "dict") [.ref t]) Q E s := by
  refine callType_codes (Q₁ := fun obj s₁ => obj = .ref s.heap.objs.size ∧ s₁ = { s with heap := s.heap.push { cls := .type "dict", data := .dict #[] } }) F.kt_called_dict (F.kt_typeCall_dict_1 _) F.entry_dict_init (kt_code_dict_new _ ⟨rfl, rfl⟩) ?_
  rintro obj s₁ ⟨rfl, rfl⟩
  have hnew : (s.heap.push { cls := .type "dict", data := .dict #[] }).DictOf knd s.heap.objs.size [] := Heap.DictOf.new s.heap
  have kp0 : ∀ b o, s.heap.get? b = some o → (s.heap.push { cls := .type "dict", data := .dict #[] }).get? b = some o := fun b o hb => Heap.get?_push_of_some _ hb
  have ht0 : s.heap.IsTuple t items := ⟨o, hx, hc, n, hdat⟩
  refine ⟨hnew.typeIs, F.args_dict_init_2 _ _, ?_⟩
  unfold Builtin.«dict.__init__»
  refine wpAny_bind ?_
  unfold Builtin.Dict.selfAndRest
  refine wpAny_bind (wpAny_notOrdered_dict hnew.typeIs ?_)
  show wpAny _ _ (pure (s.heap.objs.size, [Value.ref t])) _ _ _
  refine wpAny_pure ?_
  show wpAny _ _ (Builtin.Dict.updateFrom "dict.__init__" s.heap.objs.size (.ref t) [] .none) _ _ _
  unfold Builtin.Dict.updateFrom
  refine wpAny_bind (wpAny_typeOf (v := .ref t) (T := "tuple") (ht0.kept kp0).typeIs ?_)
  rw [if_pos (by decide)]
  refine wpAny_bind (askAttr_miss_tuple (kp0 _ _ hx) hc hdat hdn F.tuple_no_keys (by decide +kernel) hA (by size_fits) fun h1 tk kp1 => ?_)
  rw [if_pos (show (Option.none : Option Value).isNone = true from rfl)]
  have kp01 : ∀ b o, s.heap.get? b = some o → h1.get? b = some o := fun b o hb => kp1 b o (kp0 b o hb)
  refine wpAny_bind (wpAny_rule ?_)
  refine wpAny_bind (wpAny_pyIter_tuple (ht0.kept kp01) ?_)
  have hd1 : h1.DictOf knd s.heap.objs.size [] := by
    obtain ⟨o, es, ep, ho, rest⟩ := hnew
    exact ⟨o, es, ep, kp1 _ _ ho, rest⟩
  have hsd : s.heap.objs.size < h1.objs.size := let ⟨_, _, _, ho, _⟩ := hd1; Heap.lt_size ho
  refine wpAny_pure ⟨plainId_quiet F.dul_plain _, ?_⟩
  refine dul_code (h0 := s.heap) (knd := knd) (A := A.in1) hA (Nat.le_refl _) (Nat.le_of_lt hsd) (Nat.ne_of_lt hsd) ht0 hp hsz items.size 0 _ (by omega) (Nat.zero_le _) (fun b o hb => Heap.get?_push_of_some _ (kp01 b o hb)) ⟨_, Heap.get?_push_size _ rfl, rfl, rfl⟩ (hd1.push _) fun h' tk' k' d' => ?_
  exact ⟨rfl, h h' tk' k' d'⟩
end
end PySem
set_option Elab.async false
set_option linter.all false
set_option maxRecDepth 100000
set_option maxHeartbeats 4000000
namespace L2
open PySem PySem.Spec PyProof.Rows
section
variable {X : Cx}
def rDUpd : V → List V → Hp → VK → Prop := fun x vs H Q => ∃ (a b : Addr) (ka kb : List (Key × V)), x = .ref a ∧ vs = [.ref b] ∧ a ≠ b ∧ H a = some (.dK ka) ∧ H b = some (.dK kb) ∧ ka.length + kb.length ≤ sizeLine ∧ Q .non (upd H a (.dK (mergeK ka kb)))
theorem call_tupleF : CallR X (.type "tuple") (fun xs H Q => ∃ p ys, xs = [.ref p] ∧ SqL X.K H p ys ∧ ∀ (l : Addr) (o : Obj), H l = none → o.dict = none → Q (.ref l) (upd H l (.frz o (.tup ys)))) := by
  intro pins s σ H xs us Q I r h
  obtain ⟨p, ys, rfl, hq, q⟩ := h
  obtain ⟨u, rfl, rx⟩ := vals1 r
  cases rx
  obtain ⟨its, r', pl, hz⟩ := I.list hq
  have hlen := r'.length
  refine call_tuple_list pl.isList (fun h' kp => ?_) (by simp only [List.size_toArray] <;> omega)
  have I1 : Inv X pins σ H { s with heap := h' } := I.kept (t' := s.toks) kp
  have I2 := I1.laid (o := .frz { cls := .type "tuple", data := .seq its.toArray } (.tup ys)) (t' := s.toks) (h' := h'.push { cls := .type "tuple", data := .seq its.toArray }) (fun b o e => Heap.get?_push_of_some _ e) (Nat.le_refl h'.objs.size) ⟨Heap.get?_push_size _ rfl, hz, its, r', IsTup.new _ _⟩
  exact ⟨.ref h'.objs.size, _, I2, rfl, q _ _ (I1.hok.fresh (Nat.le_refl _)) rfl⟩
def PrV (H : Hp) (y : V) (kv : Key × V) : Prop := ∃ b, y = .ref b ∧ H b = some (.tup [kV kv.1, kv.2])
theorem prs_of {P : Program} {w : World} {H : Hp} {h : Heap} (ok : HOk P w H h) : ∀ {ys : List V} {kvs : List (Key × V)}, Paired (PrV H) ys kvs → ∀ {its : List Value}, Vals ys its → ∃ prs, PairsIn (mixKind P w) h its prs ∧ KV kvs prs
  | _, _, .nil, its, r => by
    cases r
    exact ⟨[], ⟨rfl, fun i x hx => by simp at hx⟩, .nil⟩
  | _, _, .cons (b := kv) hy hr, its, r => by
    cases r with
    | cons r1 r2 =>
      obtain ⟨prs, ⟨pl, pp⟩, k⟩ := prs_of ok hr r2
      obtain ⟨b, rfl, hb⟩ := hy
      cases r1
      obtain ⟨_, its2, rv, tp⟩ := (show ObjOk P w H h b (.tup [kV kv.1, kv.2]) from ok b _ hb)
      cases rv with
      | cons q1 rv => cases rv with
        | cons q2 rv =>
          cases rv
          rename_i key val
          refine ⟨(kv.1, val) :: prs, ⟨by simp [pl], fun i x hx => ?_⟩, .cons ⟨rfl, q2⟩ k⟩
          cases i with
          | zero =>
            simp at hx
            exact ⟨b, key, (kv.1, val), hx.symm, rfl, tp, kV_is q1⟩
          | succ i =>
            simp at hx
            obtain ⟨pa, key', kv', h1, h2, h3, h4⟩ := pp i x hx
            exact ⟨pa, key', kv', h1, by simpa using h2, h3, h4⟩
def rDictP : List V → Hp → VK → Prop := fun xs H Q => ∃ (a : Addr) (o : Obj) (ys : List V) (kvs : List (Key × V)), xs = [.ref a] ∧ H a = some (.frz o (.tup ys)) ∧ o.dict = none ∧ Paired (PrV H) ys kvs ∧ kvs.length ≤ 1000 ∧ ∀ p, H p = none → Q (.ref p) (upd H p (.dK (mergeK [] kvs)))
theorem call_dictP (hc : X.calm = true) : CallR X (.type "dict") rDictP := by
  intro pins s σ H xs us Q I r h
  obtain ⟨a, o, ys, kvs, rfl, ha, hdn, hp, hl, q⟩ := h
  obtain ⟨u, rfl, ru⟩ := vals1 r
  cases ru
  obtain ⟨hx, hz, its, rv, o', ho', hcl, n, hdat⟩ := (show ObjOk X.prog X.w H s.heap a (.frz o (.tup ys)) from I.hok a _ ha)
  rw [hx] at ho'
  cases ho'
  obtain ⟨prs, hpi, k⟩ := prs_of I.hok hp rv
  have hkl : prs.length ≤ sizeLine := by rw [← k.length]; exact line1000 hl
  have hm : (mergeK [] kvs).length ≤ sizeLine := by
    have := length_mergeK kvs []
    rw [List.length_nil] at this
    exact line1000 (by omega)
  refine call_dict_tuple (knd := mixKind X.prog X.w) (I.ok.hd hc) hx hcl hdat hdn (by simpa using hpi) hkl fun h' tk kp d' => ?_
  have hn := I.hok.fresh (Nat.le_refl s.heap.objs.size)
  refine ⟨.ref s.heap.objs.size, _, I.laid (a := s.heap.objs.size) (o := .dK (mergeK [] kvs)) (t' := tk) kp (Nat.le_refl _) (dk_new hm (beq_eq_false_iff_ne.mpr (Ne.symm (Nat.ne_of_lt I.big))) (k.merge .nil) d'), rfl, q _ hn⟩
end
end L2
set_option linter.all false
set_option maxRecDepth 100000
set_option maxHeartbeats 4000000
namespace L2
open PySem PySem.W PyProof.Rows
def Ev (r : Nat → Nat → Bool) (n : Nat) {α : Type} : KasT α → (α → Prop) → Prop
  | .ret a, Q => Q a
  | .ask i j k, Q => i < n ∧ j < n ∧ i ≠ j ∧ Ev r n (k (r i j)) Q
theorem Ev.bind {r : Nat → Nat → Bool} {n : Nat} {α β : Type} {f : α → KasT β} {Q : β → Prop} : ∀ {t : KasT α}, Ev r n t (fun a => Ev r n (f a) Q) → Ev r n (t.bind f) Q
  | .ret _, h => h
  | .ask i j k, h => ⟨h.1, h.2.1, h.2.2.1, Ev.bind (t := k (r i j)) h.2.2.2⟩
theorem Ev.mono {r : Nat → Nat → Bool} {n : Nat} {α : Type} {Q R : α → Prop} (hq : ∀ a, Q a → R a) : ∀ {t : KasT α}, Ev r n t Q → Ev r n t R
  | .ret a, h => hq a h
  | .ask i j k, h => ⟨h.1, h.2.1, h.2.2.1, Ev.mono hq (t := k (r i j)) h.2.2.2⟩
theorem Ev.wp {r : Nat → Nat → Bool} {n : Nat} {cmp : Nat → Nat → (Bool → Shared → Prop) → Shared → Prop} {St : Shared → Prop} (hc : ∀ i j C s, i < n → j < n → i ≠ j → St s → (∀ s', St s' → C (r i j) s') → cmp i j C s) {α : Type} {Q : α → Prop} {G : α → Shared → Prop} (hG : ∀ a s, Q a → St s → G a s) :
    ∀ {t : KasT α} {s : Shared}, Ev r n t Q → St s → t.kasWp cmp G s
  | .ret a, s, h, hs => hG a s h hs
  | .ask i j k, s, h, hs => hc i j _ s h.1 h.2.1 h.2.2.1 hs fun s' hs' => Ev.wp hc hG (t := k (r i j)) h.2.2.2 hs'
structure Ord (n : Nat) (r : Nat → Nat → Bool) : Prop where
  tot : ∀ i j, i < n → j < n → i ≠ j → r i j = false → r j i = true
  asym : ∀ i j, i < n → j < n → r i j = true → r j i = false
  trans : ∀ i j k, i < n → j < n → k < n → r i j = true → r j k = true → r i k = true
section
variable {n : Nat} {r : Nat → Nat → Bool}
abbrev lt (r : Nat → Nat → Bool) (p : Array Nat) (i j : Nat) : Bool := r (p.getD i 0) (p.getD j 0)
def PermN (n : Nat) (p : Array Nat) : Prop := p.toList.Perm (List.range n)
theorem PermN.size {p : Array Nat} (h : PermN n p) : p.size = n := by have := h.length_eq; simpa using this
theorem PermN.lt {p : Array Nat} (h : PermN n p) {i : Nat} (hi : i < n) : p.getD i 0 < n := by
  have hs := h.size
  have e : p.getD i 0 = p[i]'(by omega) := by simp [Array.getD, hs, hi]
  rw [e]
  have : p[i]'(by omega) ∈ p.toList := by simp
  exact List.mem_range.mp (h.mem_iff.mp this)
theorem PermN.ne {p : Array Nat} (h : PermN n p) {i j : Nat} (hi : i < n) (hj : j < n) (ne : i ≠ j) : p.getD i 0 ≠ p.getD j 0 := by
  have hs := h.size
  have e1 : p.getD i 0 = p.toList[i]'(by simp; omega) := by simp [Array.getD, hs, hi]
  have e2 : p.getD j 0 = p.toList[j]'(by simp; omega) := by simp [Array.getD, hs, hj]
  have nd : p.toList.Nodup := h.nodup_iff.mpr List.nodup_range
  rw [e1, e2]
  intro z
  exact ne ((List.getElem_inj nd).mp z)
def Asc (r : Nat → Nat → Bool) (p : Array Nat) (k : Nat) : Prop := ∀ i j, i < j → j < k → lt r p i j = true
def Dsc (r : Nat → Nat → Bool) (p : Array Nat) (k : Nat) : Prop := ∀ i j, i < j → j < k → lt r p j i = true
theorem Asc.more (o : Ord n r) {p : Array Nat} (hp : PermN n p) {k : Nat} (h1 : 1 ≤ k) (hk : k < n) (h : Asc r p k) (hl : lt r p (k - 1) k = true) : Asc r p (k + 1) := fun i j hij hj => by
  by_cases e : j = k
  · subst e
    by_cases e2 : i = j - 1
    · rw [e2]; exact hl
    · exact o.trans _ _ _ (hp.lt (by omega)) (hp.lt (by omega)) (hp.lt hk) (h i (j - 1) (by omega) (by omega)) hl
  · exact h i j hij (by omega)
theorem Dsc.more (o : Ord n r) {p : Array Nat} (hp : PermN n p) {k : Nat} (h1 : 1 ≤ k) (hk : k < n) (h : Dsc r p k) (hl : lt r p k (k - 1) = true) : Dsc r p (k + 1) := fun i j hij hj => by
  by_cases e : j = k
  · subst e
    by_cases e2 : i = j - 1
    · rw [e2]; exact hl
    · exact o.trans _ _ _ (hp.lt hk) (hp.lt (by omega)) (hp.lt (by omega)) hl (h i (j - 1) (by omega) (by omega))
  · exact h i j hij (by omega)
theorem ev_asc (o : Ord n r) {p : Array Nat} (hp : PermN n p) : ∀ (f k : Nat), 1 ≤ k → k + f ≤ n → Asc r p k → Ev r n (kas_asc p f k) (fun m => k ≤ m ∧ m ≤ k + f ∧ Asc r p m ∧ (m < k + f → lt r p m (m - 1) = true))
  | 0, k, h1, hk, h => ⟨Nat.le_refl _, Nat.le_refl _, h, fun z => by omega⟩
  | f + 1, k, h1, hk, h => by
    refine ⟨hp.lt (by omega), hp.lt (by omega), hp.ne (by omega) (by omega) (by omega), ?_⟩
    cases e : r (p.getD k 0) (p.getD (k - 1) 0) with
    | true => exact ⟨Nat.le_refl _, by omega, h, fun _ => e⟩
    | false =>
      have hl := o.tot _ _ (hp.lt (i := k) (by omega)) (hp.lt (i := k - 1) (by omega)) (hp.ne (by omega) (by omega) (by omega)) e
      exact Ev.mono (fun m hm => ⟨by omega, by omega, hm.2.2.1, fun z => hm.2.2.2 (by omega)⟩) (ev_asc o hp f (k + 1) (by omega) (by omega) (h.more o hp h1 (by omega) hl))
theorem ev_desc (o : Ord n r) {p : Array Nat} (hp : PermN n p) : ∀ (f k : Nat), 1 ≤ k → k + f ≤ n → Dsc r p k → Ev r n (kas_desc f p k 0) (fun z => z.1 = p ∧ k ≤ z.2.1 ∧ z.2.1 ≤ k + f ∧ z.2.2 = 0 ∧ Dsc r p z.2.1)
  | 0, k, h1, hk, h => ⟨rfl, Nat.le_refl _, Nat.le_refl _, rfl, h⟩
  | f + 1, k, h1, hk, h => by
    refine ⟨hp.lt (by omega), hp.lt (by omega), hp.ne (by omega) (by omega) (by omega), ?_⟩
    cases e : r (p.getD k 0) (p.getD (k - 1) 0) with
    | true =>
      exact Ev.mono (fun z hz => ⟨hz.1, by omega, by omega, hz.2.2.2.1, hz.2.2.2.2⟩) (ev_desc o hp f (k + 1) (by omega) (by omega) (h.more o hp h1 (by omega) e))
    | false =>
      have hl := o.tot _ _ (hp.lt (i := k) (by omega)) (hp.lt (i := k - 1) (by omega)) (hp.ne (by omega) (by omega) (by omega)) e
      refine ⟨hp.lt (by omega), hp.lt (by omega), hp.ne (by omega) (by omega) (by omega), ?_⟩
      rw [hl]
      exact ⟨rfl, Nat.le_refl _, (by show k ≤ k + (f + 1); omega), rfl, h⟩
theorem getD_of {p q : Array Nat} {i j : Nat} (h : p[i]? = q[j]?) : p.getD i 0 = q.getD j 0 := by
  rw [Array.getD_eq_getD_getElem?, Array.getD_eq_getD_getElem?, h]
theorem PermN.of {p q : Array Nat} (h : q.Perm p) (hp : PermN n p) : PermN n q := (Array.perm_iff_toList_perm.mp h).trans hp
theorem rev_asc {p : Array Nat} (hp : PermN n p) {k : Nat} (hk : k ≤ n) (h : Dsc r p k) : PermN n (kas_rev p 0 k) ∧ Asc r (kas_rev p 0 k) k := by
  refine ⟨hp.of (mirror_perm _ _ _ _), fun i j hij hj => ?_⟩
  have e : ∀ i, i < k → (kas_rev p 0 k).getD i 0 = p.getD (k - 1 - i) 0 := fun i hi => by
    refine getD_of ?_
    have := getElem?_mirror_all (xs := p) (i := 0) (j := k) (by rw [hp.size]; exact hk) i
    unfold kas_rev
    rw [this, if_pos ⟨Nat.zero_le _, hi⟩, Nat.zero_add]
  unfold lt
  rw [e i (by omega), e j hj]
  exact h (k - 1 - j) (k - 1 - i) (by omega) (by omega)
theorem ev_tail3 (o : Ord n r) {p : Array Nat} (hp : PermN n p) {k : Nat} (h1 : 1 ≤ k) (hk : k ≤ n) (h : Dsc r p k) : Ev r n (kas_tail3 k n p) (fun z => PermN n z.2 ∧ 1 ≤ z.1 ∧ z.1 ≤ n ∧ Asc r z.2 z.1) := by
  obtain ⟨q1, q2⟩ := rev_asc hp hk h
  exact Ev.bind (Ev.mono (fun m hm => ⟨q1, by omega, by omega, hm.2.2.1⟩) (ev_asc o q1 (n - k) k h1 (by omega) q2))
theorem ev_descPart (o : Ord n r) {p : Array Nat} (hp : PermN n p) (h2 : 2 ≤ n) (h : lt r p 1 0 = true) : Ev r n (kas_descPart 1 n p) (fun z => PermN n z.2 ∧ 1 ≤ z.1 ∧ z.1 ≤ n ∧ Asc r z.2 z.1) := by
  have d2 : Dsc r p 2 := fun i j hij hj => by
    have : i = 0 := by omega
    have : j = 1 := by omega
    subst i j
    exact h
  refine Ev.bind (Ev.mono (fun z hz => ?_) (ev_desc o hp (n - 2) 2 (by omega) (by omega) d2))
  obtain ⟨p', m, q⟩ := z
  obtain ⟨e1, e2, e3, e4, e5⟩ := hz
  dsimp only at e1 e2 e3 e4 e5
  subst e1 e4
  have e3' : m ≤ 2 + (n - 2) := e3
  have e2' : 2 ≤ m := e2
  exact ev_tail3 o hp (k := m) (by omega) (by omega) e5
theorem ev_count (o : Ord n r) {p : Array Nat} (hp : PermN n p) (h2 : 2 ≤ n) : Ev r n (kas_count n p) (fun z => PermN n z.2 ∧ 1 ≤ z.1 ∧ z.1 ≤ n ∧ Asc r z.2 z.1) := by
  refine Ev.bind (Ev.mono (fun m hm => ?_) (ev_asc o hp (n - 1) 1 (Nat.le_refl _) (by omega) (fun i j hij hj => by omega)))
  obtain ⟨h1, hmn, ha, hl⟩ := hm
  by_cases e : m = n
  · subst e
    rw [if_pos (by simp)]
    exact ⟨hp, h1, Nat.le_refl _, ha⟩
  · rw [if_neg (by simpa using e)]
    by_cases e1 : m > 1
    · rw [if_pos e1]
      refine ⟨hp.lt (by omega), hp.lt (by omega), hp.ne (by omega) (by omega) (by omega), ?_⟩
      have : r (p.getD 0 0) (p.getD (m - 1) 0) = true := ha 0 (m - 1) (by omega) (by omega)
      rw [this]
      exact ⟨hp, h1, by dsimp only; omega, ha⟩
    · rw [if_neg e1]
      have : m = 1 := by omega
      subst this
      exact ev_descPart o hp h2 (hl (by omega))
theorem ev_place (o : Ord n r) {p : Array Nat} (hp : PermN n p) {k : Nat} (hk : k < n) (ha : Asc r p k) : ∀ (f l u : Nat), l ≤ u → u ≤ k → u - l ≤ f → (∀ i, i < l → lt r p i k = true) → (∀ i, u ≤ i → i < k → lt r p k i = true) →
    Ev r n (kas_place p k f l u) (fun m => m ≤ k ∧ (∀ i, i < m → lt r p i k = true) ∧ (∀ i, m ≤ i → i < k → lt r p k i = true))
  | 0, l, u, hl, hu, hf, h1, h2 => ⟨by omega, h1, fun i hi hik => h2 i (by omega) hik⟩
  | f + 1, l, u, hl, hu, hf, h1, h2 => by
    unfold kas_place
    by_cases e : l ≥ u
    · rw [if_pos e]
      exact ⟨by omega, h1, fun i hi hik => h2 i (by omega) hik⟩
    · rw [if_neg e]
      refine ⟨hp.lt hk, hp.lt (by omega), hp.ne (by omega) (by omega) (by omega), ?_⟩
      cases c : r (p.getD k 0) (p.getD ((l + u) / 2) 0) with
      | true =>
        refine ev_place o hp hk ha f l ((l + u) / 2) (by omega) (by omega) (by omega) h1 fun i hi hik => ?_
        by_cases z : i = (l + u) / 2
        · rw [z]; exact c
        · exact o.trans _ _ _ (hp.lt hk) (hp.lt (by omega)) (hp.lt (by omega)) c (ha _ i (by omega) hik)
      | false =>
        have hl' := o.tot _ _ (hp.lt hk) (hp.lt (i := (l + u) / 2) (by omega)) (hp.ne hk (by omega) (by omega)) c
        refine ev_place o hp hk ha f ((l + u) / 2 + 1) u (by omega) hu (by omega) (fun i hi => ?_) h2
        by_cases z : i = (l + u) / 2
        · rw [z]; exact hl'
        · exact o.trans _ _ _ (hp.lt (by omega)) (hp.lt (by omega)) (hp.lt hk) (ha i _ (by omega) (by omega)) hl'
theorem bubble_asc {p : Array Nat} (hp : PermN n p) {k m : Nat} (hk : k < n) (hm : m ≤ k) (ha : Asc r p k) (h1 : ∀ i, i < m → lt r p i k = true) (h2 : ∀ i, m ≤ i → i < k → lt r p k i = true) : PermN n (bubble p k (k - m)) ∧ Asc r (bubble p k (k - m)) (k + 1) := by
  refine ⟨hp.of (bubble_perm _ _ _), fun i j hij hj => ?_⟩
  have e : ∀ i, (bubble p k (k - m)).getD i 0 = if i = m then p.getD k 0 else if m < i ∧ i ≤ k then p.getD (i - 1) 0 else p.getD i 0 := fun i => by
    have := getElem?_bubble (xs := p) (src := k) (by rw [hp.size]; exact hk) (k - m) (by omega) i
    rw [show k - (k - m) = m by omega] at this
    by_cases c1 : i = m
    · rw [if_pos c1] at this ⊢; exact getD_of this
    · rw [if_neg c1] at this ⊢
      by_cases c2 : m < i ∧ i ≤ k
      · rw [if_pos c2] at this ⊢; exact getD_of this
      · rw [if_neg c2] at this ⊢; exact getD_of this
  unfold lt
  rw [e i, e j]
  by_cases i1 : i = m
  · rw [if_pos i1, if_neg (by omega), if_pos ⟨by omega, by omega⟩]
    exact h2 (j - 1) (by omega) (by omega)
  · rw [if_neg i1]
    by_cases j1 : j = m
    · rw [if_pos j1, if_neg (by omega)]
      exact h1 i (by omega)
    · rw [if_neg j1]
      by_cases i2 : m < i ∧ i ≤ k
      · rw [if_pos i2, if_pos ⟨by omega, by omega⟩]
        exact ha (i - 1) (j - 1) (by omega) (by omega)
      · rw [if_neg i2]
        by_cases j2 : m < j ∧ j ≤ k
        · rw [if_pos j2]
          exact ha i (j - 1) (by omega) (by omega)
        · rw [if_neg j2]
          exact ha i j hij (by omega)
theorem ev_bin (o : Ord n r) : ∀ (f : Nat) {p : Array Nat} (k : Nat), PermN n p → k + f = n → Asc r p k → Ev r n (kas_bin f p k) (fun q => PermN n q ∧ Asc r q n)
  | 0, p, k, hp, hk, ha => ⟨hp, by have : k = n := hk; rw [← this]; exact ha⟩
  | f + 1, p, k, hp, hk, ha => by
    refine Ev.bind (Ev.mono (fun m hm => ?_) (ev_place o hp (by omega) ha k 0 k (Nat.zero_le _) (Nat.le_refl _) (by omega) (fun i hi => by omega) (fun i hi hik => by omega)))
    obtain ⟨q1, q2⟩ := bubble_asc hp (by omega) hm.1 ha hm.2.1 hm.2.2
    exact ev_bin o f (k + 1) q1 (by omega) q2
theorem ev_sort (o : Ord n r) (h2 : 2 ≤ n) : Ev r n (kas_sort n) (fun q => PermN n q ∧ Asc r q n) := by
  have hp : PermN n (List.toArray (List.range n)) := by unfold PermN; simp
  refine Ev.bind (Ev.mono (fun z hz => ?_) (ev_count o hp h2))
  obtain ⟨m, q⟩ := z
  obtain ⟨q1, q2, q3, q4⟩ := hz
  dsimp only at q1 q2 q3 q4 ⊢
  by_cases e : m < n
  · rw [if_pos e, show max m 1 = m by omega]
    exact ev_bin o (n - m) m q1 (by omega) q4
  · rw [if_neg e]
    have : m = n := by omega
    rw [this] at q4
    exact ⟨q1, q4⟩
end
end L2
set_option linter.all false
set_option maxRecDepth 100000
set_option maxHeartbeats 4000000
namespace L2
def lexB : List Int → List Int → Bool
  | _, [] => false
  | [], _ :: _ => true
  | a :: as, b :: bs => if a = b then lexB as bs else decide (a < b)
theorem lexB_self : ∀ as : List Int, lexB as as = false
  | [] => rfl
  | a :: as => by rw [lexB, if_pos rfl]; exact lexB_self as
theorem lexB_tot : ∀ {as bs : List Int}, as ≠ bs → lexB as bs = false → lexB bs as = true
  | [], [], h, _ => absurd rfl h
  | [], _ :: _, _, h => by cases h
  | _ :: _, [], _, _ => rfl
  | a :: as, b :: bs, h, k => by
    rw [lexB] at k ⊢
    by_cases e : a = b
    · subst e
      rw [if_pos rfl] at k ⊢
      exact lexB_tot (fun z => h (by rw [z])) k
    · rw [if_neg e] at k
      rw [if_neg (Ne.symm e)]
      have := of_decide_eq_false k
      exact decide_eq_true (by omega)
theorem lexB_asym : ∀ {as bs : List Int}, lexB as bs = true → lexB bs as = false
  | [], [], h => by cases h
  | [], _ :: _, _ => rfl
  | _ :: _, [], h => by cases h
  | a :: as, b :: bs, k => by
    rw [lexB] at k ⊢
    by_cases e : a = b
    · subst e
      rw [if_pos rfl] at k ⊢
      exact lexB_asym k
    · rw [if_neg e] at k
      rw [if_neg (Ne.symm e)]
      have := of_decide_eq_true k
      exact decide_eq_false (by omega)
theorem lexB_trans : ∀ {as bs cs : List Int}, lexB as bs = true → lexB bs cs = true → lexB as cs = true
  | _, _, [], _, h => by cases ‹List Int› <;> cases h
  | [], _, _ :: _, _, _ => rfl
  | _ :: _, [], _ :: _, h, _ => by cases h
  | a :: as, b :: bs, c :: cs, h, k => by
    rw [lexB] at h k ⊢
    by_cases e1 : a = b
    · subst e1
      rw [if_pos rfl] at h
      by_cases e2 : a = c
      · subst e2
        rw [if_pos rfl] at k ⊢
        exact lexB_trans h k
      · rw [if_neg e2] at k ⊢
        exact k
    · rw [if_neg e1] at h
      have h' := of_decide_eq_true h
      by_cases e2 : b = c
      · subst e2
        rw [if_neg e1]
        exact h
      · rw [if_neg e2] at k
        have k' := of_decide_eq_true k
        rw [if_neg (by omega)]
        exact decide_eq_true (by omega)
end L2
namespace PySem
open PySem.Calls PyProof.Rows PySem.W L2
open AutoSeq1 (wpAny_loadPart')
theorem ints_at {vs : List Value} {ns : List Int} (h : IntsAre vs ns) : vs.length = ns.length := by
  induction h with
  | nil => rfl
  | cons n t _ ih => simp [ih]
theorem lexB_end {ns ms : List Int} {i : Nat} (h : i = min ns.length ms.length) : lexB (ns.drop i) (ms.drop i) = decide (ns.length < ms.length) := by
  by_cases c : ns.length < ms.length
  · have e1 : ns.drop i = [] := List.drop_of_length_le (by omega)
    have e2 : i < ms.length := by omega
    rw [e1, List.drop_eq_getElem_cons e2, decide_eq_true c]
    rfl
  · have e1 : ms.drop i = [] := List.drop_of_length_le (by omega)
    rw [e1, decide_eq_false c]
    cases ns.drop i <;> rfl
theorem tuple_ltAt (l b : Addr) (items items2 : Array Value) (n n2 : Nat) (dd dd2 : Option Addr) (sl sl2 : Array (Option Value)) (ns ms : List Int) (hi1 : IntsAre items.toList ns) (hi2 : IntsAre items2.toList ms) :
    Meets (Builtin.«tuple.__lt__» ⟨[.ref l, .ref b], []⟩)
      (fun A R s => s.heap.get? l = some { cls := .type "tuple", dict := dd, data := .seq items n, slots := sl } ∧ s.heap.get? b = some { cls := .type "tuple", dict := dd2, data := .seq items2 n2, slots := sl2 } ∧
        R (.ok (.ret (.bool (lexB ns ms)))) s) :=
  .of_wp fun prog w A R s h => by
    obtain ⟨hp, g, d, tk, os⟩ := s; obtain ⟨hl, hb, h⟩ := h
    have f2 := AutoSeq1.sub_tuple_tuple
    have l1 : items.size = ns.length := by have := ints_at hi1; simpa using this
    have l2 : items2.size = ms.length := by have := ints_at hi2; simpa using this
    have hZ : (items.toList.zip items2.toList).length = min items.size items2.size := by simp
    wp_walk using wpAny_loadPart' hl, wpAny_loadPart' hb, wpAny_forIn_list _ (fun rest b s' => b.1 = none ∧ s' = ⟨hp, g, d, tk, os⟩ ∧ ∃ i, rest = (items.toList.zip items2.toList).drop i ∧ i ≤ min items.size items2.size ∧
      R (.ok (.ret (.bool (lexB (ns.drop i) (ms.drop i))))) ⟨hp, g, d, tk, os⟩) _
    case turn =>
      rintro ⟨y, x⟩ rest b s' ⟨hb', rfl, i, hz, him, hR⟩
      have hlt : i < (items.toList.zip items2.toList).length := by
        rcases Nat.lt_or_ge i (items.toList.zip items2.toList).length with h' | h'
        · exact h'
        · rw [List.drop_of_length_le h'] at hz; cases hz
      have hm : i < min items.size items2.size := hZ ▸ hlt
      have h1 : i < items.size := Nat.lt_of_lt_of_le hm (Nat.min_le_left _ _)
      have h2 : i < items2.size := Nat.lt_of_lt_of_le hm (Nat.min_le_right _ _)
      rw [List.drop_eq_getElem_cons hlt] at hz
      injection hz with hyx hrest
      have hy : y = items[i] := by have := congrArg Prod.fst hyx; simpa using this
      have hx : x = items2[i] := by have := congrArg Prod.snd hyx; simpa using this
      subst hy hx
      obtain ⟨t1, e1⟩ := hi1.int_at i items[i] (by simp [h1])
      obtain ⟨t2, e2⟩ := hi2.int_at i items2[i] (by simp [h2])
      rw [e1, e2]
      have d1 : ns.drop i = ns.getD i 0 :: ns.drop (i + 1) := by
        rw [List.drop_eq_getElem_cons (by omega)]
        congr 1
        simp [show i < ns.length by omega]
      have d2 : ms.drop i = ms.getD i 0 :: ms.drop (i + 1) := by
        rw [List.drop_eq_getElem_cons (by omega)]
        congr 1
        simp [show i < ms.length by omega]
      rw [d1, d2, lexB] at hR
      refine wpAny_bind (SeqAt.EqAt.int_int _ t1 _ t2 prog w _ _ ?_)
      cases hy : (ns.getD i 0 == ms.getD i 0) with
      | true =>
        rw [if_pos (by simpa using hy)] at hR
        wp_walk
        exact ⟨rfl, rfl, i + 1, hrest, by omega, hR⟩
      | false =>
        rw [if_neg (by simpa using hy)] at hR
        rw [if_pos (by rfl)]
        refine wpAny_bind (wpAny_rule (wpAny_bind (PyProof.Rows.lt_int ?_)))
        wp_walk
        exact ⟨_, rfl, hR⟩
    case fin =>
      rintro ⟨b1, b2⟩ s' ⟨hb', rfl, i, hz, him, hR⟩
      simp only at hb'
      subst hb'
      have hge : min items.size items2.size ≤ i := by
        rcases Nat.lt_or_ge i (items.toList.zip items2.toList).length with h' | h'
        · rw [List.drop_eq_getElem_cons h'] at hz; cases hz
        · exact hZ ▸ h'
      rw [lexB_end (by omega)] at hR
      wp_walk
      exact ⟨_, rfl, by simpa [Builtin.Tuple.tupleCompareSizes, l1, l2] using hR⟩
    case h =>
      exact ⟨rfl, rfl, 0, rfl, Nat.zero_le _, by simpa using h⟩
end PySem
set_option linter.all false
set_option maxRecDepth 100000
set_option maxHeartbeats 4000000
namespace PySem
open PySem.Calls PyProof.Rows PySem.W L2
section
variable {prog : Program} {w : World} {A : Around} {E : Value → Shared → Prop} {s : Shared}
theorem place_lt {l b : Addr} {items items2 : Array Value} {ns ms : List Int} {Q : Value → Shared → Prop} (hl : s.heap.IsTuple l items) (hb : s.heap.IsTuple b items2) (h1 : IntsAre items.toList ns) (h2 : IntsAre items2.toList ms) (hu : A.units < cLine)
    (h : Q (.bool (lexB ns ms)) s) : wpAny (model prog w) A (compareOp .Lt (.ref l) (.ref b)) Q E s := by
  obtain ⟨⟨cls, dd, data, sl⟩, ho, hc, n, hd⟩ := id hl
  obtain ⟨⟨cls2, dd2, data2, sl2⟩, ho2, hc2, n2, hd2⟩ := id hb
  simp only at hc hd hc2 hd2
  subst hc hd hc2 hd2
  exact richCompare_meets_room (op := .Lt) ⟨_, ho, rfl⟩ ⟨_, ho2, rfl⟩ F.slot_tuple_lt F.entry_tuple_lt (F.args_tuple_lt_2 _ _) (tuple_ltAt l b items items2 n n2 dd dd2 sl sl2 ns ms h1 h2)
    ⟨ho, ho2, show Value.bool (lexB ns ms) ≠ Value.notImplemented ∧ Q (.bool (lexB ns ms)) s from ⟨(fun x => nomatch x), h⟩⟩ hu
theorem all_same : ∀ {ns ms : List Int}, ((List.range (min ns.length ms.length)).all (fun j => ns.getD j 0 == ms.getD j 0) && ns.length == ms.length) = true → ns = ms := by
  intro ns ms h
  rw [Bool.and_eq_true, List.all_eq_true] at h
  have hl : ns.length = ms.length := by simpa using h.2
  refine List.ext_getElem hl fun i h1 h2 => ?_
  have := h.1 i (List.mem_range.mpr (by omega))
  simpa [h1, h2] using this
theorem place_ne {l b : Addr} {items items2 : Array Value} {ns ms : List Int} (hl : s.heap.IsTuple l items) (hb : s.heap.IsTuple b items2) (h1 : IntsAre items.toList ns) (h2 : IntsAre items2.toList ms) (hu : A.units < cLine) (hne : ns ≠ ms) : SeqAt.EqAt A s (.ref l) (.ref b) false := by
  have e1 : items.size = ns.length := by have := ints_at h1; simpa using this
  have e2 : items2.size = ms.length := by have := ints_at h2; simpa using this
  have hne' : l ≠ b := fun z => by
    subst z
    obtain ⟨o, ho, hc, n, hd⟩ := hl
    obtain ⟨o', ho', hc', n', hd'⟩ := hb
    rw [ho] at ho'
    cases ho'
    rw [hd] at hd'
    cases hd'
    refine hne ?_
    have := h1.nums
    rw [h2.nums] at this
    exact this.symm
  have key := SeqAt.RcAt.tuples (A := A) (e := fun j => ns.getD j 0 == ms.getD j 0) hl hb hu fun j j1 j2 => by
    obtain ⟨t1, q1⟩ := h1.int_at j items[j] (by simp [j1])
    obtain ⟨t2, q2⟩ := h2.int_at j items2[j] (by simp [j2])
    rw [q1, q2]
    exact SeqAt.EqAt.int_int _ _ _ _
  rw [e1, e2] at key
  have : ((List.range (min ns.length ms.length)).all (fun j => ns.getD j 0 == ms.getD j 0) && ns.length == ms.length) = false := by
    cases h : ((List.range (min ns.length ms.length)).all (fun j => ns.getD j 0 == ms.getD j 0) && ns.length == ms.length) with
    | false => rfl
    | true => exact absurd (all_same h) hne
  rw [this] at key
  exact SeqAt.EqAt.of_refs hne' key
def PlcAt (h : Heap) (v : Value) (ns : List Int) : Prop := ∃ (a c : Addr) (u : Value) (its : Array Value), v = .ref a ∧ h.IsTuple a #[.ref c, u] ∧ h.IsTuple c its ∧ IntsAre its.toList ns
theorem PlcAt.kept {h h' : Heap} {v : Value} {ns : List Int} (k : ∀ b o, o.cls = .type "tuple" → h.get? b = some o → h'.get? b = some o) : PlcAt h v ns → PlcAt h' v ns
  | ⟨a, c, u, its, e, ⟨o, ho, hc, r⟩, ⟨o', ho', hc', r'⟩, i⟩ => ⟨a, c, u, its, e, ⟨o, k _ _ hc ho, hc, r⟩, ⟨o', k _ _ hc' ho', hc', r'⟩, i⟩
theorem plcs_kept {h h' : Heap} (k : ∀ b o, o.cls = .type "tuple" → h.get? b = some o → h'.get? b = some o) : ∀ {vs : List Value} {ps : List (List Int)}, Paired (PlcAt h) vs ps → Paired (PlcAt h') vs ps
  | _, _, .nil => .nil
  | _, _, .cons r q => .cons (r.kept k) (plcs_kept k q)
theorem plc_at {h : Heap} : ∀ {vs : List Value} {ps : List (List Int)}, Paired (PlcAt h) vs ps → ∀ {i : Nat}, i < vs.length → PlcAt h (vs.getD i Value.none) (ps.getD i [])
  | _, _, .cons r q, 0, _ => r
  | _, _, .cons r q, i + 1, hi => by
    have := plc_at q (i := i) (by simpa using hi)
    simpa using this
theorem plc_lt {x y : Value} {ns ms : List Int} {Q : Bool → Shared → Prop} (hx : PlcAt s.heap x ns) (hy : PlcAt s.heap y ms) (hne : ns ≠ ms) (hu : A.units < cLine) (h : Q (lexB ns ms) s) : wpAny (model prog w) A (keyLt' (tuples' false) x y) Q E s := by
  obtain ⟨a, c, u, its, rfl, ⟨o, ho, hc, n, hd⟩, hp, hi⟩ := hx
  obtain ⟨a', c', u', its', rfl, ⟨o', ho', hc', n', hd'⟩, hp', hi'⟩ := hy
  refine kat_lt ho hd ho' hd' ?_
  show KatLex prog w A false _ Q [(.ref c, .ref c'), (u, u')] 0 s
  refine kat_cons (place_ne hp hp' hi hi' hu hne prog w _ _ (kat_no ?_))
  refine kat_one _ _ (place_lt hp hp' hi hi' hu ?_)
  exact h
theorem plc_tups : ∀ {vs : List Value} {ps : List (List Int)} {h : Heap}, Paired (PlcAt h) vs ps → ∃ fs, KatTups h vs fs ∧ fs.length = vs.length ∧ ∀ v ∈ fs, Looks (model prog w) h (typeOf v) (.type "tuple")
  | _, _, _, .nil => ⟨[], trivial, rfl, fun v hv => nomatch hv⟩
  | _, _, h, .cons r q => by
    obtain ⟨fs, h1, h2, h3⟩ := plc_tups q
    obtain ⟨a, c, u, its, rfl, ⟨o, ho, hc, n, hd⟩, ⟨o', ho', hc', r'⟩, hi⟩ := r
    refine ⟨.ref c :: fs, KatTups.cons ho hc hd rfl h1, by simp [h2], fun v hv => ?_⟩
    rcases List.mem_cons.mp hv with rfl | hv
    · have := (show Looks (model prog w) h (typeOf (.ref c)) o'.cls from (Looks.ld ho').andThen .now)
      rw [hc'] at this
      exact this
    · exact h3 v hv
theorem snds_few : ∀ {vs : List Value}, vs.length < 2 → (vs.toArray.zip vs.toArray).map (·.2) = List.toArray ((List.toArray (List.range vs.length)).toList.map fun i => vs.getD i Value.none)
  | [], _ => by simp
  | [x], _ => by simp [List.range_succ]
  | _ :: _ :: _, h => by simp at h; omega
theorem list_sort_plc {a : Addr} {vs : List Value} {ps : List (List Int)} {n : Nat} {P : PySem.Fin → Shared → Prop} (ho : s.heap.get? a = some (seqObj "list" vs.toArray n)) (hp : Paired (PlcAt s.heap) vs ps) (nd : ps.Nodup) (h64 : vs.length < 64) (hu : A.units < cLine)
    (h : ∀ p : Array Nat, PermN vs.length p → Asc (fun i j => lexB (ps.getD i []) (ps.getD j [])) p vs.length → P (.done (.ret .none)) { s with heap := sortedHeap s.heap a vs (List.toArray (p.toList.map fun i => vs.getD i Value.none)) }) :
    wpAny (model prog w) A (Builtin.«list.sort» ⟨[.ref a], []⟩) P E s := by
  rw [list_sort_plain]
  have hlp : vs.length = ps.length := hp.length
  have ha : a < s.heap.objs.size := Heap.lt_size ho
  refine wpAny_bind (listItems_at ho rfl ?_)
  refine wpAny_bind (listUpdate_at ho rfl ?_ (by rw [List.size_toArray, sizeLine_eq]; omega) (Nat.zero_le _))
  obtain ⟨e1, ho1⟩ : ∃ e1, (s.heap.update a (Obj.mapSeq fun _ => #[])).get? a = some (seqObj "list" #[] e1) := ⟨_, get?_update_seq ho (fun _ => #[])⟩
  refine wpAny_bind (seqEpoch_at ho1 rfl ?_)
  refine wpAny_bind (wpAny_newTuple ?_ (by show vs.length ≤ _; rw [sizeLine_eq]; omega))
  refine wpAny_bind (wpAny_newList ?_ (Nat.zero_le _))
  refine wpAny_holding ?_
  have ho6 : (((s.heap.update a (Obj.mapSeq fun _ => #[])).push (seqObj "tuple" vs.toArray 0)).push (seqObj "list" #[] 0)).get? a = some (seqObj "list" #[] e1) := by
    rw [Heap.get?_push_ne _ _ _ (by rw [size_push', Heap.size_update]; exact Nat.ne_of_lt (Nat.lt_succ_of_lt ha)), Heap.get?_push_ne _ _ _ (by rw [Heap.size_update]; exact Nat.ne_of_lt ha)]
    exact ho1
  have keep : ∀ b o, o.cls = .type "tuple" → s.heap.get? b = some o → (((s.heap.update a (Obj.mapSeq fun _ => #[])).push (seqObj "tuple" vs.toArray 0)).push (seqObj "list" #[] 0)).get? b = some o := fun b o hc hb => by
    have hne : b ≠ a := fun z => by
      rw [z, ho] at hb
      cases hb
      injection hc with hh
      exact absurd hh (by decide)
    exact Heap.get?_push_of_some _ (Heap.get?_push_of_some _ (by rw [Heap.get?_update_ne _ _ _ _ hne]; exact hb))
  have hp6 := plcs_kept keep hp
  show wpAny (model prog w) A _ P E { s with heap := ((s.heap.update a (Obj.mapSeq fun _ => #[])).push (seqObj "tuple" vs.toArray 0)).push (seqObj "list" #[] 0) }
  dsimp only
  by_cases h2 : vs.toArray.size < 2
  · rw [if_pos h2, if_pos h2]
    refine wpAny_bind (wpAny_pure ?_)
    rw [StateT.run_pure]
    refine wpAny_bind (wpAny_pure ?_)
    dsimp only
    have h2' : vs.length < 2 := by simpa using h2
    have hid : (arrOf (SortSt.mk' general' (vs.toArray.zip vs.toArray) #[] 7 none)).map (·.2) = List.toArray ((List.toArray (List.range vs.length)).toList.map fun i => vs.getD i Value.none) := by
      show (vs.toArray.zip vs.toArray).map (·.2) = _
      exact snds_few h2'
    refine wpAny_bind (seqEpoch_at ho6 rfl ?_)
    refine wpAny_bind (listUpdate_at ho6 rfl ?_ (Nat.zero_le _) (by rw [Array.size_map]; show (vs.toArray.zip vs.toArray).size ≤ _; rw [sizeLine_eq]; simp; omega))
    simp only [bne_self_eq_false, Bool.false_eq_true, if_false]
    refine wpAny_pure ?_
    have fin := h (List.toArray (List.range vs.length)) (by unfold PermN; simp) (fun i j hij hj => by omega)
    rw [← hid] at fin
    exact fin
  · rw [if_neg h2, if_neg h2]
    have h2' : 2 ≤ vs.length := by simpa using h2
    obtain ⟨fs, t1, t2, t3⟩ := plc_tups (prog := prog) (w := w) hp6
    refine wpAny_bind (kat_kind (T := .type "tuple") t1 (by omega) t3 (by decide) ?_)
    show wpAny (model prog w) A ((sortRuns').run (SortSt.mk' (tuples' false) (vs.toArray.zip vs.toArray) #[] 7 none) >>= _) P E _
    have o : Ord vs.length (fun i j => lexB (ps.getD i []) (ps.getD j [])) := by
      have inj : ∀ i j, i < vs.length → j < vs.length → i ≠ j → ps.getD i [] ≠ ps.getD j [] := fun i j hi hj ne e => by
        have e1 : ps.getD i [] = ps[i]'(by omega) := by simp [show i < ps.length by omega]
        have e2 : ps.getD j [] = ps[j]'(by omega) := by simp [show j < ps.length by omega]
        rw [e1, e2] at e
        exact ne ((List.getElem_inj nd).mp e)
      exact ⟨fun i j hi hj ne k => lexB_tot (inj i j hi hj ne) k, fun i j _ _ k => lexB_asym k, fun i j k _ _ _ a b => lexB_trans a b⟩
    refine wpAny_bind (wpAny_mono (kat_run (Q := fun st' s' => ∃ p : Array Nat, PermN vs.length p ∧ Asc (fun i j => lexB (ps.getD i []) (ps.getD j [])) p vs.length ∧ s' = { s with heap := ((s.heap.update a (Obj.mapSeq fun _ => #[])).push (seqObj "tuple" vs.toArray 0)).push (seqObj "list" #[] 0) } ∧ arrOf st' = p.map (kas_item (vs.toArray.zip vs.toArray)) ∧ failedOf st' = none)
      (G := fun p s' => (PermN vs.length p ∧ Asc (fun i j => lexB (ps.getD i []) (ps.getD j [])) p vs.length) ∧ s' = { s with heap := ((s.heap.update a (Obj.mapSeq fun _ => #[])).push (seqObj "tuple" vs.toArray 0)).push (seqObj "list" #[] 0) })
      rfl h2' h64 (fun p' st' s' a1 a2 a3 a4 => ⟨p', a4.1.1, a4.1.2, a4.2, a2, a3⟩) ?_) ?_ fun _ _ e => e)
    · refine Ev.wp (St := fun s' => s' = { s with heap := ((s.heap.update a (Obj.mapSeq fun _ => #[])).push (seqObj "tuple" vs.toArray 0)).push (seqObj "list" #[] 0) }) (fun i j C s' hi hj hij hs hC => ?_) (fun p s' q hs => ⟨q, hs⟩) (ev_sort o h2') rfl
      subst hs
      unfold kas_ask
      refine plc_lt (plc_at hp6 hi) (plc_at hp6 hj) ?_ hu (hC _ rfl)
      intro e
      have := o.tot i j hi hj hij (by rw [e]; exact lexB_self _)
      rw [e, lexB_self] at this
      cases this
    · rintro ⟨⟨⟩, st'⟩ s' ⟨p, pm, asc, rfl, har, hf⟩
      dsimp only
      have hout := kat_snds rfl har
      rw [hout]
      have hsz : (List.toArray (p.toList.map fun i => vs.getD i Value.none)).size = vs.length := by rw [List.size_toArray, List.length_map, Array.length_toList, pm.size]
      refine wpAny_bind (seqEpoch_at ho6 rfl ?_)
      refine wpAny_bind (listUpdate_at ho6 rfl ?_ (Nat.zero_le _) (Nat.le_trans (Nat.le_of_eq hsz) (by rw [sizeLine_eq]; omega)))
      rw [hf]
      simp only [bne_self_eq_false, Bool.false_eq_true, if_false]
      exact wpAny_pure (h p pm asc)
end
end PySem
set_option Elab.async false
set_option linter.all false
set_option maxRecDepth 100000
set_option maxHeartbeats 4000000
namespace L2
open PySem PySem.Spec PyProof.Rows PySem.W
def PlV (H : Hp) (p : List Int × V) (v : V) : Prop := ∃ (b c : Addr), v = .ref b ∧ H b = some (.tup [.ref c, p.2]) ∧ H c = some (.tup (p.1.map V.int))
theorem PlV.mono {H H' : Hp} (k : Tk H H') {p : List Int × V} {v : V} : PlV H p v → PlV H' p v
  | ⟨b, c, e, h1, h2⟩ => ⟨b, c, e, k _ _ h1, k _ _ h2⟩
theorem ints_of : ∀ {ns : List Int} {us : List Value}, Vals (ns.map V.int) us → IntsAre us ns
  | [], _, h => by
    cases h
    exact .nil
  | n :: ns, _, h => by
    rw [List.map_cons] at h
    cases h with
    | cons r q =>
      obtain ⟨t, rfl⟩ := r
      exact .cons n t (ints_of q)
theorem plc_of {P : Program} {w : World} {H : Hp} {h : Heap} (ok : HOk P w H h) {p : List Int × V} {v : V} {u : Value} (hp : PlV H p v) (r : RelV v u) : PlcAt h u p.1 := by
  obtain ⟨b, c, rfl, h1, h2⟩ := hp
  cases r
  obtain ⟨_, its, rv, tp⟩ := (show ObjOk P w H h b (.tup [.ref c, p.2]) from ok b _ h1)
  obtain ⟨_, its2, rv2, tp2⟩ := (show ObjOk P w H h c (.tup (p.1.map V.int)) from ok c _ h2)
  cases rv with
  | cons q1 rv => cases rv with
    | cons q2 rv =>
      cases rv
      cases q1
      exact ⟨b, c, _, its2.toArray, rfl, tp, tp2, by simpa using ints_of rv2⟩
theorem plcs_of {P : Program} {w : World} {H : Hp} {h : Heap} (ok : HOk P w H h) : ∀ {ps : List (List Int × V)} {vs : List V} {us : List Value}, Paired (PlV H) ps vs → Vals vs us → Paired (PlcAt h) us (ps.map (·.1))
  | _, _, _, .nil, r => by
    cases r
    exact .nil
  | _, _, _, .cons hp q, r => by
    cases r with
    | cons r1 r2 => exact .cons (plc_of ok hp r1) (plcs_of ok q r2)
theorem vals_pick {vs : List V} {us : List Value} (r : Vals vs us) : ∀ (ix : List Nat), (∀ i ∈ ix, i < vs.length) → Vals (ix.map fun i => vs.getD i .non) (ix.map fun i => us.getD i Value.none)
  | [], _ => .nil
  | i :: ix, h => by
    refine .cons ?_ (vals_pick r ix fun j hj => h j (List.mem_cons_of_mem _ hj))
    have hi := h i List.mem_cons_self
    have key : ∀ {vs : List V} {us : List Value}, Vals vs us → ∀ {i : Nat}, i < vs.length → RelV (vs.getD i .non) (us.getD i Value.none) := by
      intro vs us r
      induction r with
      | nil => intro i hi; simp at hi
      | cons q _ ih =>
        intro i hi
        cases i with
        | zero => exact q
        | succ i => exact ih (by simpa using hi)
    exact key r hi
theorem paired_pick {ps : List (List Int × V)} {vs : List V} {H : Hp} (h : Paired (PlV H) ps vs) : ∀ (ix : List Nat), (∀ i ∈ ix, i < vs.length) → Paired (PlV H) (ix.map fun i => ps.getD i ([], .non)) (ix.map fun i => vs.getD i .non)
  | [], _ => .nil
  | i :: ix, hx => by
    refine .cons ?_ (paired_pick h ix fun j hj => hx j (List.mem_cons_of_mem _ hj))
    have hi := hx i List.mem_cons_self
    obtain ⟨p, hp, q⟩ := paired_get h (List.getElem?_eq_getElem hi)
    have e1 : ps.getD i ([], .non) = p := by rw [List.getD_eq_getElem?_getD, hp]; rfl
    have e2 : vs.getD i .non = vs[i] := by simp [hi]
    dsimp only
    rw [e1, e2]
    exact q
theorem perm_pick {α : Type} (d : α) (ps : List α) {ix : List Nat} (h : ix.Perm (List.range ps.length)) : (ix.map fun i => ps.getD i d).Perm ps := by
  refine (h.map _).trans ?_
  have : (List.range ps.length).map (fun i => ps.getD i d) = ps := by
    apply List.ext_getElem
    · simp
    · intro i h1 h2
      simp [h2]
  rw [this]
section
variable {X : Cx}
def rSortP : List V → Hp → VK → Prop := fun xs H Q => ∃ (l : Addr) (vs : List V) (ps : List (List Int × V)), xs = [.ref l] ∧ H l = some (.lst vs) ∧ Paired (PlV H) ps vs ∧ (ps.map (·.1)).Nodup ∧ ps.length < 64 ∧
  ∀ (l' : Addr) (ws : List V) (qs : List (List Int × V)), H l' = none → Paired (PlV H) qs ws → qs.Perm ps → qs.Pairwise (fun a b => lexB a.1 b.1 = true) → Q (.ref l') (upd H l' (.lst ws))
theorem call_sortedP (hu : X.A.units + 150 < cLine) : CallR X (.builtin "sorted") rSortP := by
  intro pins s σ H xs us Q I r h
  obtain ⟨l, vs, ps, rfl, hl, hp, nd, h64, q⟩ := h
  obtain ⟨u, rfl, ru⟩ := vals1 r
  cases ru
  obtain ⟨_, its, n0, rv, hlen, el⟩ := I.lstM hl
  have hlv : its.length = vs.length := rv.length.symm
  have hlp : ps.length = vs.length := Paired.length hp
  have line : its.length ≤ sizeLine := Nat.le_of_lt (small1000 (by omega))
  refine Calls.call_function_entry kind_sorted plain_sorted entry_sorted (args_sorted1 _) ?_
  unfold Builtin.«sorted»
  refine wpAny_bind (m := checkCount "sorted" 1 1 _) (wpAny_pure ?_)
  have hL : s.heap.IsList l its.toArray := ⟨_, el, rfl, _, rfl⟩
  refine wpAny_bind (collect_list hL ?_ (by simpa using line))
  refine wpAny_bind (wpAny_newList ?_ (by simpa using line))
  have keep1 : ∀ b o, s.heap.get? b = some o → ((s.heap.push (seqObj "list" #[] 0)).update s.heap.objs.size (Obj.mapSeq (· ++ its.toArray))).get? b = some o := fun b o q => by
    have hlt : b < s.heap.objs.size := Heap.lt_size q
    rw [Heap.get?_update_ne _ _ _ _ (Nat.ne_of_lt hlt)]
    exact Heap.get?_push_of_some _ q
  show wpAny _ _ _ _ _ { s with heap := ((s.heap.push (seqObj "list" #[] 0)).update s.heap.objs.size (Obj.mapSeq (· ++ its.toArray))).push { cls := .type "list", data := .seq its.toArray } }
  generalize (s.heap.push (seqObj "list" #[] 0)).update s.heap.objs.size (Obj.mapSeq (· ++ its.toArray)) = h1 at keep1 ⊢
  have I1 : Inv X pins σ H { s with heap := h1 } := I.kept (t' := s.toks) keep1
  have hoL : (h1.push { cls := .type "list", data := .seq its.toArray }).get? h1.objs.size = some (seqObj "list" its.toArray 0) := Heap.get?_push_size _ rfl
  have hplc : Paired (PlcAt (h1.push { cls := .type "list", data := .seq its.toArray })) its (ps.map (·.1)) := plcs_kept (fun b o _ e => Heap.get?_push_of_some _ e) (plcs_of I1.hok hp rv)
  refine wpAny_bind (wpAny_holding (wpAny_call_entry slot_list_sort ⟨_, hoL, rfl⟩ entry_list_sort (list_sort_plc hoL hplc nd (by omega) (by show X.A.units + 1 + 1 < cLine; omega) fun p pm asc => ⟨_, rfl, ?_⟩) (args_list_sort _)))
  have pm' : p.toList.Perm (List.range ps.length) := by have := pm; unfold PermN at this; rw [hlv, ← hlp] at this; exact this
  have hix : ∀ i ∈ p.toList, i < vs.length := fun i hi => by
    have := List.mem_range.mp (pm'.mem_iff.mp hi)
    omega
  obtain ⟨e, he⟩ : ∃ e, (sortedHeap (h1.push { cls := .type "list", data := .seq its.toArray }) h1.objs.size its (List.toArray (p.toList.map fun i => its.getD i Value.none))).get? h1.objs.size = some (seqObj "list" (List.toArray (p.toList.map fun i => its.getD i Value.none)) e) := sortedHeap_at hoL
  have hn1 := I1.hok.fresh (Nat.le_refl h1.objs.size)
  refine wpAny_pure ⟨_, rfl, ⟨.ref h1.objs.size, upd H h1.objs.size (.lst (p.toList.map fun i => vs.getD i .non)), I1.laid (t' := s.toks) (a := h1.objs.size) (o := .lst (p.toList.map fun i => vs.getD i .non)) (fun b o hb => ?_) (Nat.le_refl _) ⟨?_, _, e, vals_pick rv p.toList hix, ?_⟩, rfl, q _ _ (p.toList.map fun i => ps.getD i ([], .non)) hn1 (paired_pick hp p.toList hix) (perm_pick _ ps pm') ?_⟩⟩
  · rw [sortedHeap_old (Nat.ne_of_lt (Heap.lt_size hb)) (by rw [Heap.size_push]; exact Nat.lt_succ_of_lt (Heap.lt_size hb))]
    exact Heap.get?_push_of_some _ hb
  · rw [List.length_map, pm'.length_eq, List.length_range]
    exact Nat.le_of_lt (small1000 (by omega))
  · rw [he]
  · rw [List.pairwise_map]
    rw [List.pairwise_iff_getElem]
    intro i j hi hj hij
    have hs : p.toList.length = ps.length := by rw [pm'.length_eq, List.length_range]
    have ea := asc i j hij (by omega)
    have g : ∀ k, (hk : k < p.toList.length) → p.getD k 0 = p.toList[k] := fun k hk => by
      have : k < p.size := by simpa using hk
      simp [Array.getD, this]
    have m : ∀ k, k < ps.length → (ps.map (·.1)).getD k [] = (ps.getD k ([], .non)).1 := fun k hk => by simp [hk]
    unfold lt at ea
    rw [g i hi, g j hj] at ea
    have hi' : p.toList[i] < ps.length := by have := hix _ (List.getElem_mem hi); omega
    have hj' : p.toList[j] < ps.length := by have := hix _ (List.getElem_mem hj); omega
    have ea' : lexB ((ps.map (·.1)).getD p.toList[i] []) ((ps.map (·.1)).getD p.toList[j] []) = true := ea
    rw [m _ hi', m _ hj'] at ea'
    exact ea'
end
end L2
set_option Elab.async false
set_option linter.all false
set_option maxRecDepth 100000
set_option maxHeartbeats 4000000
namespace PySem
open AutoSeq1
set_option maxRecDepth 8000 in
theorem extend_tupleW (l : Addr) (items : Array Value) (n : Nat) (b : Addr) (items2 : Array Value) (n2 : Nat) (dd : Option Addr) (sl : Array (Option Value)) (hs0 : ¬(!items.isEmpty && Builtin.List.listTooLong (items.size + items2.size)) = true) (hs1 : items.size ≤ sizeLine) (hs2 : items.size + items2.size ≤ sizeLine + 1) :
    Meets (Builtin.«list.extend» ⟨[.ref l, .ref b], []⟩) (fun _ R s => s.heap.get? l = some { cls := .type "list", dict := none, data := .seq items n, slots := #[] } ∧ s.heap.get? b = some { cls := .type "tuple", dict := dd, data := .seq items2 n2, slots := sl } ∧ R (.ok (.ret Value.none)) { s with heap := s.heap.update l (Obj.mapSeq fun x => x ++ items2), toks := s.toks }) :=
  .of_wp fun prog w A R s h => by
    obtain ⟨hp, g, d, tk, os⟩ := s
    obtain ⟨hl, hb, h⟩ := h
    have f1 := idx_int
    have f2 := sub_tuple_tuple
    have f3 := sub_list_list
    have f4 := sub_tuple_list
    have f5 := sub_list_tuple
    have hz' : (items ++ items2).size ≤ sizeLine + 1 := by rw [Array.size_append]; exact hs2
    wp_walk using (wpAny_updateSeq hl rfl (hz := hs1) (_hz' := hz')), wpAny_loadPart' hl, wpAny_loadPart' hb
    exact ⟨_, rfl, h⟩
end PySem
namespace L2
open PySem PySem.Spec PyProof.Rows
section
variable {X : Cx}
def rExtendT (K : PySem.W.Frag) : V → List V → Hp → VK → Prop := fun x vs H Q => ∃ l b xs zs, x = .ref l ∧ vs = [.ref b] ∧ H l = some (.lst xs) ∧ SqT K H b zs ∧ xs.length + zs.length ≤ sizeLine ∧ Q .non (upd H l (.lst (xs ++ zs)))
theorem mt_extendT : MtM X "list.extend" (rExtendT X.K) := by
  intro pins s σ H x vs v us Q I rx rv h
  obtain ⟨l, b, xs, zs, rfl, rfl, hH, hB, hz, q⟩ := h
  cases rx
  obtain ⟨u, rfl, ru⟩ := rv.one
  cases ru
  obtain ⟨z, its, n, r, hl, e⟩ := I.lstM hH
  obtain ⟨its2, r2, p2, z2⟩ := I.tuple hB
  obtain ⟨⟨cls, dd, data, sl⟩, e2, hc, n2, hd⟩ := id p2
  simp only at hc hd
  subst hc hd
  have hl2 := r2.length
  have hsz : its.toArray.size + its2.toArray.size ≤ sizeLine := by rw [List.size_toArray, List.size_toArray]; omega
  have hlong : ¬ (!its.toArray.isEmpty && Builtin.List.listTooLong (its.toArray.size + its2.toArray.size)) = true := by
    rw [notLongL hsz, Bool.and_false]
    exact Bool.false_ne_true
  refine call_meets F.slot_list_extend ⟨_, e, rfl⟩ F.entry_list_extend (F.args_list_extend_2 _ _)
    (extend_tupleW l its.toArray n b its2.toArray n2 dd sl hlong (by rw [List.size_toArray]; omega) (by omega)) ⟨e, e2, ?_⟩
  refine ⟨.non, _, I.lset (its' := its ++ its2) hH e (by simp) (r.append r2) ?_, rfl, q⟩
  rw [List.length_append]
  omega
def rSetDef : V → List V → Hp → VK → Prop := fun x vs H Q => ∃ (a : Addr) (kvs : List (Key × V)) (k : Key) (y : V), x = .ref a ∧ vs = [kV k, y] ∧ H a = some (.dK kvs) ∧ kvs.length < 1000 ∧ (∀ z, valV kvs k = some z → Q z H) ∧ (valV kvs k = none → Q y (upd H a (.dK (putK kvs k y))))
theorem mt_setdefault : MtM X "dict.setdefault" rSetDef := by
  intro pins s σ H x vs v us Q I rx rv h
  obtain ⟨a, kvs, k, y, rfl, rfl, ha, hl, q1, q2⟩ := h
  cases rx
  obtain ⟨u1, u2, rfl, r1, r2⟩ := vals2 rv
  obtain ⟨z, hs, vs, rel, dd⟩ := dk_of I.hok ha
  have hz : vs.length ≤ sizeLine := by rw [← rel.length]; exact z
  have hm : (putK kvs k y).length ≤ sizeLine := by have := length_putK kvs k y; exact line1000 (by omega)
  refine call_meetsIn PySem.F.slot_dict_setdefault dd.typeIs PySem.F.entry_dict_setdefault (PySem.F.args_dict_setdefault_3 _ _ _) (kt_meets_setdefault (mixKind X.prog X.w) a (kV_is r1) hs u2) ⟨vs, dd, hz, fun w' e => ?_, fun e h' d1 hs1 => ?_⟩
  · have ro := rel.val k
    rw [e] at ro
    cases e2 : valV kvs k with
    | none => rw [e2] at ro; exact (show False from ro).elim
    | some y' =>
      rw [e2] at ro
      exact ⟨y', H, I.tok _, ro, q1 y' e2⟩
  · have ro := rel.val k
    rw [e] at ro
    have e2 : valV kvs k = none := by
      cases e2 : valV kvs k with
      | none => rfl
      | some y' => rw [e2] at ro; exact (show False from ro).elim
    have he : ∃ q, h'.get? a = some q := let ⟨q, _, _, hq, _⟩ := d1; ⟨q, hq⟩
    exact ⟨y, _, d_write (t' := s.toks + 1) I (by rw [ha]; exact True.intro) hs1 he (dk_new hm hs (rel.put k r2) d1), r2, q2 e2⟩
theorem call_lenDR : CallR X (.builtin "len") (fun xs H Q => ∃ a kvs, xs = [V.ref a] ∧ Rd H a (.dK kvs) ∧ Q (.int kvs.length) H) := by
  intro pins s σ H xs us Q I r h
  obtain ⟨a, kvs, rfl, ha, q⟩ := h
  obtain ⟨u, rfl, ru⟩ := vals1 r
  cases ru
  exact d_len I ha fun t s' I' => ⟨.int kvs.length, H, I', ⟨t, rfl⟩, q⟩
def rSortDR : List V → Hp → VK → Prop := fun xs H Q => ∃ (d : Addr) (kvs : List (Key × V)) (ks : List Str), xs = [.ref d] ∧ Rd H d (.dK kvs) ∧ kvs.map (·.1) = ks.map Sum.inr ∧ ks.length < 64 ∧
  ∀ (l : Addr) (ss : List Str), H l = none → ss.Perm ks → ss.Pairwise (fun a b => ltCps b.cps.toList a.cps.toList = false) → Q (.ref l) (upd H l (.lst (ss.map V.str)))
theorem call_sortedDR (hc : X.calm = true) : CallR X (.builtin "sorted") rSortDR := by
  intro pins s σ H xs us Q I r h
  obtain ⟨d, kvs, ks, rfl, hd, hk, h64, q⟩ := h
  obtain ⟨u, rfl, ru⟩ := vals1 r
  cases ru
  obtain ⟨hz, hsm, vs, kv, hdo⟩ := dk_rd I.hok hd
  obtain ⟨ep, hat⟩ := hdo.dictAt
  have hks : vs.map (·.1) = ks.map Sum.inr := by rw [← kv_keys kv]; exact hk
  have hn : vs.length = ks.length := by have := congrArg List.length hks; simpa using this
  have line : vs.length ≤ sizeLine := Nat.le_of_lt (small1000 (by omega))
  refine Calls.call_function_entry kind_sorted plain_sorted entry_sorted (args_sorted1 _) ?_
  unfold Builtin.«sorted»
  refine wpAny_bind (m := checkCount "sorted" 1 1 _) (wpAny_pure ?_)
  refine wpAny_bind (PySem.W.kdu_collect (A := X.A.in1) (PySem.W.kdl_dict (knd := mixKind X.prog X.w) (kvs := vs) (ep := ep) hsm) (I.ok.hd hc) hat line fun h1 tk acc hk1 hacc => ?_)
  have la : acc.toList.length = vs.length := by rw [Array.length_toList]; exact hacc.1
  have hS : StrsAre acc.toList ks := strs_of (P := X.prog) (w := X.w) hks la fun j v hv => hacc.2 j v (by rw [← Array.getElem?_toList]; exact hv)
  have I1 : Inv X pins σ H { s with heap := h1, toks := tk } := I.kept hk1
  refine wpAny_bind (wpAny_newList ?_ (by rw [la]; exact line))
  have hoL : (h1.push { cls := .type "list", data := .seq acc.toList.toArray }).get? h1.objs.size = some (seqObj "list" acc.toList.toArray 0) := Heap.get?_push_size _ rfl
  refine wpAny_bind (wpAny_holding (wpAny_call_entry slot_list_sort ⟨_, hoL, rfl⟩ entry_list_sort (list_sort_treeK strKind_oneLt hoL hS.keysOf (fun a b rest e => keyKind_strs (ss := ks) (by rw [← e]; exact hS)) (by rw [la, hn]; exact h64) fun st' a1 a2 => ⟨_, rfl, ?_⟩) (args_list_sort _)))
  obtain ⟨ss, b1, b2, b3⟩ := sorted_out_str hS a1 a2
  obtain ⟨e, he⟩ : ∃ e, (sortedHeap (h1.push { cls := .type "list", data := .seq acc.toList.toArray }) h1.objs.size acc.toList ((arrOf st').map (·.2))).get? h1.objs.size = some (seqObj "list" ((arrOf st').map (·.2)) e) := sortedHeap_at hoL
  refine wpAny_pure ⟨_, rfl, ⟨.ref h1.objs.size, upd H h1.objs.size (.lst (ss.map V.str)), I1.laid (t' := tk) (a := h1.objs.size) (o := .lst (ss.map V.str)) (fun b o hb => ?_) (Nat.le_refl _) ⟨?_, _, e, vals_strs b1, ?_⟩, rfl, q _ ss (I1.hok.fresh (Nat.le_refl _)) b2 (pairwise_sorted b3)⟩⟩
  · rw [sortedHeap_old (Nat.ne_of_lt (Heap.lt_size hb)) (by rw [Heap.size_push]; exact Nat.lt_succ_of_lt (Heap.lt_size hb))]
    exact Heap.get?_push_of_some _ hb
  · rw [List.length_map, b2.length_eq]
    exact Nat.le_of_lt (small1000 (by omega))
  · rw [he]
def tTupF (t : TA) : TE := fun σ H Q => t σ H fun xs H1 => xs.length ≤ sizeLine ∧ ∀ (p : Addr) (o : Obj), H1 p = none → o.dict = none → Q (.ref p) (upd H1 p (.frz o (.tup xs)))
theorem pe_tupF {es : List Expr} {t : TA} {x1} {pos : Pos} (h : PA X es t) : PE X (.Tuple es x1 pos) (tTupF t) := by
  intro pins s σ H Q I hq
  refine wpAny_Tuple_spliced (thn (h pos pins s σ H _ I hq) fun us s1 ⟨xs, H1, I1, r, z, q⟩ => ⟨by rw [← r.length]; exact z, ?_⟩)
  have hf : H1 s1.heap.objs.size = none := I1.hok.fresh (Nat.le_refl _)
  refine ⟨.ref s1.heap.objs.size, _, I1.laid (o := .frz { cls := .type "tuple", data := .seq us.toArray } (.tup xs)) (t' := s1.toks) (fun b u e => Heap.get?_push_of_some _ e) (Nat.le_refl _) ?_, rfl, q _ _ hf rfl⟩
  exact ⟨Heap.get?_push_size _ rfl, z, us, r, ⟨_, Heap.get?_push_size _ rfl, rfl, _, rfl⟩⟩
theorem op_notInD (hu : X.A.units + 1 < cLine) : OpR X (compareOp .NotIn) (fun x y H Q => ∃ (a : Addr) (o : Option V), y = .ref a ∧ DGet H a x o ∧ Q (.bl (!o.isSome)) H) := by
  intro pins s σ H x y v u Q I rx ry h
  obtain ⟨a, o, rfl, g, q⟩ := h
  cases ry
  exact d_notIn hu I g rx fun s' I' => ⟨.bl (!o.isSome), H, I', rfl, q⟩
end
end L2
set_option Elab.async false
set_option linter.all false
set_option maxRecDepth 100000
set_option maxHeartbeats 4000000
namespace L2
open PySem
def signsV : List V := [.str "num", .str "name", .str "ask", .str "stop", .str "gap"]
def LeafSigns (K : PySem.W.Frag) (lv : Addr) : Prop := ∃ (o : Obj) (its : Array Value) (n : Nat), K.lookup lv = some o ∧ o.cls = .type "tuple" ∧ o.data = .seq its n ∧ its.size ≤ sizeLine ∧ Vals signsV its.toList
theorem in_signs (k : Kd) : inV (.str k.s) signsV = k.leaf := by cases k <;> decide +kernel
theorem head_pos (t : Tr) : 1 ≤ t.head := by cases t <;> simp [Tr.head]
theorem mem_size : ∀ {ts : List Tr} {t : Tr}, t ∈ ts → t.size ≤ (ts.map Tr.size).sum
  | a :: ts, t, h => by
    rw [List.map_cons, List.sum_cons]
    rcases List.mem_cons.mp h with rfl | h
    · omega
    · have := mem_size h
      omega
theorem parts_size (t : Tr) : (t.parts.map Tr.size).sum + 1 = t.size := by
  cases t <;> simp [Tr.parts, Tr.size] <;> omega
theorem part_size {t p : Tr} (h : p ∈ t.parts) : p.size + 1 ≤ t.size := by
  have := mem_size h
  have := parts_size t
  omega
theorem size_pos20 (t : Tr) : 1 ≤ t.size := by cases t <;> simp [Tr.size]
def szT (ts : List Tr) : Nat := (ts.map Tr.size).sum
theorem szT_app (a b : List Tr) : szT (a ++ b) = szT a + szT b := by simp [szT]
theorem szT_cons (a : Tr) (b : List Tr) : szT (a :: b) = a.size + szT b := by simp [szT]
theorem szT_len : ∀ ts : List Tr, ts.length ≤ szT ts
  | [] => Nat.le_refl _
  | t :: ts => by
    rw [szT_cons, List.length_cons]
    have := szT_len ts
    have := size_pos20 t
    omega
theorem szT_take (L : List Tr) (i : Nat) : szT (L.take i) ≤ szT L := by
  have e : szT L = szT (L.take i) + szT (L.drop i) := by rw [← szT_app, List.take_append_drop]
  omega
theorem szT_parts (t : Tr) : szT t.parts + 1 = t.size := parts_size t
def Tr.subs : Tr → List Tr
  | .say a => .say a :: a.subs
  | .bin o a b => .bin o a b :: (a.subs ++ b.subs)
  | .ite a b c => .ite a b c :: (a.subs ++ (b.subs ++ c.subs))
  | .lett x a b => .lett x a b :: (a.subs ++ b.subs)
  | t => [t]
theorem subs_eq (t : Tr) : t.subs = t :: t.parts.flatMap Tr.subs := by
  cases t <;> simp [Tr.subs, Tr.parts]
theorem szT_level : ∀ L : List Tr, szT (L.flatMap Tr.parts) + L.length = szT L
  | [] => rfl
  | t :: L => by
    have ih := szT_level L
    have := szT_parts t
    rw [List.flatMap_cons, szT_app, szT_cons, List.length_cons]
    omega
theorem mem_level {p : Tr} (L : List Tr) : (∃ q ∈ L, p ∈ q.subs) ↔ p ∈ L ∨ ∃ q ∈ L.flatMap Tr.parts, p ∈ q.subs := by
  constructor
  · rintro ⟨q, hq, hp⟩
    rw [subs_eq] at hp
    rcases List.mem_cons.mp hp with rfl | hp
    · exact .inl hq
    · obtain ⟨r, hr, hp⟩ := List.mem_flatMap.mp hp
      exact .inr ⟨r, List.mem_flatMap.mpr ⟨q, hq, hr⟩, hp⟩
  · rintro (h | ⟨r, hr, hp⟩)
    · exact ⟨p, h, by rw [subs_eq]; exact List.mem_cons_self⟩
    · obtain ⟨q, hq, hr⟩ := List.mem_flatMap.mp hr
      exact ⟨q, hq, by rw [subs_eq]; exact List.mem_cons_of_mem _ (List.mem_flatMap.mpr ⟨r, hr, hp⟩)⟩
abbrev PlT := List Int × Tr
def kidsP (x : PlT) : List PlT := x.2.parts.zipIdx.map fun q => (x.1 ++ [(q.2 : Int)], q.1)
def psub : List Int → Tr → List PlT
  | pl, .say a => (pl, .say a) :: psub (pl ++ [0]) a
  | pl, .bin o a b => (pl, .bin o a b) :: (psub (pl ++ [0]) a ++ psub (pl ++ [1]) b)
  | pl, .ite a b c => (pl, .ite a b c) :: (psub (pl ++ [0]) a ++ (psub (pl ++ [1]) b ++ psub (pl ++ [2]) c))
  | pl, .lett x a b => (pl, .lett x a b) :: (psub (pl ++ [0]) a ++ psub (pl ++ [1]) b)
  | pl, .num n => [(pl, .num n)]
  | pl, .name n => [(pl, .name n)]
  | pl, .ask n => [(pl, .ask n)]
  | pl, .stop n => [(pl, .stop n)]
  | pl, .gap n as => [(pl, .gap n as)]
theorem psub_eq (pl : List Int) (t : Tr) : psub pl t = (pl, t) :: (kidsP (pl, t)).flatMap fun x => psub x.1 x.2 := by
  cases t <;> simp [psub, kidsP, Tr.parts, List.zipIdx]
theorem psub_snd : ∀ (t : Tr) (pl : List Int), (psub pl t).map (·.2) = t.subs
  | .say a, pl => by simp [psub, Tr.subs, psub_snd a]
  | .bin o a b, pl => by simp [psub, Tr.subs, psub_snd a, psub_snd b]
  | .ite a b c, pl => by simp [psub, Tr.subs, psub_snd a, psub_snd b, psub_snd c]
  | .lett x a b, pl => by simp [psub, Tr.subs, psub_snd a, psub_snd b]
  | .num _, _ => rfl
  | .name _, _ => rfl
  | .ask _, _ => rfl
  | .stop _, _ => rfl
  | .gap _ _, _ => rfl
theorem psub_len : ∀ (t : Tr) (pl : List Int), (psub pl t).length = t.size
  | .say a, pl => by simp [psub, Tr.size, psub_len a]
  | .bin o a b, pl => by simp [psub, Tr.size, psub_len a, psub_len b]
  | .ite a b c, pl => by simp [psub, Tr.size, psub_len a, psub_len b, psub_len c]; omega
  | .lett x a b, pl => by simp [psub, Tr.size, psub_len a, psub_len b]
  | .num _, _ => rfl
  | .name _, _ => rfl
  | .ask _, _ => rfl
  | .stop _, _ => rfl
  | .gap _ _, _ => rfl
theorem psub_pre : ∀ (t : Tr) (pl : List Int), ∀ p ∈ (psub pl t).map (·.1), ∃ r, p = pl ++ r := by
  have one : ∀ {pl p : List Int} {i : Int}, (∃ r, p = pl ++ [i] ++ r) → ∃ r, p = pl ++ r := fun {pl p i} h => by
    obtain ⟨r, e⟩ := h
    exact ⟨[i] ++ r, by rw [e, List.append_assoc]⟩
  intro t
  induction t with
  | say a ih =>
    intro pl p hp
    simp only [psub, List.map_cons] at hp
    rcases List.mem_cons.mp hp with rfl | hp
    · exact ⟨[], by simp⟩
    · exact one (ih _ p hp)
  | bin o a b iha ihb =>
    intro pl p hp
    simp only [psub, List.map_cons, List.map_append] at hp
    rcases List.mem_cons.mp hp with rfl | hp
    · exact ⟨[], by simp⟩
    · rcases List.mem_append.mp hp with hp | hp
      · exact one (iha _ p hp)
      · exact one (ihb _ p hp)
  | ite a b c iha ihb ihc =>
    intro pl p hp
    simp only [psub, List.map_cons, List.map_append] at hp
    rcases List.mem_cons.mp hp with rfl | hp
    · exact ⟨[], by simp⟩
    · rcases List.mem_append.mp hp with hp | hp
      · exact one (iha _ p hp)
      · rcases List.mem_append.mp hp with hp | hp
        · exact one (ihb _ p hp)
        · exact one (ihc _ p hp)
  | lett x a b iha ihb =>
    intro pl p hp
    simp only [psub, List.map_cons, List.map_append] at hp
    rcases List.mem_cons.mp hp with rfl | hp
    · exact ⟨[], by simp⟩
    · rcases List.mem_append.mp hp with hp | hp
      · exact one (iha _ p hp)
      · exact one (ihb _ p hp)
  | _ =>
    intro pl p hp
    simp [psub] at hp
    exact ⟨[], by simp [hp]⟩
theorem psub_far {t u : Tr} {pl : List Int} {i j : Int} (ne : i ≠ j) : ∀ p ∈ (psub (pl ++ [i]) t).map (·.1), ∀ q ∈ (psub (pl ++ [j]) u).map (·.1), p ≠ q := fun p hp q hq e => by
  obtain ⟨r, rfl⟩ := psub_pre t _ p hp
  obtain ⟨r', e'⟩ := psub_pre u _ q hq
  rw [e'] at e
  rw [List.append_assoc, List.append_assoc] at e
  have := List.append_cancel_left e
  simp at this
  exact ne this.1
theorem psub_own {t : Tr} {pl : List Int} {i : Int} : pl ∉ (psub (pl ++ [i]) t).map (·.1) := fun h => by
  obtain ⟨r, e⟩ := psub_pre t _ _ h
  have := congrArg List.length e
  simp at this
theorem psub_nd : ∀ (t : Tr) (pl : List Int), ((psub pl t).map (·.1)).Nodup
  | .say a, pl => by
    simp only [psub, List.map_cons, List.nodup_cons]
    exact ⟨psub_own, psub_nd a _⟩
  | .bin o a b, pl => by
    simp only [psub, List.map_cons, List.nodup_cons, List.map_append, List.nodup_append, List.mem_append, not_or]
    exact ⟨⟨psub_own, psub_own⟩, psub_nd a _, psub_nd b _, psub_far (by decide)⟩
  | .lett x a b, pl => by
    simp only [psub, List.map_cons, List.nodup_cons, List.map_append, List.nodup_append, List.mem_append, not_or]
    exact ⟨⟨psub_own, psub_own⟩, psub_nd a _, psub_nd b _, psub_far (by decide)⟩
  | .ite a b c, pl => by
    simp only [psub, List.map_cons, List.nodup_cons, List.map_append, List.nodup_append, List.mem_append, not_or]
    refine ⟨⟨psub_own, psub_own, psub_own⟩, psub_nd a _, ⟨psub_nd b _, psub_nd c _, psub_far (by decide)⟩, fun p hp q hq => ?_⟩
    rcases hq with hq | hq
    · exact psub_far (by decide) p hp q hq
    · exact psub_far (by decide) p hp q hq
  | .num _, _ => by simp [psub]
  | .name _, _ => by simp [psub]
  | .ask _, _ => by simp [psub]
  | .stop _, _ => by simp [psub]
  | .gap _ _, _ => by simp [psub]
def allP (L : List PlT) : List PlT := L.flatMap fun x => psub x.1 x.2
theorem allP_level : ∀ L : List PlT, (allP L).Perm (L ++ allP (L.flatMap kidsP))
  | [] => .nil
  | x :: L => by
    have ih := allP_level L
    unfold allP at ih ⊢
    rw [List.flatMap_cons, psub_eq, List.flatMap_cons, List.flatMap_append, List.cons_append, List.cons_append]
    refine List.Perm.cons _ ?_
    refine (ih.append_left _).trans ?_
    rw [← List.append_assoc, ← List.append_assoc]
    exact List.Perm.append_right _ List.perm_append_comm
theorem kidsP_get {pl : List Int} {t : Tr} {j : Nat} {c : Tr} (h : t.parts[j]? = some c) : (kidsP (pl, t))[j]? = some (pl ++ [(j : Int)], c) := by
  unfold kidsP
  rw [List.getElem?_map, List.getElem?_zipIdx]
  simp [h]
theorem kidsP_len (pl : List Int) (t : Tr) : (kidsP (pl, t)).length = t.parts.length := by simp [kidsP]
def szP (L : List PlT) : Nat := szT (L.map (·.2))
theorem kidsP_snd (x : PlT) : (kidsP x).map (·.2) = x.2.parts := by
  unfold kidsP
  rw [List.map_map]
  have : ((fun x : PlT => x.2) ∘ fun q : Tr × Nat => (x.1 ++ [(q.2 : Int)], q.1)) = Prod.fst := rfl
  rw [this, List.zipIdx_map_fst]
theorem szP_level (L : List PlT) : szP (L.flatMap kidsP) + L.length = szP L := by
  have := szT_level (L.map (·.2))
  unfold szP
  rw [List.map_flatMap]
  have e : (L.flatMap fun x => (kidsP x).map (·.2)) = (L.map (·.2)).flatMap Tr.parts := by
    rw [List.flatMap_map]
    congr 1
    funext x
    exact kidsP_snd x
  rw [e]
  rw [List.length_map] at this
  exact this
theorem szP_len (L : List PlT) : L.length ≤ szP L := by have := szT_len (L.map (·.2)); rw [List.length_map] at this; exact this
theorem allP_len (L : List PlT) : (allP L).length = szP L := by
  induction L with
  | nil => rfl
  | cons x L ih =>
    unfold allP at ih ⊢
    unfold szP at ih ⊢
    rw [List.flatMap_cons, List.length_append, ih, List.map_cons, szT_cons, psub_len]
end L2
namespace K10
open PySem PySem.Spec L2 PyProof.Rows
def top (i : Nat) : Stmt := PySem.Challenge.pw_recastle_k10_gaps_and_quiet.main.body.getD i (.Pass ⟨0, 0, 0, 0⟩)
abbrev s_parts_begin : Stmt := top 2
theorem sc_parts_begin : FnScope ["tree"] ["tree"] (defScope s_parts_begin) := ⟨rfl, rfl, rfl, by decide +kernel, rfl, by decide +kernel, by decide +kernel⟩
abbrev s_parts : Stmt := top 3
theorem sc_parts : FnScope ["tree"] ["tree"] (defScope s_parts) := ⟨rfl, rfl, rfl, by decide +kernel, rfl, by decide +kernel, by decide +kernel⟩
abbrev s_all_parts : Stmt := top 4
theorem sc_all_parts : FnScope ["tree", "found", "level", "deeper", "part"] ["tree"] (defScope s_all_parts) := ⟨rfl, rfl, rfl, by decide +kernel, rfl, by decide +kernel, by decide +kernel⟩
abbrev s_placed_parts : Stmt := top 5
theorem sc_placed_parts : FnScope ["tree", "found", "level", "deeper", "place", "part", "number", "inner"] ["tree"] (defScope s_placed_parts) := ⟨rfl, rfl, rfl, by decide +kernel, rfl, by decide +kernel, by decide +kernel⟩
section
variable {P : Program} {w : World} {K : PySem.W.Frag} {mg : Str → Option Value} {base : Heap}
def begin_ (t : Tr) : Int := t.head
def sp_parts_begin : Sp := fun vs H Q _ => ∃ t v, vs = [v] ∧ Rep H t v ∧ Q (.int (begin_ t)) H
theorem ok_parts_begin {k : Nat} {f : Addr} {fd : FuncData} {lv : Addr} (F : Fun K "parts_begin" "parts_begin" s_parts_begin f fd) (z_len : mg "len" = none) (m_LEAF_SIGNS : mg "LEAF_SIGNS" = some (.ref lv)) (hL : LeafSigns K lv) :
    FnOk P w K mg base CX0 (k + 1) f fd ["tree"] sp_parts_begin := by
  refine F.ok sc_parts_begin (fun vs H Q E h => ?_) (fun cdv A outer s H vs Q E hr h => ?_)
  · obtain ⟨t, v, rfl, _⟩ := h
    rfl
  obtain ⟨t, v, rfl, hR, q⟩ := h
  refine ⟨_, (pss_cons (ps_if (pt_cmpR (r := rIn K false) op_in_seq (pe_ix (r := rIxT K) ix_tup (pv 0) pe_int (fun _ _ => rfl)) (pe_glob (v := .ref _) (by rfl) m_LEAF_SIGNS (by rfl)) rfl) (pss_one (ps_ret (pe_callB call_len_seq (by rfl) z_len PySem.boot_len (pa_cons (pv 0) pa_nil)))) pss_nil)
    (pss_cons (ps_if (pt_cmpR op_eq (pe_ix (r := rIxT K) ix_tup (pv 0) pe_int (fun _ _ => rfl)) pe_str (nomark _)) (pss_one (ps_ret pe_int)) pss_nil)
    (pss_one (ps_ret pe_int)))), ?_⟩
  obtain ⟨a, hs, us, rfl, ha, hl, hp⟩ := hR.all
  have h0 : atI (V.str t.kd.s :: hs ++ us) 0 = some (.str t.kd.s) := atI_nat (j := 0) rfl
  refine ⟨_, rfl, a, _, 0, _, rfl, rfl, SqT.of ha, h0, lv, signsV, rfl, .inr (.inr hL), rfl, rfl, _, rfl, ?_⟩
  show if inV (.str t.kd.s) signsV = true then _ else _
  rw [in_signs]
  refine ite2 (fun c => ?_) (fun c => ?_)
  · refine ⟨_, rfl, a, _, rfl, .inr (SqT.of ha), ?_⟩
    have e : ((V.str t.sign :: hs ++ us).length : Int) = begin_ t := by
      have hu : us.length = 0 := by
        rw [← hp.length]
        cases t with
        | bin o a b => cases o <;> cases c
        | _ => first | rfl | cases c
      rw [List.length_append, List.length_cons, hu]
      unfold begin_
      omega
    rw [e]
    exact q
  · refine ⟨_, rfl, a, _, 0, _, rfl, rfl, SqT.of ha, h0, rfl, _, rfl, ?_⟩
    refine ite2 (fun d => ?_) (fun d => ?_)
    · have z : t.kd = .lett := Kd.eq_iff.mp (of_decide_eq_true d)
      have e : begin_ t = 2 := by
        cases t with
        | lett x a b => rfl
        | bin o a b => cases o <;> cases z
        | _ => cases z
      rw [e] at q
      exact q
    · have e : begin_ t = 1 := by
        cases t with
        | lett x a b => exact absurd rfl d
        | bin o a b => rfl
        | ite a b c => rfl
        | say a => rfl
        | _ => exact absurd rfl c
      rw [e] at q
      exact q
def sp_parts : Sp := fun vs H Q _ => ∃ t v, vs = [v] ∧ Rep H t v ∧ ∀ p H' us, Same H H' → H' p = some (.tup us) → Paired (Rep H') t.parts us → Q (.ref p) H'
theorem ok_parts {k : Nat} {f g : Addr} {fd gd : FuncData} (F : Fun K "parts" "parts" s_parts f fd) (G_parts_begin : FnB P w K mg base k "parts_begin" g gd ["tree"] sp_parts_begin) :
    FnOk P w K mg base CX0 (k + 1) f fd ["tree"] sp_parts := by
  refine F.ok sc_parts (fun vs H Q E h => ?_) (fun cdv A outer s H vs Q E hr h => ?_)
  · obtain ⟨t, v, rfl, _⟩ := h
    rfl
  obtain ⟨t, v, rfl, hR, q⟩ := h
  refine ⟨_, (pss_one (ps_ret (pe_slice sl_tupV (pv 0) (po_some (pe_call G_parts_begin.ok hr (by rfl) G_parts_begin.gl G_parts_begin.kp G_parts_begin.bd .nil pass0 (pa_cons (pv 0) pa_nil))) po_none))), ?_⟩
  obtain ⟨a, hs, us, rfl, ha, hl, hp⟩ := hR.all
  have hn : (V.str t.sign :: hs ++ us).length = t.head + us.length := by rw [List.length_append, List.length_cons]; omega
  have h1 := head_pos t
  have e1 : HT.sIx (V.str t.sign :: hs ++ us).length 0 (some (begin_ t)) = t.head := by
    show HT.sIx _ 0 (some ((t.head : Nat) : Int)) = _
    rw [HT.sIx_nat, hn]
    omega
  have e2 : cutV (V.str t.sign :: hs ++ us) (some (begin_ t)) none = us := by
    unfold cutV
    rw [e1, HT.sIx_none, hn]
    have : (V.str t.sign :: hs ++ us).drop t.head = us := by
      rw [← hl]
      exact List.drop_left' rfl
    rw [this, List.take_of_length_le (by omega)]
  refine ⟨_, rfl, _, rfl, t, _, rfl, hR, _, rfl, a, _, rfl, ha, fun z => ?_, fun p H' g e => ?_⟩
  · rw [e1] at z
    omega
  · rw [e2] at e
    exact q p H' us g e (Paired.mapP hp fun _ _ r => r.mono g.tk)
def sp_all : Sp := fun vs H Q _ => ∃ (t : Tr) (v : V), vs = [v] ∧ Rep H t v ∧ t.size ≤ 60 ∧ ∀ (l : Addr) (us : List V) (F : List Tr) (H' : Hp), Same H H' → H' l = some (.lst us) → Paired (Rep H') F us → (∀ p, p ∈ F ↔ p ∈ t.subs) → Q (.ref l) H'
theorem ok_all {k : Nat} {f g1 : Addr} {fd gd1 : FuncData} (F : Fun K "all_parts" "all_parts" s_all_parts f fd) (G_parts : FnB P w K mg base k "parts" g1 gd1 ["tree"] sp_parts) : FnOk P w K mg base CX0 (k + 1) f fd ["tree"] sp_all := by
  refine F.ok sc_all_parts (fun vs H Q E h => ?_) (fun cdv A outer s H vs Q E hr h => ?_)
  · obtain ⟨t, v, rfl, _⟩ := h
    rfl
  obtain ⟨t, v, rfl, hR, hsz, q⟩ := h
  refine ⟨_, (pss_cons (ps_set (i := 1) sc_all_parts.nd rfl (Or.inl rfl) (pe_lst pa_nil : PE _ _ _))
    (pss_cons (ps_set (i := 2) sc_all_parts.nd rfl (Or.inl rfl) (pe_lst (pa_cons (pv 0) pa_nil) : PE _ _ _))
    (pss_cons (ps_while PassesOwn.never (pt_truth (pv 2) (fun _ => rfl)) (pss_cons (ps_expr (pe_bm PySem.F.plainAttrs_list PySem.F.slot_list_extend PySem.F.type_list_extend mt_extend (pv 1) (pa_cons (pv 2) pa_nil)))
    (pss_cons (ps_set (i := 3) sc_all_parts.nd rfl (Or.inl rfl) (pe_lst pa_nil : PE _ _ _))
    (pss_cons (ps_for PassesOwn.never rfl (pi_list (pv 2)) (pg_name (i := 4) sc_all_parts.nd rfl (Or.inl rfl)) (pss_one (ps_expr (pe_bm PySem.F.plainAttrs_list PySem.F.slot_list_extend PySem.F.type_list_extend mt_extendT (pv 3) (pa_cons (pe_call G_parts.ok hr (by rfl) G_parts.gl G_parts.kp G_parts.bd .nil pass0 (pa_cons (pv 4) pa_nil)) pa_nil)))))
    (pss_one (ps_set (i := 2) sc_all_parts.nd rfl (Or.inl rfl) (pv 3)))))))
    (pss_one (ps_ret (pv 1)))))), ?_⟩
  refine ⟨(by show 0 ≤ sizeLine; decide), fun fo hfo => ⟨_, rfl, (by show 1 ≤ sizeLine; decide), fun l hl => ?_⟩⟩
  have g1 := same_upd (o := .lst []) hfo
  have g2 := same_upd (o := .lst [v]) hl
  refine ⟨fun m σ' H' => ∃ (l : Addr) (ls fs : List V) (L Fd : List Tr) (s3 s4 : Option V), σ' = [some v, some (.ref fo), some (.ref l), s3, s4] ∧ Same H H' ∧ H l = none ∧ l ≠ fo ∧ H' fo = some (.lst fs) ∧ H' l = some (.lst ls) ∧
      Paired (Rep H') Fd fs ∧ Paired (Rep H') L ls ∧ m = szT L ∧ (∀ p, (p ∈ Fd ∨ ∃ q ∈ L, p ∈ q.subs) ↔ p ∈ t.subs) ∧ Fd.length + szT L ≤ t.size,
    ⟨t.size, l, [v], [], [t], [], none, none, rfl, g1.trans g2, g1.free hl, Ne.symm (ne_of_none (upd_same (H := H) (a := fo) (o := .lst [])) hl), g2 _ _ upd_same, upd_same, .nil, .cons (hR.mono (g1.trans g2).tk) .nil, by simp [szT], by simp, by simp [szT]⟩, ?_⟩
  rintro m σ' Hw ⟨l, ls, fs, L, Fd, s3, s4, rfl, gw, hl, hlf, ef, el, pF, pL, rfl, hmem, hcnt⟩
  have lL : ls.length = L.length := paired_len pL
  have lF : fs.length = Fd.length := paired_len pF
  have hZ := szT_level L
  refine ⟨_, rfl, _, .inl ⟨ls, SqL.of el, rfl⟩, ?_⟩
  refine ite2 (fun c => ?_) (fun c => ?_)
  · refine ⟨_, fun _ _ h => h, ?_⟩
    refine ⟨_, rfl, .inl ⟨rfl, _, SqL.of ef⟩, _, rfl, fo, l, fs, ls, rfl, rfl, ef, el, line1000 (by omega), ?_⟩
    have ef1 : (upd Hw fo (.lst (fs ++ ls))) fo = some (.lst (fs ++ ls)) := upd_same
    have el1 : (upd Hw fo (.lst (fs ++ ls))) l = some (.lst ls) := by rw [upd_ne hlf]; exact el
    have gw1 : Same H (upd Hw fo (.lst (fs ++ ls))) := same_set gw hfo
    have tk1 : Tk Hw (upd Hw fo (.lst (fs ++ ls))) := Tk.lst ef
    show tSeq _ _ _ _ (upd Hw fo (.lst (fs ++ ls)))
    generalize upd Hw fo (.lst (fs ++ ls)) = H1 at ef1 el1 gw1 tk1 ⊢
    refine ⟨(by show 0 ≤ sizeLine; decide), fun dp hdp => ?_⟩
    have g4 := same_upd (o := .lst []) hdp
    have hdpH : H dp = none := gw1.free hdp
    have ndf : dp ≠ fo := Ne.symm (ne_of_none ef1 hdp)
    have ndl : dp ≠ l := Ne.symm (ne_of_none el1 hdp)
    refine ⟨_, rfl, l, rfl, ⟨ls, SqL.of (g4 _ _ el1)⟩, ?_⟩
    refine for_list (xs := ls) (fun i σ' H' => ∃ (dps : List V) (s4 : Option V), σ' = [some v, some (.ref fo), some (.ref l), some (.ref dp), s4] ∧ Same H H' ∧ Tk H1 H' ∧ H' fo = some (.lst (fs ++ ls)) ∧ H' l = some (.lst ls) ∧ H' dp = some (.lst dps) ∧ Paired (Rep H') ((L.take i).flatMap Tr.parts) dps) ?_ ?_ ?_ ?_
    · exact ⟨[], s4, rfl, gw1.trans g4, g4.tk, g4 _ _ ef1, g4 _ _ el1, upd_same, .nil⟩
    · rintro i σ1 H2 _ ⟨dps, s4, rfl, g5, k5, ef5, el5, ed5, p5⟩
      exact SqL.of el5
    · rintro i x σ1 H2 hx ⟨dps, s4, rfl, g5, k5, ef5, el5, ed5, p5⟩
      obtain ⟨tq, eq, rq⟩ := paired_get pL hx
      refine ⟨_, rfl, .inl ⟨rfl, _, SqL.of ed5⟩, _, rfl, tq, x, rfl, rq.mono (tk1.trans k5), fun pp H3 us g6 ep hus => ?_⟩
      have hflat : ((L.take (i + 1)).flatMap Tr.parts) = ((L.take i).flatMap Tr.parts) ++ tq.parts := by
        rw [take_next eq, List.flatMap_append]
        simp
      have hlen : dps.length + us.length ≤ 1000 := by
        have z0 := paired_len p5
        have z1 := paired_len hus
        have z2 := szT_len ((L.take (i + 1)).flatMap Tr.parts)
        have z3 := szT_level (L.take (i + 1))
        have z4 := szT_take L (i + 1)
        rw [hflat, List.length_append] at z2
        rw [hflat] at z3
        omega
      have ed6 := g6 _ _ ed5
      refine ⟨dp, pp, dps, us, rfl, rfl, ed6, SqT.of ep, line1000 hlen, ?_⟩
      have tkz : Tk H3 (upd H3 dp (.lst (dps ++ us))) := Tk.lst ed6
      refine ⟨dps ++ us, _, rfl, same_set (g5.trans g6) hdpH, k5.trans (g6.tk.trans tkz), by rw [upd_ne (Ne.symm ndf)]; exact g6 _ _ ef5, by rw [upd_ne (Ne.symm ndl)]; exact g6 _ _ el5, upd_same, ?_⟩
      rw [hflat]
      exact paired_append (Paired.mapP p5 fun _ _ z => z.mono (g6.tk.trans tkz)) (Paired.mapP hus fun _ _ z => z.mono tkz)
    · rintro σ1 H2 ⟨dps, s4, rfl, g5, k5, ef5, el5, ed5, p5⟩
      rw [List.take_of_length_le (by omega)] at p5
      have hpos : 0 < L.length := by
        rw [← lL]
        cases ls with
        | nil => simp at c
        | cons _ _ => simp
      refine ⟨_, rfl, szT (L.flatMap Tr.parts), by omega, dp, dps, fs ++ ls, L.flatMap Tr.parts, Fd ++ L, some (.ref dp), s4, rfl, g5, hdpH, ndf, ef5, ed5, paired_append (Paired.mapP pF fun _ _ z => z.mono (tk1.trans k5)) (Paired.mapP pL fun _ _ z => z.mono (tk1.trans k5)), p5, rfl, fun p => ?_, ?_⟩
      · rw [← hmem p, mem_level L, List.mem_append, or_assoc]
      · rw [List.length_append]
        omega
  · have e0 : ls = [] := by
      cases ls with
      | nil => rfl
      | cons _ _ => simp at c
    have eL : L = [] := by
      subst e0
      cases L with
      | nil => rfl
      | cons _ _ => simp at lL
    subst eL
    refine ⟨_, rfl, q fo fs Fd Hw gw ef pF fun p => ?_⟩
    rw [← hmem p]
    simp
def PPl (H : Hp) (x : PlT) (v : V) : Prop := ∃ u, PlV H (x.1, u) v ∧ Rep H x.2 u
theorem PPl.mono {H H' : Hp} (k : Tk H H') {x : PlT} {v : V} : PPl H x v → PPl H' x v
  | ⟨u, h, r⟩ => ⟨u, h.mono k, r.mono k⟩
theorem lift_perm {α β : Type} (g : α → β) : ∀ {qs l : List β}, qs.Perm l → ∀ {Z : List α}, Z.map g = l → ∃ Z' : List α, Z'.Perm Z ∧ Z'.map g = qs := by
  intro qs l h
  induction h with
  | nil =>
    intro Z e
    have : Z = [] := List.map_eq_nil_iff.mp e
    subst this
    exact ⟨[], .nil, rfl⟩
  | cons x _ ih =>
    intro Z e
    obtain ⟨z, Z2, rfl, e1, e2⟩ := List.map_eq_cons_iff.mp e
    obtain ⟨Z', h1, h2⟩ := ih e2
    exact ⟨z :: Z', h1.cons z, by simp [e1, h2]⟩
  | swap x y l =>
    intro Z e
    obtain ⟨z, Z2, rfl, e1, e2⟩ := List.map_eq_cons_iff.mp e
    obtain ⟨z2, Z3, rfl, e3, e4⟩ := List.map_eq_cons_iff.mp e2
    exact ⟨z2 :: z :: Z3, .swap _ _ _, by simp [e1, e3, e4]⟩
  | trans _ _ ih1 ih2 =>
    intro Z e
    obtain ⟨Z1, h1, h2⟩ := ih2 e
    obtain ⟨Z2, h3, h4⟩ := ih1 h2
    exact ⟨Z2, h3.trans h1, h4⟩
theorem ppl_split {H : Hp} : ∀ {F : List PlT} {us : List V}, Paired (PPl H) F us → ∃ Z : List (PlT × V), Z.map (·.1) = F ∧ Paired (PlV H) (Z.map fun z => (z.1.1, z.2)) us ∧ ∀ z ∈ Z, Rep H z.1.2 z.2
  | _, _, .nil => ⟨[], rfl, .nil, fun z h => nomatch h⟩
  | _, _, .cons (a := x) r q => by
    obtain ⟨Z, h1, h2, h3⟩ := ppl_split q
    obtain ⟨u, hu, ru⟩ := r
    refine ⟨(x, u) :: Z, by simp [h1], .cons hu h2, fun z hz => ?_⟩
    rcases List.mem_cons.mp hz with rfl | hz
    · exact ru
    · exact h3 z hz
theorem ppl_join {H : Hp} : ∀ {Z : List (PlT × V)} {us : List V}, Paired (PlV H) (Z.map fun z => (z.1.1, z.2)) us → (∀ z ∈ Z, Rep H z.1.2 z.2) → Paired (fun x v => ∃ pl, PPl H (pl, x) v) (Z.map fun z => z.1.2) us
  | [], _, h, _ => by
    cases h
    exact .nil
  | z :: Z, _, h, k => by
    rw [List.map_cons] at h ⊢
    cases h with
    | cons r q => exact .cons ⟨z.1.1, z.2, r, k z List.mem_cons_self⟩ (ppl_join q fun y hy => k y (List.mem_cons_of_mem _ hy))
def sp_placed : Sp := fun vs H Q _ => ∃ (t : Tr) (v : V), vs = [v] ∧ Rep H t v ∧ t.size ≤ 60 ∧ ∀ (l : Addr) (us : List V) (F : List Tr) (H' : Hp), Same H H' → H' l = some (.lst us) → Paired (fun x v => ∃ pl, PPl H' (pl, x) v) F us → (∀ p, p ∈ F ↔ p ∈ t.subs) → F.length ≤ 60 → Q (.ref l) H'
theorem ok_placed {k : Nat} {f g1 : Addr} {fd gd1 : FuncData} (F : Fun K "placed_parts" "placed_parts" s_placed_parts f fd) (z_enumerate : mg "enumerate" = none) (z_sorted : mg "sorted" = none) (G_parts : FnB P w K mg base k "parts" g1 gd1 ["tree"] sp_parts) : FnOk P w K mg base CX0 (k + 1) f fd ["tree"] sp_placed := by
  refine F.ok sc_placed_parts (fun vs H Q E h => ?_) (fun cdv A outer s H vs Q E hr h => ?_)
  · obtain ⟨t, v, rfl, _⟩ := h
    rfl
  obtain ⟨t, v, rfl, hR, hsz, q⟩ := h
  have hu5 := hu150 hr
  refine ⟨_, (pss_cons (ps_set (i := 1) sc_placed_parts.nd rfl (Or.inl rfl) (pe_lst pa_nil : PE _ _ _))
    (pss_cons (ps_set (i := 2) sc_placed_parts.nd rfl (Or.inl rfl) (pe_lst (pa_cons (pe_tup (pa_cons (pe_tup pa_nil : PE _ _ _) (pa_cons (pv 0) pa_nil)) : PE _ _ _) pa_nil) : PE _ _ _))
    (pss_cons (ps_while PassesOwn.never (pt_truth (pv 2) (fun _ => rfl)) (pss_cons (ps_expr (pe_bm PySem.F.plainAttrs_list PySem.F.slot_list_extend PySem.F.type_list_extend mt_extend (pv 1) (pa_cons (pv 2) pa_nil)))
    (pss_cons (ps_set (i := 3) sc_placed_parts.nd rfl (Or.inl rfl) (pe_lst pa_nil : PE _ _ _))
    (pss_cons (ps_for PassesOwn.never rfl (pi_list (pv 2)) (pg_tup rfl (pgs_cons (pg_name (i := 4) sc_placed_parts.nd rfl (Or.inl rfl)) (pgs_cons (pg_name (i := 5) sc_placed_parts.nd rfl (Or.inl rfl)) pgs_nil))) (pss_one (ps_for PassesOwn.never rfl (pi_enum (by rfl) z_enumerate (pa_cons (pe_call G_parts.ok hr (by rfl) G_parts.gl G_parts.kp G_parts.bd .nil pass0 (pa_cons (pv 5) pa_nil)) pa_nil)) (pg_tup rfl (pgs_cons (pg_name (i := 6) sc_placed_parts.nd rfl (Or.inl rfl)) (pgs_cons (pg_name (i := 7) sc_placed_parts.nd rfl (Or.inl rfl)) pgs_nil))) (pss_one (ps_expr (pe_bm PySem.F.plainAttrs_list PySem.F.slot_list_append PySem.F.type_list_append mt_append (pv 3) (pa_cons (pe_tup (pa_cons (pe_op op_catV (pv 4) (pe_tup (pa_cons (pv 6) pa_nil) : PE _ _ _)) (pa_cons (pv 7) pa_nil)) : PE _ _ _) pa_nil)))))))
    (pss_one (ps_set (i := 2) sc_placed_parts.nd rfl (Or.inl rfl) (pv 3)))))))
    (pss_one (ps_ret (pe_callB (call_sortedP hu5) (by rfl) z_sorted PyProof.Rows.boot_sorted (pa_cons (pv 1) pa_nil))))))), ?_⟩
  have d2 : 2 ≤ sizeLine := by decide
  refine ⟨(by show 0 ≤ sizeLine; decide), fun fo hfo => ⟨(by show 0 ≤ sizeLine; decide), fun pe hpe => ⟨_, rfl, d2, fun pr hpr => ⟨(by show 1 ≤ sizeLine; decide), fun l hl => ?_⟩⟩⟩⟩
  have g1 := same_upd (o := .lst []) hfo
  have g2 := same_upd (o := .tup []) hpe
  have g3 := same_upd (o := .tup [.ref pe, v]) hpr
  have g4 := same_upd (o := .lst [.ref pr]) hl
  have g23 := g2.trans g3
  have gA := g1.trans (g23.trans g4)
  refine ⟨fun m σ' H' => ∃ (l : Addr) (ls fs : List V) (L Fd : List PlT) (s3 s4 s5 s6 s7 : Option V), σ' = [some v, some (.ref fo), some (.ref l), s3, s4, s5, s6, s7] ∧ Same H H' ∧ H l = none ∧ l ≠ fo ∧ H' fo = some (.lst fs) ∧ H' l = some (.lst ls) ∧
      Paired (PPl H') Fd fs ∧ Paired (PPl H') L ls ∧ m = szP L ∧ (Fd ++ allP L).Perm (psub [] t) ∧ (∀ x ∈ L, x.1.length + x.2.size ≤ 60),
    ⟨szP [([], t)], l, [.ref pr], [], [([], t)], [], none, none, none, none, none, rfl, gA, (g1.trans g23).free hl, ?_, g4 _ _ (g23 _ _ upd_same), upd_same, .nil, .cons ⟨v, ⟨pr, pe, rfl, g4 _ _ upd_same, g4 _ _ (g3 _ _ upd_same)⟩, hR.mono gA.tk⟩ .nil, rfl, by simp [allP], by simpa using hsz⟩, ?_⟩
  · exact Ne.symm (ne_of_none (g23 _ _ (upd_same (H := H) (a := fo) (o := .lst []))) hl)
  rintro m σ' Hw ⟨l, ls, fs, L, Fd, s3, s4, s5, s6, s7, rfl, gw, hl, hlf, ef, el, pF, pL, rfl, hperm, hdp0⟩
  have lL : ls.length = L.length := paired_len pL
  have lF : fs.length = Fd.length := paired_len pF
  have hZ := szP_level L
  have hcnt : Fd.length + szP L ≤ 60 := by
    have := hperm.length_eq
    rw [List.length_append, allP_len, psub_len] at this
    omega
  refine ⟨_, rfl, _, .inl ⟨ls, SqL.of el, rfl⟩, ?_⟩
  refine ite2 (fun c => ?_) (fun c => ?_)
  · refine ⟨_, fun _ _ h => h, ?_⟩
    refine ⟨_, rfl, .inl ⟨rfl, _, SqL.of ef⟩, _, rfl, fo, l, fs, ls, rfl, rfl, ef, el, line1000 (by omega), ?_⟩
    have ef1 : (upd Hw fo (.lst (fs ++ ls))) fo = some (.lst (fs ++ ls)) := upd_same
    have el1 : (upd Hw fo (.lst (fs ++ ls))) l = some (.lst ls) := by rw [upd_ne hlf]; exact el
    have gw1 : Same H (upd Hw fo (.lst (fs ++ ls))) := same_set gw hfo
    have tk1 : Tk Hw (upd Hw fo (.lst (fs ++ ls))) := Tk.lst ef
    show tSeq _ _ _ _ (upd Hw fo (.lst (fs ++ ls)))
    generalize upd Hw fo (.lst (fs ++ ls)) = H1 at ef1 el1 gw1 tk1 ⊢
    refine ⟨(by show 0 ≤ sizeLine; decide), fun dp hdp => ?_⟩
    have g4 := same_upd (o := .lst []) hdp
    have hdpH : H dp = none := gw1.free hdp
    have ndf : dp ≠ fo := Ne.symm (ne_of_none ef1 hdp)
    have ndl : dp ≠ l := Ne.symm (ne_of_none el1 hdp)
    refine ⟨_, rfl, l, rfl, ⟨ls, SqL.of (g4 _ _ el1)⟩, ?_⟩
    refine for_list (xs := ls) (fun i σ' H' => ∃ (dps : List V) (s4 s5 s6 s7 : Option V), σ' = [some v, some (.ref fo), some (.ref l), some (.ref dp), s4, s5, s6, s7] ∧ Same H H' ∧ Tk H1 H' ∧ H' fo = some (.lst (fs ++ ls)) ∧ H' l = some (.lst ls) ∧ H' dp = some (.lst dps) ∧ Paired (PPl H') ((L.take i).flatMap kidsP) dps) ?_ ?_ ?_ ?_
    · exact ⟨[], s4, s5, s6, s7, rfl, gw1.trans g4, g4.tk, g4 _ _ ef1, g4 _ _ el1, upd_same, .nil⟩
    · rintro i σ1 H2 _ ⟨dps, s4, s5, s6, s7, rfl, g5, k5, ef5, el5, ed5, p5⟩
      exact SqL.of el5
    · rintro i x σ1 H2 hx ⟨dps, s4, s5, s6, s7, rfl, g5, k5, ef5, el5, ed5, p5⟩
      obtain ⟨⟨pl, tq⟩, eq, rq⟩ := paired_get pL hx
      obtain ⟨u, ⟨b, c', rfl, hb, hc'⟩, ru⟩ := rq.mono (tk1.trans k5)
      dsimp only at hb hc' ru
      refine ⟨b, _, rfl, SqT.of hb, rfl, _, _, rfl, _, _, rfl, rfl, ?_⟩
      have hflat : ((L.take (i + 1)).flatMap kidsP) = ((L.take i).flatMap kidsP) ++ kidsP (pl, tq) := by
        rw [take_next eq, List.flatMap_append]
        simp
      have hlen : ((L.take i).flatMap kidsP).length + (kidsP (pl, tq)).length ≤ 60 := by
        have z2 := szP_len ((L.take (i + 1)).flatMap kidsP)
        have z3 := szP_level (L.take (i + 1))
        have z4 : szP (L.take (i + 1)) ≤ szP L := by unfold szP; rw [List.map_take]; exact szT_take _ _
        rw [hflat, List.length_append] at z2
        rw [hflat] at z3
        omega
      refine ⟨_, rfl, tq, u, rfl, ru, fun pp H3 us g6 ep hus => ⟨pp, rfl, ⟨us, SqT.of ep⟩, ?_⟩⟩
      have lus : us.length = tq.parts.length := paired_len hus
      refine for_enum (xs := us) (fun j σ' H' => ∃ (dps' : List V) (s6 s7 : Option V), σ' = [some v, some (.ref fo), some (.ref l), some (.ref dp), some (.ref c'), some u, s6, s7] ∧ Same H H' ∧ Tk H3 H' ∧ H' fo = some (.lst (fs ++ ls)) ∧ H' l = some (.lst ls) ∧ H' dp = some (.lst dps') ∧ Paired (PPl H') (((L.take i).flatMap kidsP) ++ (kidsP (pl, tq)).take j) dps') ?_ ?_ ?_ ?_
      · refine ⟨dps, s6, s7, rfl, g5.trans g6, .refl _, g6 _ _ ef5, g6 _ _ el5, g6 _ _ ed5, ?_⟩
        rw [List.take_zero, List.append_nil]
        exact Paired.mapP p5 fun _ _ z => z.mono g6.tk
      · rintro j σ3 H5 _ ⟨dps5, s6, s7, rfl, g7, k7, ef7, el7, ed7, p7⟩
        exact SqT.of (k7 _ _ ep)
      · rintro j x T σ3 H5 hx ⟨dps5, s6, s7, rfl, g7, k7, ef7, el7, ed7, p7⟩ hT
        have gT := same_upd (o := .tup [.int j, x]) hT
        obtain ⟨cc, ec, rc⟩ := paired_get hus hx
        have kk := kidsP_get (pl := pl) ec
        have ld : dps5.length ≤ 60 := by
          rw [paired_len p7, List.length_append, List.length_take]
          omega
        refine ⟨T, _, rfl, SqT.of upd_same, rfl, _, _, rfl, _, _, rfl, rfl, ?_⟩
        have ed8 := gT _ _ ed7
        have hc8 : (upd H5 T (.tup [.int j, x])) c' = some (.tup (pl.map V.int)) := gT.tk _ _ (k7 _ _ (g6.tk _ _ hc'))
        refine ⟨_, rfl, .inl ⟨rfl, _, SqL.of ed8⟩, _, rfl, _, rfl, (by show 1 ≤ sizeLine; decide), fun pj hpj => ?_⟩
        have gj := same_upd (o := .tup [.int j]) hpj
        have hpl : pl.length ≤ 60 := by
          have h9 := hdp0 _ (List.mem_of_getElem? eq)
          dsimp only at h9
          omega
        refine ⟨c', pj, _, _, rfl, rfl, gj.tk _ _ hc8, upd_same, line1000 (by simp; omega), fun pn H6 g9 e9 => ?_⟩
        refine ⟨_, rfl, d2, fun pt hpt => ?_⟩
        have g10 := same_upd (o := .tup [.ref pn, x]) hpt
        have gB := gT.trans (gj.trans (g9.trans g10))
        have ed9 := gB _ _ ed7
        refine ⟨dp, dps5, _, rfl, rfl, ed9, small1000 (by omega), ?_⟩
        have tkz : Tk _ _ := Tk.lst (o := .lst (dps5 ++ [.ref pt])) ed9
        have e9' : H6 pn = some (.tup ((pl ++ [(j : Int)]).map V.int)) := by rw [e9, List.map_append]; rfl
        refine ⟨dps5 ++ [.ref pt], _, _, rfl, same_set (g7.trans gB) hdpH, k7.trans (gB.tk.trans tkz), by rw [upd_ne (Ne.symm ndf)]; exact gB _ _ ef7, by rw [upd_ne (Ne.symm ndl)]; exact gB _ _ el7, upd_same, ?_⟩
        rw [take_next kk, ← List.append_assoc]
        exact paired_append (Paired.mapP p7 fun _ _ z => z.mono (gB.tk.trans tkz)) (.cons ⟨x, ⟨pt, pn, rfl, tkz _ _ upd_same, tkz _ _ (g10.tk _ _ e9')⟩, rc.mono (k7.trans (gB.tk.trans tkz))⟩ .nil)
      · rintro σ3 H5 ⟨dps5, s6, s7, rfl, g7, k7, ef7, el7, ed7, p7⟩
        have ek : (kidsP (pl, tq)).take us.length = kidsP (pl, tq) := List.take_of_length_le (by rw [kidsP_len]; omega)
        rw [ek, ← hflat] at p7
        exact ⟨dps5, _, _, _, _, rfl, g7, k5.trans (g6.tk.trans k7), ef7, el7, ed7, p7⟩
    · rintro σ1 H2 ⟨dps, s4, s5, s6, s7, rfl, g5, k5, ef5, el5, ed5, p5⟩
      rw [List.take_of_length_le (by omega)] at p5
      have hpos : 0 < L.length := by
        rw [← lL]
        cases ls with
        | nil => simp at c
        | cons _ _ => simp
      refine ⟨_, rfl, szP (L.flatMap kidsP), by omega, dp, dps, fs ++ ls, L.flatMap kidsP, Fd ++ L, some (.ref dp), s4, s5, s6, s7, rfl, g5, hdpH, ndf, ef5, ed5, paired_append (Paired.mapP pF fun _ _ z => z.mono (tk1.trans k5)) (Paired.mapP pL fun _ _ z => z.mono (tk1.trans k5)), p5, rfl, ?_, ?_⟩
      · rw [List.append_assoc]
        exact ((allP_level L).symm.append_left Fd).trans hperm
      · intro x hx
        obtain ⟨y, hy, hx⟩ := List.mem_flatMap.mp hx
        have h9 := hdp0 y hy
        unfold kidsP at hx
        obtain ⟨z, hz, rfl⟩ := List.mem_map.mp hx
        have h8 : z.1 ∈ y.2.parts := List.fst_mem_of_mem_zipIdx hz
        have h7 := part_size h8
        simp
        omega
  · have e0 : ls = [] := by
      cases ls with
      | nil => rfl
      | cons _ _ => simp at c
    have eL : L = [] := by
      subst e0
      cases L with
      | nil => rfl
      | cons _ _ => simp at lL
    subst eL
    have hperm' : Fd.Perm (psub [] t) := by simpa [allP] using hperm
    obtain ⟨Z, w1, w2, w3⟩ := ppl_split pF
    have hfst : ((Z.map fun z => (z.1.1, z.2)).map (·.1)) = Fd.map (·.1) := by rw [← w1, List.map_map, List.map_map]; rfl
    have hlz : Z.length = Fd.length := by rw [← w1, List.length_map]
    refine ⟨_, rfl, fo, fs, Z.map fun z => (z.1.1, z.2), rfl, ef, w2, ?_, by rw [List.length_map]; omega, fun l' zs qs hl' pq hq _ => ?_⟩
    · rw [hfst]
      exact (hperm'.map _).nodup_iff.mpr (psub_nd t [])
    · obtain ⟨Z', z1, rfl⟩ := lift_perm _ hq rfl
      have gl := same_upd (o := .lst zs) hl'
      refine q l' zs (Z'.map fun z => z.1.2) _ (gw.trans gl) upd_same (Paired.mapP (ppl_join pq fun z hz => w3 z (z1.mem_iff.mp hz)) fun _ _ ⟨pl, h⟩ => ⟨pl, h.mono gl.tk⟩) (fun p => ?_) ?_
      · have e1 : (Z'.map fun z => z.1.2).Perm (Fd.map (·.2)) := by
          refine (z1.map _).trans ?_
          rw [← w1, List.map_map]
          exact .refl _
        rw [e1.mem_iff, (hperm'.map _).mem_iff, psub_snd]
      · rw [List.length_map, z1.length_eq]
        omega
end
end K10
set_option Elab.async false
set_option linter.all false
set_option maxRecDepth 100000
set_option maxHeartbeats 4000000
namespace L2
open PySem
def agap : Atom → List Str
  | .gap h => [h]
  | _ => []
def cnt1 : Tr → List (Str × Nat)
  | .gap g as => (g, as.length) :: as.flatMap fun a => (agap a).map fun h => (h, 0)
  | _ => []
theorem cnt1_not {t : Tr} (h : ¬ t.kd = .gap) : cnt1 t = [] := by
  cases t with
  | gap x as => exact absurd rfl h
  | _ => rfl
def gset (t : Tr) : List Str := (t.subs.flatMap cnt1).map (·.1)
def OkCnt (f : Str → Nat) (t : Tr) : Prop := ∀ x ∈ t.subs.flatMap cnt1, x.2 = f x.1
structure Gd (S : List Str) (f : Str → Nat) (kvs : List (Key × V)) : Prop where
  nm : ∀ p ∈ kvs, ∃ g ∈ S, p = ((Sum.inr g : Key), V.int ((f g : Nat) : Int))
  vl : ∀ g ∈ S, valV kvs (Sum.inr g : Key) = some (.int ((f g : Nat) : Int))
  nd : (kvs.map (·.1)).Nodup
theorem in_putK {kvs : List (Key × V)} {k : Key} {v : V} {p : Key × V} (h : p ∈ putK kvs k v) : p = (k, v) ∨ p ∈ kvs := by
  unfold putK at h
  split at h
  · obtain ⟨q, hq, e⟩ := List.mem_map.mp h
    by_cases z : q.1 = k
    · rw [if_pos z, z] at e
      exact .inl e.symm
    · rw [if_neg z] at e
      exact .inr (e ▸ hq)
  · rcases List.mem_append.mp h with h | h
    · exact .inr h
    · exact .inl (List.mem_singleton.mp h)
theorem nd_put {kvs : List (Key × V)} (k : Key) (v : V) (nd : (kvs.map (·.1)).Nodup) : ((putK kvs k v).map (·.1)).Nodup := by
  unfold putK
  split
  · have e : (kvs.map fun kv => if kv.1 = k then (kv.1, v) else kv).map (·.1) = kvs.map (·.1) := by
      rw [List.map_map]
      refine List.map_congr_left fun q _ => ?_
      show (if q.1 = k then (q.1, v) else q).1 = q.1
      split <;> rfl
    rw [e]; exact nd
  · rename_i h
    rw [List.map_append, List.nodup_append]
    refine ⟨nd, by simp, fun a ha b hb e => h ?_⟩
    obtain ⟨q, hq, rfl⟩ := List.mem_map.mp ha
    simp at hb
    rw [List.any_eq_true]
    exact ⟨q, hq, decide_eq_true (e.trans hb)⟩
theorem Gd.nil {f : Str → Nat} : Gd [] f [] := ⟨(fun p h => nomatch h), (fun g h => nomatch h), List.nodup_nil⟩
theorem Gd.put {S : List Str} {f : Str → Nat} {kvs : List (Key × V)} (h : Gd S f kvs) {x : Str} {n : Nat} (e : n = f x) : Gd (S ++ [x]) f (putK kvs (Sum.inr x : Key) (.int ((n : Nat) : Int))) := by
  subst e
  refine ⟨fun p hp => ?_, fun g hg => ?_, nd_put _ _ h.nd⟩
  · rcases in_putK hp with z | z
    · exact ⟨x, by simp, z⟩
    · obtain ⟨g, hg, e⟩ := h.nm p z
      exact ⟨g, by simp [hg], e⟩
  · rw [valV_put]
    by_cases z : g = x
    · subst z
      rw [if_pos rfl]
    · have z' : ¬ (Sum.inr g : Key) = Sum.inr x := fun w => z (Sum.inr.inj w)
      rw [if_neg z']
      exact h.vl g (by simpa [z] using hg)
theorem Gd.same {S : List Str} {f : Str → Nat} {kvs : List (Key × V)} (h : Gd S f kvs) {x : Str} (hx : x ∈ S) : Gd (S ++ [x]) f kvs :=
  ⟨fun p hp => by obtain ⟨g, hg, e⟩ := h.nm p hp; exact ⟨g, by simp [hg], e⟩, fun g hg => by
    rcases List.mem_append.mp hg with z | z
    · exact h.vl g z
    · rw [List.mem_singleton.mp z]; exact h.vl x hx, h.nd⟩
theorem Gd.congr {S T : List Str} {f : Str → Nat} {kvs : List (Key × V)} (h : Gd S f kvs) (e : ∀ g, g ∈ T ↔ g ∈ S) : Gd T f kvs :=
  ⟨fun p hp => by obtain ⟨g, hg, e'⟩ := h.nm p hp; exact ⟨g, (e g).mpr hg, e'⟩, fun g hg => h.vl g ((e g).mp hg), h.nd⟩
theorem Gd.some {S : List Str} {f : Str → Nat} {kvs : List (Key × V)} (h : Gd S f kvs) {x : Str} {z : V} (hx : valV kvs (Sum.inr x : Key) = some z) : x ∈ S := by
  obtain ⟨p, hp, ep⟩ := Option.map_eq_some_iff.mp (show (kvs.find? fun kv => decide (kv.1 = (Sum.inr x : Key))).map (·.2) = _ from hx)
  obtain ⟨g, hg, e⟩ := h.nm p (List.mem_of_find?_eq_some hp)
  have hk := List.find?_some hp
  have : p.1 = (Sum.inr x : Key) := of_decide_eq_true hk
  rw [e] at this
  rw [← Sum.inr.inj this]
  exact hg
def WN (H : Hp) (x : Str × Nat) (v : V) : Prop := ∃ b, v = .ref b ∧ H b = some (.tup [.str x.1, .int ((x.2 : Nat) : Int)])
theorem WN.mono {H H' : Hp} (k : Tk H H') {x : Str × Nat} {v : V} : WN H x v → WN H' x v
  | ⟨b, e, h⟩ => ⟨b, e, k _ _ h⟩
theorem AtRep.all {H : Hp} : ∀ {a : Atom} {v : V}, AtRep H a v → ∃ (b : Addr) (r : List V), v = .ref b ∧ ((∃ h, a = .gap h ∧ H b = some (.tup (.str "gap" :: .str h :: r))) ∨ (agap a = [] ∧ ∃ k : Str, k ≠ "gap" ∧ H b = some (.tup (.str k :: r))))
  | .name x, _, ⟨b, e, h⟩ => ⟨b, _, e, .inr ⟨rfl, "name", by decide +kernel, h⟩⟩
  | .num x, _, ⟨b, e, h⟩ => ⟨b, _, e, .inr ⟨rfl, "num", by decide +kernel, h⟩⟩
  | .gap x, _, ⟨b, c, e, h, _⟩ => ⟨b, _, e, .inl ⟨x, rfl, h⟩⟩
end L2
namespace K10
open PySem PySem.Spec L2 PyProof.Rows
abbrev s_gap_parts : Stmt := top 8
theorem sc_gap_parts : FnScope ["shape"] ["shape"] (defScope s_gap_parts) := ⟨rfl, rfl, rfl, by decide +kernel, rfl, by decide +kernel, by decide +kernel⟩
abbrev s_counted_gaps : Stmt := top 9
theorem sc_counted_gaps : FnScope ["shape", "counted", "part"] ["shape"] (defScope s_counted_gaps) := ⟨rfl, rfl, rfl, by decide +kernel, rfl, by decide +kernel, by decide +kernel⟩
abbrev s_gaps_of : Stmt := top 10
theorem sc_gaps_of : FnScope ["shape", "first", "gap", "many"] ["shape"] (defScope s_gaps_of) := ⟨rfl, rfl, rfl, by decide +kernel, rfl, by decide +kernel, by decide +kernel⟩
section
variable {P : Program} {w : World} {K : PySem.W.Frag} {mg : Str → Option Value} {base : Heap}
def sp_gapp : Sp := fun vs H Q _ => ∃ (t : Tr) (v : V), vs = [v] ∧ Rep H t v ∧ t.size ≤ 60 ∧ ∀ (l : Addr) (us : List V) (F : List Tr) (H' : Hp), Same H H' → H l = none → H' l = some (.lst us) → Paired (Rep H') F us → (∀ p, p ∈ F ↔ p ∈ t.subs ∧ p.kd = .gap) → F.length ≤ 60 → Q (.ref l) H'
theorem ok_gapp {k : Nat} {f g1 : Addr} {fd gd1 : FuncData} (F : Fun K "gap_parts" "gap_parts" s_gap_parts f fd) (G_placed_parts : FnB P w K mg base k "placed_parts" g1 gd1 ["tree"] sp_placed) : FnOk P w K mg base CX0 (k + 1) f fd ["shape"] sp_gapp := by
  refine F.ok sc_gap_parts (fun vs H Q E h => ?_) (fun cdv A outer s H vs Q E hr h => ?_)
  · obtain ⟨t, v, rfl, _⟩ := h
    rfl
  obtain ⟨t, v, rfl, hR, hsz, q⟩ := h
  refine ⟨_, (pss_one (ps_ret (pe_compB ["place", "part"] [none, none] rfl (pi_list (pe_call G_placed_parts.ok hr (by rfl) G_placed_parts.gl G_placed_parts.kp G_placed_parts.bd .nil pass0 (pa_cons (pv 0) pa_nil))) (fun _ _ _ _ _ => (pg_tupK (K := K) (n := 2) rfl rfl (pgs_cons (pg_name (i := 0) (show List.Nodup (["place", "part"] : List Str) by decide +kernel) rfl (Or.inl rfl)) (pgs_cons (pg_name (i := 1) (show List.Nodup (["place", "part"] : List Str) by decide +kernel) rfl (Or.inl rfl)) pgs_nil)))) (fun _ _ _ _ _ => (pts_one (pt_cmpR op_eq (pe_ix (r := rIxT K) ix_tup (pv 1) pe_int (fun _ _ => rfl)) pe_str (nomark _)))) (fun _ _ _ _ _ => (pv 1)) rfl))), ?_⟩
  refine ⟨_, rfl, t, v, rfl, hR, hsz, fun l us F H1 g1 el pF hF hl => ⟨l, rfl, ⟨us, SqL.of el⟩, fun acc hacc => ?_⟩⟩
  have lu : us.length = F.length := paired_len pF
  refine comp_listR (xs := us) (fun i H' => Same H1 H' ∧ ∃ (zs : List V) (G : List Tr), H' acc = some (.lst zs) ∧ Paired (Rep H') G zs ∧ (∀ p, p ∈ G ↔ p ∈ F.take i ∧ p.kd = .gap) ∧ G.length ≤ i) ⟨same_upd hacc, [], [], upd_same, .nil, by simp, Nat.le_refl _⟩ (fun i H' _ h => SqL.of (h.1 _ _ el)) ?_ ?_
  · rintro i x Hx hx ⟨gx, zs, G, ez, pG, hG, lG⟩
    obtain ⟨tq, eq, pl, u, ⟨b, c, rfl, hb, _⟩, ru⟩ := paired_get pF hx
    have hi : i < us.length := (List.getElem?_eq_some_iff.mp hx).1
    have lz : zs.length = G.length := paired_len pG
    have ru' := ru.mono gx.tk
    dsimp only at hb ru'
    obtain ⟨pa, hs, us', rfl, hpa, hhl, hparts⟩ := ru'.all
    have at0 : atI (V.str tq.kd.s :: hs ++ us') 0 = some (.str tq.kd.s) := atI_nat (j := 0) rfl
    have htk := take_next eq
    refine ⟨b, _, rfl, SqT.of (gx _ _ hb), rfl, _, _, rfl, _, _, rfl, rfl, .skip (.skip .nil), ?_⟩
    refine ⟨_, rfl, pa, _, 0, _, rfl, rfl, SqT.of hpa, at0, rfl, _, rfl, ite2 (fun c => ?_) (fun c => ?_)⟩
    · have z : tq.kd = .gap := Kd.eq_iff.mp (of_decide_eq_true c)
      have tkz : Tk Hx (upd Hx acc (.lst (zs ++ [.ref pa]))) := Tk.lst ez
      refine ⟨_, rfl, zs, ez, small1000 (by omega), same_set gx hacc, zs ++ [.ref pa], G ++ [tq], upd_same, paired_append (Paired.mapP pG fun _ _ z => z.mono tkz) (.cons (ru'.mono tkz) .nil), fun p => ?_, by simp; omega⟩
      rw [htk, List.mem_append, List.mem_append, hG p, List.mem_singleton]
      constructor
      · rintro (h | rfl)
        · exact ⟨.inl h.1, h.2⟩
        · exact ⟨.inr rfl, z⟩
      · rintro ⟨h | h, k⟩
        · exact .inl ⟨h, k⟩
        · exact .inr h
    · have z : ¬ tq.kd = .gap := fun z => c (decide_eq_true (by rw [z]; rfl))
      refine ⟨gx, zs, G, ez, pG, fun p => ?_, by omega⟩
      rw [htk, List.mem_append, hG p, List.mem_singleton]
      constructor
      · rintro ⟨h, k⟩
        exact ⟨.inl h, k⟩
      · rintro ⟨h | h, k⟩
        · exact ⟨h, k⟩
        · exact absurd (h ▸ k) z
  rintro H2 ⟨g2, zs, G, ez, pG, hG, lG⟩
  rw [List.take_of_length_le (by omega)] at hG
  exact q acc zs G H2 (g1.trans g2) (g1.free hacc) ez pG (fun p => by rw [hG p, hF p]) (by omega)
def sp_counted : Sp := fun vs H Q _ => ∃ (t : Tr) (v : V), vs = [v] ∧ Rep H t v ∧ t.size ≤ 60 ∧ (∀ p ∈ t.subs, (cnt1 p).length ≤ 10) ∧ ∀ (l : Addr) (us : List V) (C : List (Str × Nat)) (H' : Hp), Same H H' → H' l = some (.lst us) → Paired (WN H') C us → (∀ x, x ∈ C ↔ x ∈ t.subs.flatMap cnt1) → C.length ≤ 600 → Q (.ref l) H'
theorem ok_counted {k : Nat} {f g1 : Addr} {fd gd1 : FuncData} (F : Fun K "counted_gaps" "counted_gaps" s_counted_gaps f fd) (z_len : mg "len" = none) (G_gap_parts : FnB P w K mg base k "gap_parts" g1 gd1 ["shape"] sp_gapp) : FnOk P w K mg base CX0 (k + 1) f fd ["shape"] sp_counted := by
  refine F.ok sc_counted_gaps (fun vs H Q E h => ?_) (fun cdv A outer s H vs Q E hr h => ?_)
  · obtain ⟨t, v, rfl, _⟩ := h
    rfl
  obtain ⟨t, v, rfl, hR, hsz, h10, q⟩ := h
  refine ⟨_, (Sd.un (pss_consS (ps_setS (i := 1) sc_counted_gaps.nd rfl (Or.inl rfl) (pe_lstS ⟨pa_nil⟩))
    (pss_consS ⟨ps_for PassesOwn.never rfl (pi_list (pe_call G_gap_parts.ok hr (by rfl) G_gap_parts.gl G_gap_parts.kp G_gap_parts.bd .nil pass0 (pa_cons (pv 0) pa_nil))) (pg_name (i := 2) sc_counted_gaps.nd rfl (Or.inl rfl)) (pss_cons (ps_expr (pe_bm PySem.F.plainAttrs_list PySem.F.slot_list_append PySem.F.type_list_append mt_append (pv 1) (pa_cons (pe_tup (pa_cons (pe_ix (r := rIxT K) ix_tup (pv 2) pe_int (fun _ _ => rfl)) (pa_cons (pe_callB call_len_seq (by rfl) z_len PySem.boot_len (pa_cons (pe_ix (r := rIxT K) ix_tup (pv 2) pe_int (fun _ _ => rfl)) pa_nil)) pa_nil)) : PE _ _ _) pa_nil)))
    (pss_one (ps_expr (pe_bm PySem.F.plainAttrs_list PySem.F.slot_list_extend PySem.F.type_list_extend mt_extend (pv 1) (pa_cons (pe_compB ["atom"] [none] rfl (pi_tup (pe_ix (r := rIxT K) ix_tup (pv 2) pe_int (fun _ _ => rfl))) (fun _ _ _ _ _ => (pg_name (i := 0) (show List.Nodup (["atom"] : List Str) by decide +kernel) rfl (Or.inl rfl))) (fun _ _ _ _ _ => (pts_one (pt_cmpR op_eq (pe_ix (r := rIxT K) ix_tup (pv 0) pe_int (fun _ _ => rfl)) pe_str (nomark _)))) (fun _ _ _ _ _ => (pe_tup (pa_cons (pe_ix (r := rIxT K) ix_tup (pv 0) pe_int (fun _ _ => rfl)) (pa_cons pe_int pa_nil)) : PE _ _ _)) rfl) pa_nil)))))⟩
    (pss_oneS (ps_retS ⟨pv 1⟩))))), ?_⟩
  have d2 : 2 ≤ sizeLine := by decide
  refine ⟨(by show 0 ≤ sizeLine; decide), fun co hco => ?_⟩
  have g0 := same_upd (o := .lst []) hco
  have eco : (upd H co (.lst [])) co = some (.lst []) := upd_same
  have hR0 := hR.mono g0.tk
  show tSeq _ _ _ _ (upd H co (.lst []))
  generalize upd H co (.lst []) = H0 at g0 eco hR0 ⊢
  refine ⟨_, rfl, t, v, rfl, hR0, hsz, fun l us F H1 g1 hln el pF hF hl => ⟨l, rfl, ⟨us, SqL.of el⟩, ?_⟩⟩
  have lu : us.length = F.length := paired_len pF
  have nlc : l ≠ co := fun z => by rw [z, eco] at hln; cases hln
  have bound : ∀ i, ((F.take i).flatMap cnt1).length ≤ 10 * i := fun i => by
    have key : ∀ L : List Tr, (∀ p ∈ L, (cnt1 p).length ≤ 10) → (L.flatMap cnt1).length ≤ 10 * L.length := by
      intro L
      induction L with
      | nil => simp
      | cons a L ih =>
        intro h
        have h1 := h a List.mem_cons_self
        have h2 := ih fun p hp => h p (List.mem_cons_of_mem _ hp)
        rw [List.flatMap_cons, List.length_append, List.length_cons]
        omega
    have := key (F.take i) fun p hp => h10 p ((hF p).mp (List.mem_of_mem_take hp)).1
    rw [List.length_take] at this
    omega
  refine for_list (xs := us) (fun i σ' H' => ∃ (cs : List V) (s2 : Option V), σ' = [some v, some (.ref co), s2] ∧ Same H H' ∧ Tk H1 H' ∧ H' l = some (.lst us) ∧ H' co = some (.lst cs) ∧ Paired (WN H') ((F.take i).flatMap cnt1) cs) ?_ ?_ ?_ ?_
  · exact ⟨[], none, rfl, g0.trans g1, .refl _, el, g1 _ _ eco, .nil⟩
  · rintro i σ' H' _ ⟨cs, s2, rfl, g, tk, el', ec, pc⟩
    exact SqL.of el'
  · rintro i x σ' H' hx ⟨cs, s2, rfl, g, tk, el', ec, pc⟩
    obtain ⟨tq, eq, rq⟩ := paired_get pF hx
    have hi : i < us.length := (List.getElem?_eq_some_iff.mp hx).1
    have lc : cs.length = ((F.take i).flatMap cnt1).length := paired_len pc
    have bi := bound i
    have bi1 := bound (i + 1)
    have htk : (F.take (i + 1)).flatMap cnt1 = (F.take i).flatMap cnt1 ++ cnt1 tq := by rw [take_next eq, List.flatMap_append]; simp
    rw [htk, List.length_append] at bi1
    have z := ((hF tq).mp (List.mem_of_getElem? eq)).2
    cases tq with
    | gap gx as =>
      obtain ⟨pa, b', us2, rfl, ha', hb', hl2, pas⟩ := rq.mono tk
      have las : us2.length = as.length := paired_len pas
      have at1 : atI [V.str "gap", .str gx, .ref b'] 1 = some (.str gx) := atI_nat (j := 1) rfl
      have at2 : atI [V.str "gap", .str gx, .ref b'] 2 = some (.ref b') := atI_nat (j := 2) rfl
      refine ⟨_, rfl, .inl ⟨rfl, _, SqL.of ec⟩, _, rfl, pa, _, 1, _, rfl, rfl, SqT.of ha', at1, _, rfl, pa, _, 2, _, rfl, rfl, SqT.of ha', at2, b', us2, rfl, .inr (SqT.of hb'), d2, fun pt hpt => ?_⟩
      have k1 := same_upd (o := .tup [.str gx, .int ((us2.length : Nat) : Int)]) hpt
      have ec1 := k1 _ _ ec
      refine ⟨co, cs, _, rfl, rfl, ec1, small1000 (by omega), ?_⟩
      have k2 : Tk (upd H' pt (.tup [.str gx, .int ((us2.length : Nat) : Int)])) (upd (upd H' pt (.tup [.str gx, .int ((us2.length : Nat) : Int)])) co (.lst (cs ++ [.ref pt]))) := Tk.lst ec1
      have g2 : Same H (upd (upd H' pt (.tup [.str gx, .int ((us2.length : Nat) : Int)])) co (.lst (cs ++ [.ref pt]))) := same_set (g.trans k1) hco
      have el2 : (upd (upd H' pt (.tup [.str gx, .int ((us2.length : Nat) : Int)])) co (.lst (cs ++ [.ref pt]))) l = some (.lst us) := by rw [upd_ne nlc]; exact k1 _ _ el'
      have ec2 : (upd (upd H' pt (.tup [.str gx, .int ((us2.length : Nat) : Int)])) co (.lst (cs ++ [.ref pt]))) co = some (.lst (cs ++ [.ref pt])) := upd_same
      have tk2 := tk.trans (k1.tk.trans k2)
      have ha2 := (k1.tk.trans k2) _ _ ha'
      have hb2 := (k1.tk.trans k2) _ _ hb'
      have pas2 : Paired (AtRep (upd (upd H' pt (.tup [.str gx, .int ((us2.length : Nat) : Int)])) co (.lst (cs ++ [.ref pt])))) as us2 := Paired.mapP pas fun _ _ z => z.mono (k1.tk.trans k2)
      have pc2 : Paired (WN (upd (upd H' pt (.tup [.str gx, .int ((us2.length : Nat) : Int)])) co (.lst (cs ++ [.ref pt])))) ((F.take i).flatMap cnt1 ++ [(gx, as.length)]) (cs ++ [.ref pt]) := paired_append (Paired.mapP pc fun _ _ z => z.mono (k1.tk.trans k2)) (.cons ⟨pt, rfl, by rw [← las]; exact k2 _ _ upd_same⟩ .nil)
      generalize upd (upd H' pt (.tup [.str gx, .int ((us2.length : Nat) : Int)])) co (.lst (cs ++ [.ref pt])) = H2 at g2 el2 ec2 tk2 ha2 hb2 pas2 pc2 ⊢
      refine ⟨_, rfl, .inl ⟨rfl, _, SqL.of ec2⟩, _, rfl, pa, _, 2, _, rfl, rfl, SqT.of ha2, at2, b', rfl, ⟨us2, SqT.of hb2⟩, fun acc hacc => ?_⟩
      have b3 : (cnt1 (.gap gx as)).length = 1 + (as.flatMap fun a => (agap a).map fun h => (h, 0)).length := by simp [cnt1]; omega
      refine comp_tupR (xs := us2) (fun j H' => Same H2 H' ∧ ∃ zs : List V, H' acc = some (.lst zs) ∧ Paired (WN H') ((as.take j).flatMap fun a => (agap a).map fun h => (h, 0)) zs ∧ zs.length ≤ j) ⟨same_upd hacc, [], upd_same, .nil, Nat.le_refl _⟩ (fun j H' _ h => SqT.of (h.1 _ _ hb2)) ?_ ?_
      · rintro j x Hx hx ⟨gx', zs, ez, pz, lz⟩
        obtain ⟨at', eat, rat⟩ := paired_get pas2 hx
        have hj : j < us2.length := (List.getElem?_eq_some_iff.mp hx).1
        have htj : ((as.take (j + 1)).flatMap fun a => (agap a).map fun h => (h, 0)) = ((as.take j).flatMap fun a => (agap a).map fun h => (h, 0)) ++ (agap at').map fun h => (h, 0) := by rw [take_next eat, List.flatMap_append]; simp
        obtain ⟨b, r, rfl, hb⟩ := (rat.mono gx'.tk).all
        rcases hb with ⟨h, rfl, hb⟩ | ⟨hag, kk, hkk, hb⟩
        · have a0 : atI (V.str "gap" :: .str h :: r) 0 = some (.str "gap") := atI_nat (j := 0) rfl
          have a1 : atI (V.str "gap" :: .str h :: r) 1 = some (.str h) := atI_nat (j := 1) rfl
          refine ⟨.skip .nil, _, rfl, b, _, 0, _, rfl, rfl, SqT.of hb, a0, rfl, _, rfl, ite2 (fun _ => ?_) (fun c => absurd (decide_eq_true rfl) c)⟩
          refine ⟨_, rfl, b, _, 1, _, rfl, rfl, SqT.of hb, a1, d2, fun pq hpq => ?_⟩
          have k5 := same_upd (o := .tup [.str h, .int 0]) hpq
          have tkz : Tk (upd Hx pq (.tup [.str h, .int 0])) (upd (upd Hx pq (.tup [.str h, .int 0])) acc (.lst (zs ++ [.ref pq]))) := Tk.lst (k5 _ _ ez)
          refine ⟨zs, k5 _ _ ez, small1000 (by omega), same_set (gx'.trans k5) hacc, zs ++ [.ref pq], upd_same, ?_, by simp; omega⟩
          rw [htj]
          exact paired_append (Paired.mapP pz fun _ _ z => z.mono (k5.tk.trans tkz)) (.cons ⟨pq, rfl, tkz _ _ upd_same⟩ .nil)
        · have a0 : atI (V.str kk :: r) 0 = some (.str kk) := atI_nat (j := 0) rfl
          refine ⟨.skip .nil, _, rfl, b, _, 0, _, rfl, rfl, SqT.of hb, a0, rfl, _, rfl, ite2 (fun c => absurd (V.str.inj (of_decide_eq_true c)) hkk) (fun _ => ?_)⟩
          refine ⟨gx', zs, ez, ?_, by omega⟩
          rw [htj, hag]
          simpa using pz
      · rintro H3 ⟨g3, zs, ez, pz, lz⟩
        rw [List.take_of_length_le (by omega)] at pz
        have lz2 : zs.length = (as.flatMap fun a => (agap a).map fun h => (h, 0)).length := paired_len pz
        have ec3 := g3 _ _ ec2
        refine ⟨co, acc, cs ++ [.ref pt], zs, rfl, rfl, ec3, ez, line1000 (by simp; omega), ?_⟩
        have tkz : Tk H3 (upd H3 co (.lst (cs ++ [.ref pt] ++ zs))) := Tk.lst ec3
        refine ⟨cs ++ [.ref pt] ++ zs, _, rfl, same_set (g2.trans g3) hco, tk2.trans (g3.tk.trans tkz), by rw [upd_ne nlc]; exact g3 _ _ el2, upd_same, ?_⟩
        rw [htk]
        have e9 : (F.take i).flatMap cnt1 ++ cnt1 (.gap gx as) = (F.take i).flatMap cnt1 ++ [(gx, as.length)] ++ as.flatMap fun a => (agap a).map fun h => (h, 0) := by simp [cnt1]
        rw [e9]
        exact paired_append (Paired.mapP pc2 fun _ _ z => z.mono (g3.tk.trans tkz)) (Paired.mapP pz fun _ _ z => z.mono tkz)
    | bin o a b => cases o <;> cases z
    | _ => cases z
  · rintro σ' H' ⟨cs, s2, rfl, g, tk, el', ec, pc⟩
    have bi := bound us.length
    rw [List.take_of_length_le (by omega)] at pc bi
    refine ⟨_, rfl, q co cs (F.flatMap cnt1) H' g ec pc (fun x => ?_) (by omega)⟩
    rw [List.mem_flatMap, List.mem_flatMap]
    constructor
    · rintro ⟨p, hp, hx⟩
      exact ⟨p, ((hF p).mp hp).1, hx⟩
    · rintro ⟨p, hp, hx⟩
      refine ⟨p, (hF p).mpr ⟨hp, ?_⟩, hx⟩
      exact Classical.byContradiction fun z => by rw [cnt1_not z] at hx; cases hx
def sp_gapsof : Sp := fun vs H Q _ => ∃ (t : Tr) (v : V) (f : Str → Nat), vs = [v] ∧ Rep H t v ∧ t.size ≤ 60 ∧ (∀ p ∈ t.subs, (cnt1 p).length ≤ 10) ∧ OkCnt f t ∧ ∀ (d : Addr) (kvs : List (Key × V)) (H' : Hp), Same H H' → H d = none → H' d = some (.dK kvs) → Gd (gset t) f kvs → kvs.length ≤ 600 → Q (.ref d) H'
theorem ok_gapsof {k : Nat} {f g1 : Addr} {fd gd1 : FuncData} (F : Fun K "gaps_of" "gaps_of" s_gaps_of f fd) (G_counted_gaps : FnB P w K mg base k "counted_gaps" g1 gd1 ["shape"] sp_counted) : FnOk P w K mg base CX0 (k + 1) f fd ["shape"] sp_gapsof := by
  refine F.ok sc_gaps_of (fun vs H Q E h => ?_) (fun cdv A outer s H vs Q E hr h => ?_)
  · obtain ⟨t, v, f, rfl, _⟩ := h
    rfl
  obtain ⟨t, v, fc, rfl, hR, hsz, h10, hok, q⟩ := h
  refine ⟨_, (pss_cons (ps_set (i := 1) sc_gaps_of.nd rfl (Or.inl rfl) pe_dnewK)
    (pss_cons (ps_for PassesOwn.never rfl (pi_list (pe_call G_counted_gaps.ok hr (by rfl) G_counted_gaps.gl G_counted_gaps.kp G_counted_gaps.bd .nil pass0 (pa_cons (pv 0) pa_nil))) (pg_tup rfl (pgs_cons (pg_name (i := 2) sc_gaps_of.nd rfl (Or.inl rfl)) (pgs_cons (pg_name (i := 3) sc_gaps_of.nd rfl (Or.inl rfl)) pgs_nil))) (pss_one (ps_expr (pe_bm PySem.F.plainAttrs_dict PySem.F.slot_dict_setdefault PySem.F.type_dict_setdefault mt_setdefault (pv 1) (pa_cons (pv 2) (pa_cons (pv 3) pa_nil))))))
    (pss_one (ps_ret (pv 1))))), ?_⟩
  refine fun d0 hd0 => ?_
  have g0 := same_upd (o := .dK []) hd0
  have ed0 : (upd H d0 (.dK [])) d0 = some (.dK []) := upd_same
  have hR0 := hR.mono g0.tk
  show tSeq _ _ _ _ (upd H d0 (.dK []))
  generalize upd H d0 (.dK []) = H0 at g0 ed0 hR0 ⊢
  refine ⟨_, rfl, t, v, rfl, hR0, hsz, h10, fun l us C H1 g1 el pC hC hl => ⟨l, rfl, ⟨us, SqL.of el⟩, ?_⟩⟩
  have lu : us.length = C.length := paired_len pC
  have nld : l ≠ d0 := fun z => by rw [z, g1 _ _ ed0] at el; cases el
  refine for_list (xs := us) (fun i σ' H' => ∃ (kvs : List (Key × V)) (s2 s3 : Option V), σ' = [some v, some (.ref d0), s2, s3] ∧ Same H H' ∧ Tk H1 H' ∧ H' l = some (.lst us) ∧ H' d0 = some (.dK kvs) ∧ Gd ((C.take i).map (·.1)) fc kvs ∧ kvs.length ≤ i) ?_ ?_ ?_ ?_
  · exact ⟨[], none, none, rfl, g0.trans g1, .refl _, el, g1 _ _ ed0, Gd.nil, Nat.le_refl _⟩
  · rintro i σ' H' _ ⟨kvs, s2, s3, rfl, g, tk, el', ed, gd, le⟩
    exact SqL.of el'
  · rintro i x σ' H' hx ⟨kvs, s2, s3, rfl, g, tk, el', ed, gd, le⟩
    obtain ⟨⟨y, n⟩, eq, rq⟩ := paired_get pC hx
    have hi : i < us.length := (List.getElem?_eq_some_iff.mp hx).1
    obtain ⟨b, rfl, hb⟩ := rq.mono tk
    dsimp only at hb
    have hn : n = fc y := hok (y, n) ((hC _).mp (List.mem_of_getElem? eq))
    have htk : (C.take (i + 1)).map (·.1) = (C.take i).map (·.1) ++ [y] := by rw [take_next eq, List.map_append]; rfl
    refine ⟨b, _, rfl, SqT.of hb, rfl, _, _, rfl, _, _, rfl, rfl, ?_⟩
    refine ⟨_, rfl, .inr (.inr (.inl ⟨rfl, .inl ⟨kvs, ed⟩⟩)), _, rfl, _, rfl, d0, kvs, Sum.inr y, _, rfl, rfl, ed, by omega, fun z hz => ?_, fun hz => ?_⟩
    · refine ⟨kvs, _, _, rfl, g, tk, el', ed, ?_, by omega⟩
      rw [htk]
      exact gd.same (gd.some hz)
    · refine ⟨_, _, _, rfl, same_set g hd0, tk.trans (Tk.dk ed), by rw [upd_ne nld]; exact el', upd_same, ?_, ?_⟩
      · rw [htk]
        exact gd.put hn
      · have := length_putK kvs (Sum.inr y : Key) (.int ((n : Nat) : Int))
        omega
  · rintro σ' H' ⟨kvs, s2, s3, rfl, g, tk, el', ed, gd, le⟩
    rw [List.take_of_length_le (by omega)] at gd
    refine ⟨_, rfl, q d0 kvs H' g hd0 ed (gd.congr fun g => ?_) (by omega)⟩
    unfold gset
    rw [List.mem_map, List.mem_map]
    exact ⟨fun ⟨x, h, e⟩ => ⟨x, (hC x).mpr h, e⟩, fun ⟨x, h, e⟩ => ⟨x, (hC x).mp h, e⟩⟩
end
end K10
set_option Elab.async false
set_option linter.all false
set_option maxRecDepth 100000
set_option maxHeartbeats 4000000
namespace L2
open PySem
def kdV (kds : List (Str × Str)) : List (Key × V) := kds.map fun p => ((Sum.inr p.1 : Key), V.str p.2)
theorem some_val {kvs : List (Key × V)} {k : Key} : (valV kvs k).isSome = true ↔ ∃ p ∈ kvs, p.1 = k := by
  unfold valV
  rw [Option.isSome_map, List.find?_isSome]
  exact ⟨fun ⟨p, h, e⟩ => ⟨p, h, of_decide_eq_true e⟩, fun ⟨p, h, e⟩ => ⟨p, h, decide_eq_true e⟩⟩
theorem some_merge : ∀ (more kvs : List (Key × V)) (k : Key), (valV (mergeK kvs more) k).isSome = true ↔ (valV kvs k).isSome = true ∨ (valV more k).isSome = true
  | [], kvs, k => ⟨fun h => .inl h, fun h => h.elim id fun z => by cases z⟩
  | p :: more, kvs, k => by
    show (valV (mergeK (putK kvs p.1 p.2) more) k).isSome = true ↔ _
    rw [some_merge more, valV_put]
    rw [some_val (kvs := p :: more), some_val (kvs := more)]
    by_cases h : k = p.1
    · rw [if_pos h]
      exact ⟨fun _ => .inr ⟨p, List.mem_cons_self, h.symm⟩, fun _ => .inl rfl⟩
    · rw [if_neg h]
      constructor
      · rintro (z | ⟨q, hq, e⟩)
        · exact .inl z
        · exact .inr ⟨q, List.mem_cons_of_mem _ hq, e⟩
      · rintro (z | ⟨q, hq, e⟩)
        · exact .inl z
        · rcases List.mem_cons.mp hq with rfl | hq
          · exact absurd e.symm h
          · exact .inr ⟨q, hq, e⟩
theorem nodup_le : ∀ {ks T : List Str}, ks.Nodup → (∀ g ∈ ks, g ∈ T) → ks.length ≤ T.length
  | [], _, _, _ => Nat.zero_le _
  | k :: ks, T, nd, h => by
    obtain ⟨n1, n2⟩ := List.nodup_cons.mp nd
    have hk := h k List.mem_cons_self
    have ih := nodup_le (ks := ks) (T := T.erase k) n2 fun g hg => (List.mem_erase_of_ne (fun e => n1 (by rw [← e]; exact hg))).mpr (h g (List.mem_cons_of_mem _ hg))
    rw [List.length_erase_of_mem hk] at ih
    have := List.length_pos_of_mem hk
    rw [List.length_cons]
    omega
theorem nodup_new {ss : List Str} (nd : ss.Nodup) {i : Nat} {g : Str} (h : ss[i]? = some g) : g ∉ ss.take i := fun z => by
  obtain ⟨j, hj⟩ := List.getElem?_of_mem z
  have hji : j < i := by
    have := (List.getElem?_eq_some_iff.mp hj).1
    rw [List.length_take] at this
    omega
  rw [List.getElem?_take_of_lt hji] at hj
  exact absurd (nodup_at nd hj h) (by omega)
theorem prv_mono {H H' : Hp} (k : Tk H H') {y : V} {kv : Key × V} : PrV H y kv → PrV H' y kv
  | ⟨b, e, h⟩ => ⟨b, e, k _ _ h⟩
theorem viaP {G : Prop} {E : Hp → Prop} (A : Hp → Prop) (h : (∀ H2, A H2 → E H2) → G) (r : ∀ H2, A H2 → E H2) : G := h r
theorem viaS {G : Prop} {E : L2.St → Hp → Prop} (A : L2.St → Hp → Prop) (h : (∀ σ H2, A σ H2 → E σ H2) → G) (r : ∀ σ H2, A σ H2 → E σ H2) : G := h r
theorem kd_in (kds : List (Str × Str)) (g : Str) : (valV (mergeK [] (kdV kds)) (Sum.inr g : Key)).isSome = true ↔ g ∈ kds.map (·.1) := by
  rw [some_merge, some_val, some_val]
  constructor
  · rintro (⟨p, hp, _⟩ | ⟨p, hp, e⟩)
    · cases hp
    · unfold kdV at hp
      obtain ⟨q, hq, rfl⟩ := List.mem_map.mp hp
      exact List.mem_map.mpr ⟨q, hq, Sum.inr.inj e⟩
  · intro h
    obtain ⟨q, hq, rfl⟩ := List.mem_map.mp h
    exact .inr ⟨_, List.mem_map.mpr ⟨q, hq, rfl⟩, rfl⟩
def KdsAt (H : Hp) (ka : Addr) (kds : List (Str × Str)) : Prop := ∃ (o : Obj) (ys : List V), H ka = some (.frz o (.tup ys)) ∧ o.dict = none ∧ Paired (PrV H) ys (kdV kds)
theorem KdsAt.mono {H H' : Hp} (g : Same H H') {ka : Addr} {kds : List (Str × Str)} : KdsAt H ka kds → KdsAt H' ka kds
  | ⟨o, ys, h1, h2, h3⟩ => ⟨o, ys, g _ _ h1, h2, Paired.mapP h3 fun _ _ z => prv_mono g.tk z⟩
def loudV : List V := [.str "say", .str "ask", .str "stop"]
def Kd.loud : Kd → Bool
  | .say => true | .ask => true | .stop => true | _ => false
theorem in_loud (k : Kd) : inV (.str k.s) loudV = k.loud := by cases k <;> decide +kernel
def LoudSigns (K : PySem.W.Frag) (lv : Addr) : Prop := ∃ (o : Obj) (its : Array Value) (n : Nat), K.lookup lv = some o ∧ o.cls = .type "tuple" ∧ o.data = .seq its n ∧ its.size ≤ sizeLine ∧ Vals loudV its.toList
def quietP (t : Tr) (kds : List (Str × Str)) : Prop := ∀ p ∈ t.subs, p.kd.loud = false ∧ ∀ g as, p = .gap g as → g ∈ kds.map (·.1)
end L2
namespace K10
open PySem PySem.Spec L2 PyProof.Rows
abbrev s_is_quiet : Stmt := top 11
theorem sc_is_quiet : FnScope ["tree", "kinds", "told", "part"] ["tree", "kinds"] (defScope s_is_quiet) := ⟨rfl, rfl, rfl, by decide +kernel, rfl, by decide +kernel, by decide +kernel⟩
section
variable {P : Program} {w : World} {K : PySem.W.Frag} {mg : Str → Option Value} {base : Heap}
def sp_quiet : Sp := fun vs H Q _ => ∃ (t : Tr) (v kv : V) (kds : List (Str × Str)), vs = [v, kv] ∧ Rep H t v ∧ t.size ≤ 60 ∧ ((kv = .non ∧ kds = []) ∨ ∃ ka, kv = .ref ka ∧ KdsAt H ka kds) ∧ kds.length ≤ 300 ∧ ∀ (b : Bool) (H' : Hp), Same H H' → (b = true ↔ quietP t kds) → Q (.bl b) H'
theorem ok_quiet {k : Nat} {f g1 la : Addr} {fd gd1 : FuncData} (F : FunD K "is_quiet" "is_quiet" s_is_quiet f fd [.none]) (z_dict : mg "dict" = none) (m_LOUD_SIGNS : mg "LOUD_SIGNS" = some (.ref la)) (hL : LoudSigns K la) (G_all_parts : FnB P w K mg base k "all_parts" g1 gd1 ["tree"] sp_all) : FnOk P w K mg base CX0 (k + 1) f fd ["tree", "kinds"] sp_quiet := by
  refine F.ok sc_is_quiet (fun vs H Q E h => ?_) (fun cdv A outer s H vs Q E hr h => ?_)
  · obtain ⟨t, v, kv, kds, rfl, _⟩ := h
    rfl
  obtain ⟨t, v, kv, kds, rfl, hR, hsz, hk, hkl, q⟩ := h
  have hu := hu_of hr
  refine ⟨_, (pss_cons (ps_set (i := 2) sc_is_quiet.nd rfl (Or.inl rfl) (pe_callTy (call_dictP rfl) (by rfl) z_dict PyProof.Rows.boot_dict (pa_cons (pe_orV (pv 1) (pe_one (pe_tupF pa_nil))) pa_nil)))
    (pss_cons (ps_for PassesOwn.never rfl (pi_list (pe_call G_all_parts.ok hr (by rfl) G_all_parts.gl G_all_parts.kp G_all_parts.bd .nil pass0 (pa_cons (pv 0) pa_nil))) (pg_name (i := 3) sc_is_quiet.nd rfl (Or.inl rfl)) (pss_one (ps_if (pw_or (pt_cmpR (r := rIn K false) op_in_seq (pe_ix (r := rIxT K) ix_tup (pv 3) pe_int (fun _ _ => rfl)) (pe_glob (v := .ref _) (by rfl) m_LOUD_SIGNS (by rfl)) rfl) (pw_or1 (pw_and (pt_cmpR op_eq (pe_ix (r := rIxT K) ix_tup (pv 3) pe_int (fun _ _ => rfl)) pe_str (nomark _)) (pw_and1 (pt_cmpR (op_notInD hu) (pe_ix (r := rIxT K) ix_tup (pv 3) pe_int (fun _ _ => rfl)) (pv 2) rfl))).pt)).pt (pss_one (ps_ret pe_bl)) pss_nil)))
    (pss_one (ps_ret pe_bl)))), ?_⟩
  apply viaS (fun σ' H' => ∃ d, σ' = [some v, some kv, some (.ref d), none] ∧ Same H H' ∧ H' d = some (.dK (mergeK [] (kdV kds))))
  · intro rest
    have empty : ∀ (p : Addr) (o : Obj), H p = none → o.dict = none → kds = [] → rDictP [.ref p] (upd H p (.frz o (.tup []))) fun x H1 => ∃ d, x = .ref d ∧ Same H H1 ∧ H1 d = some (.dK (mergeK [] (kdV kds))) := by
      rintro p o hp ho rfl
      exact ⟨p, o, [], [], rfl, upd_same, ho, .nil, Nat.zero_le _, fun d hd => ⟨d, rfl, (same_upd hp).trans (same_upd hd), upd_same⟩⟩
    rcases hk with ⟨rfl, rfl⟩ | ⟨ka, rfl, o, ys, ek, ho, pk⟩
    · refine ⟨_, rfl, false, rfl, iteF ⟨Nat.zero_le _, fun p o hp ho => ?_⟩⟩
      exact ⟨p, o, [], [], rfl, upd_same, ho, .nil, Nat.zero_le _, fun d hd => rest _ _ ⟨d, rfl, (same_upd hp).trans (same_upd hd), upd_same⟩⟩
    · have ly : ys.length = kds.length := by have := Paired.length pk; rw [this]; unfold kdV; simp
      refine ⟨_, rfl, _, .inr (.inl ⟨ys, .inl (.inr ⟨o, ek⟩), rfl⟩), ite2 (fun c => ?_) (fun c => ?_)⟩
      · exact ⟨ka, o, ys, kdV kds, rfl, ek, ho, pk, by unfold kdV; rw [List.length_map]; omega, fun d hd => rest _ _ ⟨d, rfl, same_upd hd, upd_same⟩⟩
      · have e0 : kds = [] := by
          cases kds with
          | nil => rfl
          | cons _ _ =>
            cases ys with
            | nil => simp at ly
            | cons _ _ => simp at c
        subst e0
        refine ⟨Nat.zero_le _, fun p o hp ho => ?_⟩
        exact ⟨p, o, [], [], rfl, upd_same, ho, .nil, Nat.zero_le _, fun d hd => rest _ _ ⟨d, rfl, (same_upd hp).trans (same_upd hd), upd_same⟩⟩
  rintro σ' H1 ⟨d, rfl, g1, ed⟩
  refine ⟨_, rfl, t, v, rfl, hR.mono g1.tk, hsz, fun l us F H2 g2 el pF hF => ⟨l, rfl, ⟨us, SqL.of el⟩, ?_⟩⟩
  have lu : us.length = F.length := paired_len pF
  have g12 := g1.trans g2
  refine for_list (xs := us) (fun i σ' H' => ∃ (s3 : Option V), σ' = [some v, some kv, some (.ref d), s3] ∧ Same H2 H' ∧ ∀ p ∈ F.take i, p.kd.loud = false ∧ ∀ g as, p = .gap g as → g ∈ kds.map (·.1)) ?_ ?_ ?_ ?_
  · exact ⟨none, rfl, .refl _, (fun p hp => nomatch hp)⟩
  · rintro i σ' H' _ ⟨s3, rfl, g, hall⟩
    exact SqL.of (g _ _ el)
  · rintro i x σ' H' hx ⟨s3, rfl, g, hall⟩
    obtain ⟨tq, eq, rq⟩ := paired_get pF hx
    have hmem : tq ∈ t.subs := (hF tq).mp (List.mem_of_getElem? eq)
    have htk := take_next eq
    have rq' := rq.mono g.tk
    have rq0 := rq'
    obtain ⟨pa, hs, us', rfl, hpa, hhl, hparts⟩ := rq'.all
    have at0 : atI (V.str tq.kd.s :: hs ++ us') 0 = some (.str tq.kd.s) := atI_nat (j := 0) rfl
    refine ⟨_, rfl, pa, _, 0, _, rfl, rfl, SqT.of hpa, at0, la, loudV, rfl, .inr (.inr hL), rfl, rfl, _, rfl, ?_⟩
    show if inV (.str tq.kd.s) loudV = true then _ else _
    rw [in_loud]
    refine ite2 (fun c => ?_) (fun c => ?_)
    · refine iteT ?_
      refine q false _ (g12.trans g) ⟨(fun z => nomatch z), fun z => ?_⟩
      have := (z tq hmem).1
      rw [this] at c
      cases c
    · have hloud : tq.kd.loud = false := by simpa using c
      refine ⟨_, rfl, pa, _, 0, _, rfl, rfl, SqT.of hpa, at0, rfl, _, rfl, ite2 (fun c2 => ?_) (fun c2 => ?_)⟩
      · have z : tq.kd = .gap := Kd.eq_iff.mp (of_decide_eq_true c2)
        cases tq with
        | gap gx as =>
          obtain ⟨a', b', us2, e', ha', _⟩ := rq0
          cases e'
          have at1 : atI [V.str "gap", .str gx, .ref b'] 1 = some (.str gx) := atI_nat (j := 1) rfl
          refine ⟨_, rfl, pa, _, 1, _, rfl, rfl, SqT.of ha', at1, _, rfl, d, _, rfl, .inl ⟨_, Sum.inr gx, .inl (g _ _ (g2 _ _ ed)), rfl, rfl⟩, _, rfl, ite2 (fun c3 => ?_) (fun c3 => ?_)⟩
          · refine q false _ (g12.trans g) ⟨(fun z => nomatch z), fun z => ?_⟩
            have := (kd_in kds gx).mpr ((z _ hmem).2 gx as rfl)
            rw [this] at c3
            cases c3
          · refine ⟨_, rfl, g, fun p hp => ?_⟩
            rw [htk] at hp
            rcases List.mem_append.mp hp with h | h
            · exact hall p h
            · rw [List.mem_singleton.mp h]
              refine ⟨hloud, fun g' as' e => ?_⟩
              cases e
              refine (kd_in kds gx).mp ?_
              cases e9 : (valV (mergeK [] (kdV kds)) (Sum.inr gx : Key)).isSome with
              | true => rfl
              | false => exact absurd (by rw [e9]; rfl) c3
        | bin o a b => cases o <;> cases z
        | _ => cases z
      · have z : ¬ tq.kd = .gap := fun z => c2 (decide_eq_true (by rw [z]; rfl))
        refine iteF ⟨_, rfl, g, fun p hp => ?_⟩
        rw [htk] at hp
        rcases List.mem_append.mp hp with h | h
        · exact hall p h
        · rw [List.mem_singleton.mp h]
          exact ⟨hloud, fun g' as' e => absurd (by rw [e]; rfl) z⟩
  · rintro σ' H' ⟨s3, rfl, g, hall⟩
    rw [List.take_of_length_le (by omega)] at hall
    exact q true _ (g12.trans g) ⟨fun _ p hp => hall p ((hF p).mpr hp), fun _ => rfl⟩
end
end K10
set_option Elab.async false
set_option linter.all false
set_option maxRecDepth 100000
set_option maxHeartbeats 4000000
namespace L2
open PySem
def wd (ws : List Str) (i : Nat) : Str := ws.getD i ⟨#[]⟩
theorem wd_at {ws : List Str} (hl : ws.length = 6) {i : Int} (h0 : 0 ≤ i) (h1 : i < 6) : ∃ j : Nat, j < 6 ∧ (j : Int) = i ∧ atI (ws.map V.str) i = some (.str (wd ws j)) := by
  refine ⟨i.toNat, by omega, by omega, ?_⟩
  have hj : i.toNat < ws.length := by omega
  have e := atI_nat (xs := ws.map V.str) (j := i.toNat) (v := .str (wd ws i.toNat)) (by
    rw [List.getElem?_map, List.getElem?_eq_getElem hj]
    unfold wd
    rw [List.getD_eq_getElem?_getD, List.getElem?_eq_getElem hj]
    rfl)
  rwa [show ((i.toNat : Nat) : Int) = i by omega] at e
theorem wd_drop {ws : List Str} (hl : ws.length = 6) {j : Nat} (h3 : 3 ≤ j) (h6 : j < 6) : wd ws j ∈ ws.drop 3 := by
  have hj : j < ws.length := by omega
  refine List.mem_iff_getElem?.mpr ⟨j - 3, ?_⟩
  rw [List.getElem?_drop, show 3 + (j - 3) = j by omega, List.getElem?_eq_getElem hj]
  unfold wd
  rw [List.getD_eq_getElem?_getD, List.getElem?_eq_getElem hj]
  rfl
structure WC (ws : List Str) (cs : List Nat) (f : Str → Nat) : Prop where
  lw : ws.length = 6
  lc : cs.length = 6
  fw : ∀ j, j < 6 → f (wd ws j) = cs.getD j 0
  c3 : ∀ j, j < 6 → cs.getD j 0 ≤ 3
  c0 : ∀ j, 3 ≤ j → j < 6 → cs.getD j 0 = 0
def numV (cs : List Nat) : List V := cs.map fun (n : Nat) => V.int (n : Int)
def LfOk (f : Str → Nat) (S : List Str) (p : Tr) : Prop := ∀ g as, p = .gap g as → as.length ≤ 3 ∧ as.length = f g ∧ g ∈ S ∧ ∀ h, Atom.gap h ∈ as → f h = 0 ∧ h ∈ S.drop 3
def AllOk (f : Str → Nat) (S : List Str) (t : Tr) : Prop := ∀ p ∈ t.subs, LfOk f S p
theorem LfOk.not {f : Str → Nat} {S : List Str} {p : Tr} (h : ¬ p.kd = .gap) : LfOk f S p := fun g as e => absurd (by rw [e]; rfl) h
theorem AllOk.leaf {f : Str → Nat} {S : List Str} {t : Tr} (h : t.parts = []) (k : LfOk f S t) : AllOk f S t := fun p hp => by
  rw [subs_eq, h] at hp
  simp at hp
  subst hp
  exact k
theorem AllOk.node {f : Str → Nat} {S : List Str} {t : Tr} (h : ¬ t.kd = .gap) (k : ∀ q ∈ t.parts, AllOk f S q) : AllOk f S t := fun p hp => by
  rw [subs_eq] at hp
  rcases List.mem_cons.mp hp with rfl | hp
  · exact .not h
  · obtain ⟨q, hq, hp⟩ := List.mem_flatMap.mp hp
    exact k q hq p hp
end L2
namespace K10
open PySem PySem.Spec L2 PyProof.Rows
abbrev s_law_atoms : Stmt := top 16
theorem sc_law_atoms : FnScope ["_law_cell", "_law_words_here", "_law_many", "_law_atoms_here", "_law_k", "_law_way"] ["_law_cell", "_law_words_here", "_law_many"] (defScope s_law_atoms) := ⟨rfl, rfl, rfl, by decide +kernel, rfl, by decide +kernel, by decide +kernel⟩
abbrev s_law_leaf : Stmt := top 17
theorem sc_law_leaf : FnScope ["_law_cell", "_law_words_here", "_law_counts", "_law_loud_here", "_law_way", "_law_k"] ["_law_cell", "_law_words_here", "_law_counts", "_law_loud_here"] (defScope s_law_leaf) := ⟨rfl, rfl, rfl, by decide +kernel, rfl, by decide +kernel, by decide +kernel⟩
abbrev s_law_shape : Stmt := top 18
theorem sc_law_shape : FnScope ["_law_cells", "_law_words_here", "_law_counts", "_law_loud_here", "_law_cell", "_law_rest", "_law_sign", "_law_cut", "_law_one", "_law_other"] ["_law_cells", "_law_words_here", "_law_counts", "_law_loud_here"] (defScope s_law_shape) := ⟨rfl, rfl, rfl, by decide +kernel, rfl, by decide +kernel, by decide +kernel⟩
section
variable {P : Program} {w : World} {K : PySem.W.Frag} {mg : Str → Option Value} {base : Heap}
def sp_atoms : Sp := fun vs H Q _ => ∃ (c : Int) (wl : Addr) (m : Nat) (ws : List Str), vs = [.int c, .ref wl, .int (m : Int)] ∧ m ≤ 3 ∧ H wl = some (.lst (ws.map V.str)) ∧ ws.length = 6 ∧
  ∀ (p : Addr) (us : List V) (as : List Atom) (H' : Hp), Same H H' → H' p = some (.tup us) → Paired (AtRep H') as us → as.length = m → (∀ h, Atom.gap h ∈ as → h ∈ ws.drop 3) → Q (.ref p) H'
theorem ok_atoms {k : Nat} {f : Addr} {fd : FuncData} (F : Fun K "_law_atoms" "_law_atoms" s_law_atoms f fd) (z_range : mg "range" = none) (z_tuple : mg "tuple" = none) : FnOk P w K mg base CX0 (k + 1) f fd ["_law_cell", "_law_words_here", "_law_many"] sp_atoms := by
  refine F.ok sc_law_atoms (fun vs H Q E h => ?_) (fun cdv A outer s H vs Q E hr h => ?_)
  · obtain ⟨c, wl, m, ws, rfl, _⟩ := h
    rfl
  obtain ⟨c, wl, m, ws, rfl, hm, hw, hl, q⟩ := h
  refine ⟨_, (pss_cons (ps_set (i := 3) sc_law_atoms.nd rfl (Or.inl rfl) (pe_lst pa_nil : PE _ _ _))
    (pss_cons (ps_for PassesOwn.never rfl (pi_range1 (by rfl) z_range (pa_cons (pv 2) pa_nil)) (pg_name (i := 4) sc_law_atoms.nd rfl (Or.inl rfl)) (pss_cons (ps_set (i := 5) sc_law_atoms.nd rfl (Or.inl rfl) (pe_op op_mod (pe_op op_fdiv (pv 0) (pe_op op_add (pv 4) pe_int)) pe_int))
    (pss_one (ps_if (pt_cmpR op_eq (pv 5) pe_int (nomark _)) (pss_one (ps_expr (pe_bm PySem.F.plainAttrs_list PySem.F.slot_list_append PySem.F.type_list_append mt_append (pv 3) (pa_cons (pe_tup (pa_cons pe_str (pa_cons (pe_ix (r := rIxL K) ix_list (pv 1) (pe_op op_mod (pe_op op_add (pe_op op_fdiv (pv 0) pe_int) (pv 4)) pe_int) (fun _ _ => rfl)) pa_nil)) : PE _ _ _) pa_nil)))) (pss_one (ps_if (pt_cmpR op_eq (pv 5) pe_int (nomark _)) (pss_one (ps_expr (pe_bm PySem.F.plainAttrs_list PySem.F.slot_list_append PySem.F.type_list_append mt_append (pv 3) (pa_cons (pe_tup (pa_cons pe_str (pa_cons (pe_op op_mod (pe_op op_mul (pv 0) (pe_op op_add (pv 4) pe_int)) (pe_op op_pow pe_int pe_int)) pa_nil)) : PE _ _ _) pa_nil)))) (pss_one (ps_expr (pe_bm PySem.F.plainAttrs_list PySem.F.slot_list_append PySem.F.type_list_append mt_append (pv 3) (pa_cons (pe_tup (pa_cons pe_str (pa_cons (pe_ix (r := rIxL K) ix_list (pv 1) (pe_op op_add pe_int (pe_op op_mod (pe_op op_add (pe_op op_fdiv (pv 0) pe_int) (pv 4)) pe_int)) (fun _ _ => rfl)) (pa_cons (pe_tup pa_nil : PE _ _ _) pa_nil))) : PE _ _ _) pa_nil))))))))))
    (pss_one (ps_ret (pe_callTy call_tuple_of (by rfl) z_tuple PyProof.Rows.boot_tuple (pa_cons (pv 3) pa_nil)))))), ?_⟩
  have z3 : (0 : Int) < 3 := by decide
  have d2 : 2 ≤ sizeLine := by decide
  have d3 : 3 ≤ sizeLine := by decide
  refine ⟨(by show 0 ≤ sizeLine; decide), fun lo hlo => ?_⟩
  have g0 := same_upd (o := .lst []) hlo
  refine ⟨_, rfl, (m : Int), rfl, by omega, by omega, ?_⟩
  refine for_range (n := ((m : Nat) : Int).toNat) (fun i σ' H' => ∃ (us : List V) (as : List Atom) (s4 s5 : Option V), σ' = [some (.int c), some (.ref wl), some (.int (m : Int)), some (.ref lo), s4, s5] ∧ Same H H' ∧ H' lo = some (.lst us) ∧ Paired (AtRep H') as us ∧ as.length = i ∧ (∀ h, Atom.gap h ∈ as → h ∈ ws.drop 3)) ⟨[], [], none, none, rfl, g0, upd_same, .nil, rfl, (fun h hh => nomatch hh)⟩ ?_ ?_
  · rintro i σ' H' hi ⟨us, as, s4, s5, rfl, g, el, pa, la, hg⟩
    have hi3 : i < m := by simpa using hi
    have lu : us.length = as.length := paired_len pa
    have more : ∀ (a : Atom) (u : V) (H3 : Hp), Same H' H3 → AtRep H3 a u → (∀ h, a = .gap h → h ∈ ws.drop 3) → Same H (upd H3 lo (.lst (us ++ [u]))) ∧ Paired (AtRep (upd H3 lo (.lst (us ++ [u])))) (as ++ [a]) (us ++ [u]) ∧ (as ++ [a]).length = i + 1 ∧ (∀ h, Atom.gap h ∈ as ++ [a] → h ∈ ws.drop 3) := by
      intro a u H3 g3 ra ha
      have tk : Tk H3 (upd H3 lo (.lst (us ++ [u]))) := Tk.lst (g3 _ _ el)
      refine ⟨same_set (g.trans g3) hlo, paired_append (Paired.mapP pa fun _ _ z => z.mono (g3.tk.trans tk)) (.cons (ra.mono tk) .nil), by simp [la], fun h hh => ?_⟩
      rcases List.mem_append.mp hh with z | z
      · exact hg h z
      · exact ha h (List.mem_singleton.mp z).symm
    refine ⟨_, rfl, _, rfl, _, _, rfl, rfl, _, _, rfl, rfl, ⟨(show (0 : Int) < 0 + (i : Int) + 1 by omega), (show (0 : Int) + (i : Int) + 1 < 1073741824 by omega)⟩, _, _, rfl, rfl, z3, ?_⟩
    dsimp only
    generalize c / (0 + (i : Int) + 1) % 3 = way
    refine ⟨_, rfl, rfl, _, rfl, ite2 (fun _ => ?_) (fun _ => ?_)⟩
    · have m0 := Int.emod_nonneg (c / 3 + (0 + (i : Int))) (show (6 : Int) ≠ 0 by decide)
      have m1 := Int.emod_lt_of_pos (c / 3 + (0 + (i : Int))) (show (0 : Int) < 6 by decide)
      obtain ⟨j, hj, ej, atj⟩ := wd_at hl m0 m1
      refine ⟨_, rfl, .inl ⟨rfl, _, SqL.of el⟩, _, rfl, _, rfl, _, _, rfl, rfl, ⟨z3, (show (3 : Int) < 1073741824 by decide)⟩, _, rfl, _, _, rfl, rfl, _, _, rfl, rfl, (show (0 : Int) < 6 by decide), wl, _, _, _, rfl, rfl, SqL.of (g _ _ hw), atj, d2, fun pt hpt => ?_⟩
      have k1 := same_upd (o := .tup [.str "name", .str (wd ws j)]) hpt
      obtain ⟨q1, q2, q3, q4⟩ := more (.name (wd ws j)) (.ref pt) _ k1 ⟨pt, rfl, upd_same⟩ (fun h e => nomatch e)
      exact ⟨lo, us, _, rfl, rfl, k1 _ _ el, small1000 (by omega), _, _, _, _, rfl, q1, upd_same, q2, q3, q4⟩
    · refine ⟨_, rfl, rfl, _, rfl, ite2 (fun _ => ?_) (fun _ => ?_)⟩
      · refine ⟨_, rfl, .inl ⟨rfl, _, SqL.of el⟩, _, rfl, _, rfl, _, _, rfl, rfl, _, _, rfl, rfl, .inr ⟨by omega, by omega⟩, _, _, rfl, rfl, ⟨by decide, by decide, by decide⟩, _, _, rfl, rfl, (show (0 : Int) < 10 ^ 30 by decide), d2, fun pt hpt => ?_⟩
        have k1 := same_upd (o := .tup [.str "num", .int (c * (0 + (i : Int) + 1) % 10 ^ (30 : Int).toNat)]) hpt
        obtain ⟨q1, q2, q3, q4⟩ := more (.num (c * (0 + (i : Int) + 1) % 10 ^ (30 : Int).toNat)) (.ref pt) _ k1 ⟨pt, rfl, upd_same⟩ (fun h e => nomatch e)
        exact ⟨lo, us, _, rfl, rfl, k1 _ _ el, small1000 (by omega), _, _, _, _, rfl, q1, upd_same, q2, q3, q4⟩
      · have m0 := Int.emod_nonneg (c / 3 + (0 + (i : Int))) (show (3 : Int) ≠ 0 by decide)
        have m1 := Int.emod_lt_of_pos (c / 3 + (0 + (i : Int))) (show (0 : Int) < 3 by decide)
        obtain ⟨j, hj, ej, atj⟩ := wd_at hl (i := 3 + (c / 3 + (0 + (i : Int))) % 3) (by omega) (by omega)
        refine ⟨_, rfl, .inl ⟨rfl, _, SqL.of el⟩, _, rfl, _, rfl, _, _, rfl, rfl, ⟨z3, (show (3 : Int) < 1073741824 by decide)⟩, _, rfl, _, _, rfl, rfl, _, _, rfl, rfl, z3, _, _, rfl, rfl, wl, _, _, _, rfl, rfl, SqL.of (g _ _ hw), atj, (by show 0 ≤ sizeLine; decide), fun pe hpe => ⟨d3, fun pt hpt => ?_⟩⟩
        have k1 := same_upd (o := .tup []) hpe
        have k2 := same_upd (o := .tup [.str "gap", .str (wd ws j), .ref pe]) hpt
        obtain ⟨q1, q2, q3, q4⟩ := more (.gap (wd ws j)) (.ref pt) _ (k1.trans k2) ⟨pt, pe, rfl, upd_same, k2 _ _ upd_same⟩ (fun h e => by cases e; exact wd_drop hl (by omega) hj)
        exact ⟨lo, us, _, rfl, rfl, k2 _ _ (k1 _ _ el), small1000 (by omega), _, _, _, _, rfl, q1, upd_same, q2, q3, q4⟩
  · rintro σ' H' ⟨us, as, s4, s5, rfl, g, el, pa, la, hg⟩
    refine ⟨_, rfl, lo, us, rfl, .inl ⟨SqL.of el, fun p hp => ?_⟩⟩
    have k1 := same_upd (o := .tup us) hp
    exact q p us as _ (g.trans k1) upd_same (Paired.mapP pa fun _ _ z => z.mono k1.tk) (by rw [la]; simp) hg
def sp_leaf : Sp := fun vs H Q _ => ∃ (c : Int) (wl cl : Addr) (lo : Bool) (ws : List Str) (cs : List Nat) (f : Str → Nat), vs = [.int c, .ref wl, .ref cl, .bl lo] ∧ H wl = some (.lst (ws.map V.str)) ∧ H cl = some (.lst (numV cs)) ∧ WC ws cs f ∧
  ∀ (t : Tr) (v : V) (H' : Hp), Same H H' → Rep H' t v → t.size = 1 → AllOk f ws t → Q v H'
theorem ok_leaf {k : Nat} {f g1 : Addr} {fd gd1 : FuncData} (F : Fun K "_law_leaf" "_law_leaf" s_law_leaf f fd) (G_law_atoms : FnB P w K mg base k "_law_atoms" g1 gd1 ["_law_cell", "_law_words_here", "_law_many"] sp_atoms) : FnOk P w K mg base CX0 (k + 1) f fd ["_law_cell", "_law_words_here", "_law_counts", "_law_loud_here"] sp_leaf := by
  refine F.ok sc_law_leaf (fun vs H Q E h => ?_) (fun cdv A outer s H vs Q E hr h => ?_)
  · obtain ⟨c, wl, cl, lo, ws, cs, f, rfl, _⟩ := h
    rfl
  obtain ⟨c, wl, cl, lo, ws, cs, fc, rfl, hw, hc, wc, q⟩ := h
  refine ⟨_, (Sd.un (pss_consS (ps_setS (i := 4) sc_law_leaf.nd rfl (Or.inl rfl) ⟨pe_op op_mod (pv 0) pe_int⟩)
    (pss_consS (ps_ifS ⟨pt_cmpR op_eq (pv 4) pe_int (nomark _)⟩ (pss_oneS (ps_retS (pe_tupS (pa_consS ⟨pe_str⟩ (pa_consS ⟨pe_op op_mod (pe_op op_fdiv (pv 0) pe_int) (pe_op op_pow pe_int pe_int)⟩ ⟨pa_nil⟩))))) ⟨pss_nil⟩)
    (pss_consS (ps_ifS ⟨(pw_and (pt_cmpR op_eq (pv 4) pe_int (nomark _)) (pw_and1 (pt_truth (pv 3) (fun _ => rfl)))).pt⟩ (pss_oneS (ps_retS (pe_tupS (pa_consS (pe_ixS (r := rIxL K) ix_list (pe_lstS (pa_consS ⟨pe_str⟩ (pa_consS ⟨pe_str⟩ ⟨pa_nil⟩))) ⟨pe_op op_mod (pe_op op_fdiv (pv 0) pe_int) pe_int⟩ (fun _ _ => rfl)) (pa_consS (pe_ixS (r := rIxL K) ix_list ⟨pv 1⟩ ⟨pe_op op_mod (pe_op op_fdiv (pv 0) pe_int) pe_int⟩ (fun _ _ => rfl)) ⟨pa_nil⟩))))) ⟨pss_nil⟩)
    (pss_consS (ps_ifS ⟨pt_cmpR op_lt (pv 4) pe_int (nomark _)⟩ (pss_oneS (ps_retS (pe_tupS (pa_consS ⟨pe_str⟩ (pa_consS (pe_ixS (r := rIxL K) ix_list ⟨pv 1⟩ ⟨pe_op op_mod (pe_op op_fdiv (pv 0) pe_int) pe_int⟩ (fun _ _ => rfl)) ⟨pa_nil⟩))))) ⟨pss_nil⟩)
    (pss_consS (ps_setS (i := 5) sc_law_leaf.nd rfl (Or.inl rfl) ⟨pe_op op_mod (pe_op op_fdiv (pv 0) pe_int) pe_int⟩)
    (pss_oneS (ps_retS (pe_tupS (pa_consS ⟨pe_str⟩ (pa_consS (pe_ixS (r := rIxL K) ix_list ⟨pv 1⟩ ⟨pv 5⟩ (fun _ _ => rfl)) (pa_consS ⟨pe_call G_law_atoms.ok hr (by rfl) G_law_atoms.gl G_law_atoms.kp G_law_atoms.bd .nil pass0 (pa_cons (pe_op op_mod (pe_op op_fdiv (pv 0) pe_int) (pe_op op_pow pe_int pe_int)) (pa_cons (pv 1) (pa_cons (pe_ix (r := rIxL K) ix_list (pv 2) (pv 5) (fun _ _ => rfl)) pa_nil)))⟩ ⟨pa_nil⟩)))))))))))), ?_⟩
  have z7 : (0 : Int) < 7 := by decide
  have z6 : (0 : Int) < 6 := by decide
  have f7 : (0 : Int) < 7 ∧ (7 : Int) < 1073741824 := ⟨by decide, by decide⟩
  have d2 : 2 ≤ sizeLine := by decide
  have d3 : 3 ≤ sizeLine := by decide
  have pick : ∀ z : Int, ∃ j : Nat, j < 6 ∧ (j : Int) = z % 6 ∧ atI (ws.map V.str) (z % 6) = some (.str (wd ws j)) := fun z => wd_at wc.lw (Int.emod_nonneg z (by decide)) (Int.emod_lt_of_pos z z6)
  refine ⟨_, rfl, _, _, rfl, rfl, z7, ?_⟩
  dsimp only
  generalize c % 7 = way
  refine ⟨_, rfl, rfl, _, rfl, ite2 (fun _ => ?_) (fun _ => ?_)⟩
  · refine ⟨_, rfl, _, _, rfl, rfl, f7, _, _, rfl, rfl, ⟨by decide, by decide, by decide⟩, _, _, rfl, rfl, (show (0 : Int) < 10 ^ 30 by decide), d2, fun p hp => ?_⟩
    exact q (.num (c / 7 % 10 ^ (30 : Int).toNat)) _ _ (same_upd hp) ⟨p, rfl, upd_same⟩ rfl (.leaf rfl (.not (fun h => by cases h)))
  apply viaP (fun H2 => Same H H2)
  · intro rest
    refine ⟨_, rfl, rfl, _, rfl, ite2 (fun _ => ?_) (fun _ => iteF (rest H (.refl _)))⟩
    refine ⟨_, rfl, _, rfl, ite2 (fun _ => ?_) (fun _ => rest H (.refl _))⟩
    refine ⟨d2, fun pl hpl => ?_⟩
    have k1 := same_upd (o := .lst [.str "ask", .str "stop"]) hpl
    obtain ⟨j, hj, ej, atj⟩ := pick (c / 14)
    have m0 := Int.emod_nonneg (c / 7) (show (2 : Int) ≠ 0 by decide)
    have m1 := Int.emod_lt_of_pos (c / 7) (show (0 : Int) < 2 by decide)
    have h2 : c / 7 % 2 = 0 ∨ c / 7 % 2 = 1 := by omega
    have f14 : (0 : Int) < 14 ∧ (14 : Int) < 1073741824 := ⟨by decide, by decide⟩
    have atl : ∃ t : Tr, t.parts = [] ∧ t.size = 1 ∧ ¬ t.kd = .gap ∧ ∃ k : Str, atI [V.str "ask", .str "stop"] (c / 7 % 2) = some (.str k) ∧ ∀ (H' : Hp) (p : Addr), H' p = some (.tup [.str k, .str (wd ws j)]) → Rep H' t (.ref p) := by
      rcases h2 with h | h
      · rw [h]
        exact ⟨.ask (wd ws j), rfl, rfl, (fun h => by cases h), "ask", rfl, fun H' p hp => ⟨p, rfl, hp⟩⟩
      · rw [h]
        exact ⟨.stop (wd ws j), rfl, rfl, (fun h => by cases h), "stop", rfl, fun H' p hp => ⟨p, rfl, hp⟩⟩
    obtain ⟨t, t1, t2, t3, kx, atk, rep⟩ := atl
    refine ⟨_, rfl, _, _, rfl, rfl, f7, _, _, rfl, rfl, (show (0 : Int) < 2 by decide), pl, _, _, _, rfl, rfl, SqL.of upd_same, atk, _, rfl, _, rfl, _, _, rfl, rfl, f14, _, _, rfl, rfl, z6, wl, _, _, _, rfl, rfl, SqL.of (k1 _ _ hw), atj, d2, fun p hp => ?_⟩
    exact q t _ _ (k1.trans (same_upd hp)) (rep _ p upd_same) t2 (.leaf t1 (.not t3))
  intro H1 g1
  refine ⟨_, rfl, _, _, rfl, rfl, _, rfl, ite2 (fun _ => ?_) (fun _ => ?_)⟩
  · obtain ⟨j, hj, ej, atj⟩ := pick (c / 7)
    refine ⟨_, rfl, _, rfl, _, _, rfl, rfl, f7, _, _, rfl, rfl, z6, wl, _, _, _, rfl, rfl, SqL.of (g1 _ _ hw), atj, d2, fun p hp => ?_⟩
    exact q (.name (wd ws j)) _ _ (g1.trans (same_upd hp)) ⟨p, rfl, upd_same⟩ rfl (.leaf rfl (.not (fun h => by cases h)))
  · obtain ⟨j, hj, ej, atj⟩ := pick (c / 7)
    have atc : atI (numV cs) (c / 7 % 6) = some (.int ((cs.getD j 0 : Nat) : Int)) := by
      rw [← ej]
      refine atI_nat ?_
      have hj' : j < cs.length := by rw [wc.lc]; exact hj
      unfold numV
      rw [List.getElem?_map, List.getElem?_eq_getElem hj', List.getD_eq_getElem?_getD, List.getElem?_eq_getElem hj']
      rfl
    have f42 : (0 : Int) < 42 ∧ (42 : Int) < 1073741824 := ⟨by decide, by decide⟩
    refine ⟨_, rfl, _, _, rfl, rfl, f7, _, _, rfl, rfl, z6, ?_⟩
    refine ⟨_, rfl, _, rfl, wl, _, _, _, rfl, rfl, SqL.of (g1 _ _ hw), atj, _, rfl, _, _, rfl, rfl, f42, _, _, rfl, rfl, ⟨by decide, by decide, by decide⟩, _, _, rfl, rfl, (show (0 : Int) < 10 ^ 60 by decide), _, rfl, _, rfl, _, rfl, cl, _, _, _, rfl, rfl, SqL.of (g1 _ _ hc), atc, ?_⟩
    refine ⟨_, wl, cs.getD j 0, ws, rfl, wc.c3 j hj, g1 _ _ hw, wc.lw, fun p us as H2 g2 ep pa la hg => ⟨d3, fun pt hpt => ?_⟩⟩
    have k3 := same_upd (o := .tup [.str "gap", .str (wd ws j), .ref p]) hpt
    have lu : us.length = as.length := paired_len pa
    have h3 := wc.c3 j hj
    refine q (.gap (wd ws j) as) _ _ (g1.trans (g2.trans k3)) ⟨pt, p, us, rfl, upd_same, k3 _ _ ep, by omega, Paired.mapP pa fun _ _ z => z.mono k3.tk⟩ rfl (.leaf rfl fun g' as' e => ?_)
    cases e
    refine ⟨by omega, by rw [la, wc.fw j hj], ?_, fun h hh => ⟨?_, hg h hh⟩⟩
    · have hj' : j < ws.length := by rw [wc.lw]; exact hj
      unfold wd
      rw [List.getD_eq_getElem?_getD, List.getElem?_eq_getElem hj']
      exact List.getElem_mem hj'
    obtain ⟨i, hi⟩ := List.mem_iff_getElem?.mp (hg h hh)
    rw [List.getElem?_drop] at hi
    have hi6 : 3 + i < ws.length := (List.getElem?_eq_some_iff.mp hi).1
    have ew : wd ws (3 + i) = h := by unfold wd; rw [List.getD_eq_getElem?_getD, hi]; rfl
    rw [← ew, wc.fw _ (by rw [wc.lw] at hi6; exact hi6)]
    exact wc.c0 _ (by omega) (by rw [wc.lw] at hi6; exact hi6)
def sp_shape (K : PySem.W.Frag) (n : Nat) : Sp := fun vs H Q _ => ∃ (a wl cl : Addr) (lo : Bool) (cells : List Int) (ws : List Str) (cs : List Nat) (f : Str → Nat), vs = [.ref a, .ref wl, .ref cl, .bl lo] ∧ SqL K H a (cells.map V.int) ∧ 1 ≤ cells.length ∧ cells.length ≤ n ∧ n ≤ 18 ∧ H wl = some (.lst (ws.map V.str)) ∧ H cl = some (.lst (numV cs)) ∧ WC ws cs f ∧
  ∀ (t : Tr) (v : V) (H' : Hp), Same H H' → Rep H' t v → t.size + 1 ≤ 2 * cells.length → AllOk f ws t → Q v H'
theorem cut_one (cells : List Int) : cutV (cells.map V.int) (some 1) none = (cells.drop 1).map V.int := by
  cases cells with
  | nil => rfl
  | cons c r =>
    have e1 : HT.sIx ((c :: r).map V.int).length 0 (some 1) = 1 := by
      have := HT.sIx_nat ((c :: r).map V.int).length 0 1
      rw [show ((1 : Nat) : Int) = 1 from rfl] at this
      rw [this]
      simp
    unfold cutV
    rw [e1, HT.sIx_none]
    simp
    exact List.take_of_length_le (by simp)
theorem cut_lo (xs : List Int) (i : Nat) (h : i ≤ xs.length) : cutV (xs.map V.int) none (some (i : Int)) = (xs.take i).map V.int := by
  have e : HT.sIx (xs.map V.int).length 0 none = 0 := rfl
  unfold cutV
  rw [e, HT.sIx_nat, List.length_map, Nat.min_eq_left h]
  simp
theorem cut_up (xs : List Int) (i : Nat) (h : i ≤ xs.length) : cutV (xs.map V.int) (some (i : Int)) none = (xs.drop i).map V.int := by
  unfold cutV
  rw [HT.sIx_nat, HT.sIx_none, List.length_map, Nat.min_eq_left h]
  rw [← List.map_drop]
  exact List.take_of_length_le (by simp)
theorem signPick (z : Int) : ∃ s : Str, atI [V.str "add", .str "let", .str "if", .str "mul", .str "say", .str "sub", .str "then", .str "say"] (z % 8) = some (.str s) ∧ ((∃ o : Bin, s = o.s) ∨ s = "let" ∨ s = "if" ∨ s = "say") := by
  have h0 := Int.emod_nonneg z (show (8 : Int) ≠ 0 by decide)
  have h1 := Int.emod_lt_of_pos z (show (0 : Int) < 8 by decide)
  have h : z % 8 = 0 ∨ z % 8 = 1 ∨ z % 8 = 2 ∨ z % 8 = 3 ∨ z % 8 = 4 ∨ z % 8 = 5 ∨ z % 8 = 6 ∨ z % 8 = 7 := by omega
  rcases h with h | h | h | h | h | h | h | h <;> rw [h]
  · exact ⟨"add", rfl, .inl ⟨.add, rfl⟩⟩
  · exact ⟨"let", rfl, .inr (.inl rfl)⟩
  · exact ⟨"if", rfl, .inr (.inr (.inl rfl))⟩
  · exact ⟨"mul", rfl, .inl ⟨.mul, rfl⟩⟩
  · exact ⟨"say", rfl, .inr (.inr (.inr rfl))⟩
  · exact ⟨"sub", rfl, .inl ⟨.sub, rfl⟩⟩
  · exact ⟨"then", rfl, .inl ⟨.thn, rfl⟩⟩
  · exact ⟨"say", rfl, .inr (.inr (.inr rfl))⟩
theorem ok_shape {k n : Nat} {f g1 : Addr} {fd gd1 : FuncData} (F : Fun K "_law_shape" "_law_shape" s_law_shape f fd) (z_len : mg "len" = none) (G_law_leaf : FnB P w K mg base k "_law_leaf" g1 gd1 ["_law_cell", "_law_words_here", "_law_counts", "_law_loud_here"] sp_leaf)
    (G_law_shape : FnB P w K mg base k "_law_shape" f fd ["_law_cells", "_law_words_here", "_law_counts", "_law_loud_here"] (sp_shape K n)) : FnOk P w K mg base CX0 (k + 1) f fd ["_law_cells", "_law_words_here", "_law_counts", "_law_loud_here"] (sp_shape K (n + 1)) := by
  refine F.ok sc_law_shape (fun vs H Q E h => ?_) (fun cdv A outer s H vs Q E hr h => ?_)
  · obtain ⟨a, wl, cl, lo, cells, ws, cs, f, rfl, _⟩ := h
    rfl
  obtain ⟨a, wl, cl, lo, cells, ws, cs, fc, rfl, hS, h1, hn, h18, hw, hc, wc, q⟩ := h
  refine ⟨_, (Sd.un (pss_consS (ps_setS (i := 4) sc_law_shape.nd rfl (Or.inl rfl) (pe_ixS (r := rIxL K) ix_list ⟨pv 0⟩ ⟨pe_int⟩ (fun _ _ => rfl)))
    (pss_consS (ps_setS (i := 5) sc_law_shape.nd rfl (Or.inl rfl) ⟨pe_slice (r := rSlL K) sl_list (pv 0) (po_some pe_int) po_none⟩)
    (pss_consS (ps_ifS ⟨pt_cmpR op_eq (pe_callB call_len_seq (by rfl) z_len PySem.boot_len (pa_cons (pv 5) pa_nil)) pe_int (nomark _)⟩ (pss_oneS (ps_retS ⟨pe_call G_law_leaf.ok hr (by rfl) G_law_leaf.gl G_law_leaf.kp G_law_leaf.bd .nil pass0 (pa_cons (pv 4) (pa_cons (pv 1) (pa_cons (pv 2) (pa_cons (pv 3) pa_nil))))⟩)) ⟨pss_nil⟩)
    (pss_consS (ps_setS (i := 6) sc_law_shape.nd rfl (Or.inl rfl) (pe_ixS (r := rIxL K) ix_list ⟨pe_lstR [.str "add", .str "let", .str "if", .str "mul", .str "say", .str "sub", .str "then", .str "say"] (by rfl)⟩ ⟨pe_op op_mod (pv 4) pe_int⟩ (fun _ _ => rfl)))
    (pss_consS (ps_ifS ⟨(pw_or (pt_cmpR op_eq (pe_callB call_len_seq (by rfl) z_len PySem.boot_len (pa_cons (pv 5) pa_nil)) pe_int (nomark _)) (pw_or1 (pt_cmpR op_eq (pv 6) pe_str (nomark _)))).pt⟩ (pss_consS (ps_ifS ⟨pt_truth (pv 3) (fun _ => rfl)⟩ (pss_oneS (ps_retS (pe_tupS (pa_consS ⟨pe_str⟩ (pa_consS ⟨pe_call G_law_shape.ok hr (by rfl) G_law_shape.gl G_law_shape.kp G_law_shape.bd .nil pass0 (pa_cons (pv 5) (pa_cons (pv 1) (pa_cons (pv 2) (pa_cons (pv 3) pa_nil))))⟩ ⟨pa_nil⟩))))) ⟨pss_nil⟩)
    (pss_oneS (ps_retS (pe_tupS (pa_consS ⟨pe_str⟩ (pa_consS (pe_tupS (pa_consS ⟨pe_str⟩ (pa_consS (pe_ixS (r := rIxL K) ix_list ⟨pv 1⟩ ⟨pe_op op_mod (pe_op op_fdiv (pv 4) pe_int) pe_int⟩ (fun _ _ => rfl)) ⟨pa_nil⟩))) (pa_consS ⟨pe_call G_law_shape.ok hr (by rfl) G_law_shape.gl G_law_shape.kp G_law_shape.bd .nil pass0 (pa_cons (pv 5) (pa_cons (pv 1) (pa_cons (pv 2) (pa_cons (pv 3) pa_nil))))⟩ ⟨pa_nil⟩))))))) ⟨pss_nil⟩)
    (pss_consS (ps_setS (i := 7) sc_law_shape.nd rfl (Or.inl rfl) ⟨pe_op op_add pe_int (pe_op op_mod (pe_op op_fdiv (pv 4) pe_int) (pe_op op_sub (pe_callB call_len_seq (by rfl) z_len PySem.boot_len (pa_cons (pv 5) pa_nil)) pe_int))⟩)
    (pss_consS (ps_setS (i := 8) sc_law_shape.nd rfl (Or.inl rfl) ⟨pe_call G_law_shape.ok hr (by rfl) G_law_shape.gl G_law_shape.kp G_law_shape.bd .nil pass0 (pa_cons (pe_slice (r := rSlL K) sl_list (pv 5) po_none (po_some (pv 7))) (pa_cons (pv 1) (pa_cons (pv 2) (pa_cons (pv 3) pa_nil))))⟩)
    (pss_consS (ps_setS (i := 9) sc_law_shape.nd rfl (Or.inl rfl) ⟨pe_call G_law_shape.ok hr (by rfl) G_law_shape.gl G_law_shape.kp G_law_shape.bd .nil pass0 (pa_cons (pe_slice (r := rSlL K) sl_list (pv 5) (po_some (pv 7)) po_none) (pa_cons (pv 1) (pa_cons (pv 2) (pa_cons (pv 3) pa_nil))))⟩)
    (pss_consS (ps_ifS ⟨pt_cmpR op_eq (pv 6) pe_str (nomark _)⟩ (pss_oneS (ps_retS (pe_tupS (pa_consS ⟨pe_str⟩ (pa_consS (pe_ixS (r := rIxL K) ix_list ⟨pv 1⟩ ⟨pe_op op_mod (pe_op op_fdiv (pv 4) pe_int) pe_int⟩ (fun _ _ => rfl)) (pa_consS ⟨pv 8⟩ (pa_consS ⟨pv 9⟩ ⟨pa_nil⟩))))))) ⟨pss_nil⟩)
    (pss_consS (ps_ifS ⟨pt_cmpR op_eq (pv 6) pe_str (nomark _)⟩ (pss_oneS (ps_retS (pe_tupS (pa_consS ⟨pe_str⟩ (pa_consS ⟨pv 8⟩ (pa_consS (pe_tupS (pa_consS ⟨pe_str⟩ (pa_consS ⟨pe_op op_mod (pe_op op_fdiv (pv 4) pe_int) (pe_op op_pow pe_int pe_int)⟩ ⟨pa_nil⟩))) (pa_consS ⟨pv 9⟩ ⟨pa_nil⟩))))))) ⟨pss_nil⟩)
    (pss_oneS (ps_retS (pe_tupS (pa_consS ⟨pv 6⟩ (pa_consS ⟨pv 8⟩ (pa_consS ⟨pv 9⟩ ⟨pa_nil⟩))))))))))))))))), ?_⟩
  have z0 : 0 ≤ sizeLine := Nat.zero_le _
  have d2 : 2 ≤ sizeLine := by decide
  have d3 : 3 ≤ sizeLine := by decide
  have d4 : 4 ≤ sizeLine := by decide
  have z6 : (0 : Int) < 6 := by decide
  have pick : ∀ z : Int, ∃ j : Nat, j < 6 ∧ (j : Int) = z % 6 ∧ atI (ws.map V.str) (z % 6) = some (.str (wd ws j)) := fun z => wd_at wc.lw (Int.emod_nonneg z (by decide)) (Int.emod_lt_of_pos z z6)
  obtain ⟨c, rest, rfl⟩ : ∃ c rest, cells = c :: rest := by
    cases cells with
    | nil => simp at h1
    | cons c r => exact ⟨c, r, rfl⟩
  have at0 : atI ((c :: rest).map V.int) 0 = some (.int c) := atI_nat (j := 0) rfl
  refine ⟨_, rfl, a, _, 0, _, rfl, rfl, hS, at0, ?_⟩
  refine ⟨_, rfl, 1, rfl, a, _, rfl, hS, fun pr hpr => ?_⟩
  rw [cut_one]
  have k1 := same_upd (o := .lst (rest.map V.int)) hpr
  have er : (upd H pr (.lst (rest.map V.int))) pr = some (.lst (rest.map V.int)) := upd_same
  show tSeq _ _ _ _ (upd H pr (.lst (rest.map V.int)))
  generalize upd H pr (.lst (rest.map V.int)) = H1 at k1 er ⊢
  rw [List.length_cons] at hn
  refine ⟨_, rfl, pr, _, rfl, .inl (SqL.of er), rfl, _, rfl, ite2 (fun e0 => ?_) (fun e0 => ?_)⟩
  · refine ⟨_, rfl, _, rfl, _, rfl, _, rfl, c, wl, cl, lo, ws, cs, fc, rfl, k1 _ _ hw, k1 _ _ hc, wc, fun t v H2 g2 r2 s2 a2 => q t v H2 (k1.trans g2) r2 (by rw [s2, List.length_cons]; omega) a2⟩
  have hr1 : 1 ≤ rest.length := by
    rcases Nat.eq_zero_or_pos rest.length with h | h
    · exact absurd (decide_eq_true (by rw [List.length_map, h]; rfl)) e0
    · exact h
  obtain ⟨sg, atsg, hsg⟩ := signPick c
  refine ⟨(by show 8 ≤ sizeLine; decide), fun pl hpl => ?_⟩
  have k2 := same_upd (o := .lst [.str "add", .str "let", .str "if", .str "mul", .str "say", .str "sub", .str "then", .str "say"]) hpl
  refine ⟨_, rfl, _, _, rfl, rfl, (show (0 : Int) < 8 by decide), pl, _, _, _, rfl, rfl, SqL.of upd_same, atsg, ?_⟩
  have k12 := k1.trans k2
  have er2 := k2 _ _ er
  show tSeq _ _ _ _ (upd H1 pl _)
  generalize upd H1 pl (.lst [.str "add", .str "let", .str "if", .str "mul", .str "say", .str "sub", .str "then", .str "say"]) = H2 at k12 er2 ⊢
  have f8 : (0 : Int) < 8 ∧ (8 : Int) < 1073741824 := ⟨by decide, by decide⟩
  have f64 : (0 : Int) < 64 ∧ (64 : Int) < 1073741824 := ⟨by decide, by decide⟩
  have hw2 := k12 _ _ hw
  have hc2 := k12 _ _ hc
  have n18 : n ≤ 18 := by omega
  apply viaP (fun H3 => H3 = H2)
  · intro rt
    refine ⟨_, rfl, pr, _, rfl, .inl (SqL.of er2), rfl, _, rfl, ite2 (fun _ => iteT (rt H2 rfl)) (fun e1 => ⟨_, rfl, rfl, _, rfl, ite2 (fun _ => rt H2 rfl) (fun e2 => ?_)⟩)⟩
    have hr2 : 2 ≤ rest.length := by
      rcases Nat.lt_or_ge rest.length 2 with h | h
      · exact absurd (decide_eq_true (by rw [List.length_map, show rest.length = 1 by omega]; rfl)) e1
      · exact h
    have hns : sg ≠ "say" := fun z => e2 (decide_eq_true (by rw [z]))
    have m0 := Int.emod_nonneg (c / 8) (show (rest.length : Int) - 1 ≠ 0 by omega)
    have m1 := Int.emod_lt_of_pos (c / 8) (show (0 : Int) < (rest.length : Int) - 1 by omega)
    obtain ⟨cn, ecn⟩ : ∃ cn : Nat, (cn : Int) = 1 + c / 8 % ((rest.length : Int) - 1) := ⟨(1 + c / 8 % ((rest.length : Int) - 1)).toNat, by omega⟩
    have lm : ((rest.map V.int).length : Int) = (rest.length : Int) := by rw [List.length_map]
    refine ⟨_, rfl, _, _, rfl, rfl, f8, _, rfl, pr, _, rfl, .inl (SqL.of er2), _, _, rfl, rfl, _, _, rfl, rfl, (by show (0 : Int) < ((rest.map V.int).length : Int) - 1; omega), _, _, rfl, rfl, ?_⟩
    dsimp only
    rw [lm, ← ecn]
    have c1 : 1 ≤ cn := by omega
    have c2 : cn + 1 ≤ rest.length := by omega
    refine ⟨_, rfl, _, rfl, _, rfl, pr, _, rfl, SqL.of er2, fun p1 hp1 => ?_⟩
    rw [cut_lo rest cn (by omega)]
    have k3 := same_upd (o := .lst ((rest.take cn).map V.int)) hp1
    have e3 : (upd H2 p1 (.lst ((rest.take cn).map V.int))) p1 = some (.lst ((rest.take cn).map V.int)) := upd_same
    generalize upd H2 p1 (.lst ((rest.take cn).map V.int)) = H3 at k3 e3 ⊢
    refine ⟨_, rfl, _, rfl, _, rfl, p1, wl, cl, lo, rest.take cn, ws, cs, fc, rfl, SqL.of e3, by simp; omega, by simp; omega, n18, k3 _ _ hw2, k3 _ _ hc2, wc, fun t1 v1 H4 g4 r1 s1 a1 => ?_⟩
    have g24 := k3.trans g4
    rw [List.length_take, Nat.min_eq_left (by omega)] at s1
    refine ⟨_, rfl, _, rfl, _, rfl, pr, _, rfl, SqL.of (g24 _ _ er2), fun p2 hp2 => ?_⟩
    rw [cut_up rest cn (by omega)]
    have k5 := same_upd (o := .lst ((rest.drop cn).map V.int)) hp2
    have e5 : (upd H4 p2 (.lst ((rest.drop cn).map V.int))) p2 = some (.lst ((rest.drop cn).map V.int)) := upd_same
    generalize upd H4 p2 (.lst ((rest.drop cn).map V.int)) = H5 at k5 e5 ⊢
    have g25 := g24.trans k5
    refine ⟨_, rfl, _, rfl, _, rfl, p2, wl, cl, lo, rest.drop cn, ws, cs, fc, rfl, SqL.of e5, by simp; omega, by simp; omega, n18, g25 _ _ hw2, g25 _ _ hc2, wc, fun t2 v2 H6 g6 r2 s2 a2 => ?_⟩
    rw [List.length_drop] at s2
    have g26 := g25.trans g6
    have r1' := r1.mono (k5.trans g6).tk
    have G := k12.trans g26
    refine ⟨_, rfl, rfl, _, rfl, ite2 (fun _ => ?_) (fun nl => ?_)⟩
    · obtain ⟨j, hj, ej, atj⟩ := pick (c / 64)
      refine ⟨_, rfl, _, rfl, _, _, rfl, rfl, f64, _, _, rfl, rfl, z6, wl, _, _, _, rfl, rfl, SqL.of (g26 _ _ hw2), atj, _, rfl, _, rfl, d4, fun pt hpt => ?_⟩
      have k7 := same_upd (o := .tup [.str "let", .str (wd ws j), v1, v2]) hpt
      refine q (.lett (wd ws j) t1 t2) _ _ (G.trans k7) ⟨pt, v1, v2, rfl, upd_same, r1'.mono k7.tk, r2.mono k7.tk⟩ ?_ (.node (fun h => by cases h) fun p hp => ?_)
      · show t1.size + t2.size + 1 + 1 ≤ _
        rw [List.length_cons]
        omega
      · have : p = t1 ∨ p = t2 := by simpa [Tr.parts] using hp
        rcases this with rfl | rfl
        · exact a1
        · exact a2
    refine ⟨_, rfl, rfl, _, rfl, ite2 (fun _ => ?_) (fun ni => ?_)⟩
    · refine ⟨_, rfl, _, rfl, _, _, rfl, rfl, f64, _, _, rfl, rfl, ⟨by decide, by decide, by decide⟩, _, _, rfl, rfl, (show (0 : Int) < 10 ^ 30 by decide), d2, fun pn hpn => ?_⟩
      have k7 := same_upd (o := .tup [.str "num", .int (c / 64 % 10 ^ (30 : Int).toNat)]) hpn
      refine ⟨_, rfl, d4, fun pt hpt => ?_⟩
      have k8 := same_upd (o := .tup [.str "if", v1, .ref pn, v2]) hpt
      have k78 := k7.trans k8
      refine q (.ite t1 (.num (c / 64 % 10 ^ (30 : Int).toNat)) t2) _ _ (G.trans k78) ⟨pt, v1, .ref pn, v2, rfl, upd_same, r1'.mono k78.tk, ⟨pn, rfl, k8 _ _ upd_same⟩, r2.mono k78.tk⟩ ?_ (.node (fun h => by cases h) fun p hp => ?_)
      · show t1.size + 1 + t2.size + 1 + 1 ≤ _
        rw [List.length_cons]
        omega
      · have : p = t1 ∨ p = .num (c / 64 % 10 ^ (30 : Int).toNat) ∨ p = t2 := by simpa [Tr.parts] using hp
        rcases this with rfl | rfl | rfl
        · exact a1
        · exact .leaf rfl (.not (fun h => by cases h))
        · exact a2
    · obtain ⟨o, rfl⟩ : ∃ o : Bin, sg = o.s := by
        rcases hsg with h | h | h | h
        · exact h
        · exact absurd (decide_eq_true (by rw [h])) nl
        · exact absurd (decide_eq_true (by rw [h])) ni
        · exact absurd h hns
      refine ⟨_, rfl, _, rfl, _, rfl, d3, fun pt hpt => ?_⟩
      have k7 := same_upd (o := .tup [.str o.s, v1, v2]) hpt
      refine q (.bin o t1 t2) _ _ (G.trans k7) ⟨pt, v1, v2, rfl, upd_same, r1'.mono k7.tk, r2.mono k7.tk⟩ ?_ (.node (fun h => by cases o <;> cases h) fun p hp => ?_)
      · show t1.size + t2.size + 1 + 1 ≤ _
        rw [List.length_cons]
        omega
      · have : p = t1 ∨ p = t2 := by simpa [Tr.parts] using hp
        rcases this with rfl | rfl
        · exact a1
        · exact a2
  · rintro H3 rfl
    refine ⟨_, rfl, _, rfl, ite2 (fun _ => ?_) (fun _ => ?_)⟩
    · refine ⟨_, rfl, _, rfl, _, rfl, _, rfl, pr, wl, cl, lo, rest, ws, cs, fc, rfl, SqL.of er2, hr1, by omega, n18, hw2, hc2, wc, fun t1 v1 H4 g4 r1 s1 a1 => ⟨d2, fun pt hpt => ?_⟩⟩
      have k7 := same_upd (o := .tup [.str "say", v1]) hpt
      refine q (.say t1) _ _ (k12.trans (g4.trans k7)) ⟨pt, v1, rfl, upd_same, r1.mono k7.tk⟩ ?_ (.node (fun h => by cases h) fun p hp => ?_)
      · show t1.size + 1 + 1 ≤ _
        rw [List.length_cons]
        omega
      · have : p = t1 := by simpa [Tr.parts] using hp
        rw [this]; exact a1
    · obtain ⟨j, hj, ej, atj⟩ := pick (c / 8)
      refine ⟨_, rfl, _, rfl, _, _, rfl, rfl, f8, _, _, rfl, rfl, z6, wl, _, _, _, rfl, rfl, SqL.of hw2, atj, d2, fun pn hpn => ?_⟩
      have k6 := same_upd (o := .tup [.str "name", .str (wd ws j)]) hpn
      refine ⟨_, rfl, _, rfl, _, rfl, _, rfl, pr, wl, cl, lo, rest, ws, cs, fc, rfl, SqL.of (k6 _ _ er2), hr1, by omega, n18, k6 _ _ hw2, k6 _ _ hc2, wc, fun t1 v1 H4 g4 r1 s1 a1 => ⟨d3, fun pt hpt => ?_⟩⟩
      have k7 := same_upd (o := .tup [.str "mul", .ref pn, v1]) hpt
      have k67 := g4.trans k7
      refine q (.bin .mul (.name (wd ws j)) t1) _ _ (k12.trans (k6.trans k67)) ⟨pt, .ref pn, v1, rfl, upd_same, ⟨pn, rfl, k67 _ _ upd_same⟩, r1.mono k7.tk⟩ ?_ (.node (fun h => by cases h) fun p hp => ?_)
      · show 1 + t1.size + 1 + 1 ≤ _
        rw [List.length_cons]
        omega
      · have : p = .name (wd ws j) ∨ p = t1 := by simpa [Tr.parts] using hp
        rcases this with rfl | rfl
        · exact .leaf rfl (.not (fun h => by cases h))
        · exact a1
theorem none_shape {k : Nat} {f : Addr} {fd : FuncData} : FnOk P w K mg base CX0 k f fd ["_law_cells", "_law_words_here", "_law_counts", "_law_loud_here"] (sp_shape K 0) := by
  have no : ∀ vs H Q E, ¬ sp_shape K 0 vs H Q E := fun vs H Q E h => by
    obtain ⟨a, wl, cl, lo, cells, ws, cs, f, _, _, h1, h0, _⟩ := h
    omega
  exact ⟨fun vs H Q E h => absurd h (no vs H Q E), fun A outer s H args us vs Q E _ _ _ _ h => absurd h (no vs H Q E)⟩
theorem all_shape {k : Nat} {f g1 : Addr} {fd gd1 : FuncData} (F : Fun K "_law_shape" "_law_shape" s_law_shape f fd) (b : Binds K fd ["_law_cells", "_law_words_here", "_law_counts", "_law_loud_here"] []) (m : mg "_law_shape" = some (.ref f)) (z_len : mg "len" = none)
    (G : FnB P w K mg base k "_law_leaf" g1 gd1 ["_law_cell", "_law_words_here", "_law_counts", "_law_loud_here"] sp_leaf) : ∀ n : Nat, FnB P w K mg base (k + n) "_law_shape" f fd ["_law_cells", "_law_words_here", "_law_counts", "_law_loud_here"] (sp_shape K n)
  | 0 => ⟨none_shape, b, F.kp, m⟩
  | n + 1 => ⟨ok_shape F z_len (G.up (Nat.le_add_right _ _)) (all_shape F b m z_len G n), b, F.kp, m⟩
end
end K10
set_option Elab.async false
set_option linter.all false
set_option maxRecDepth 100000
set_option maxHeartbeats 4000000
namespace L2
open PySem
def SbD (d : Addr) (H H' : Hp) : Prop := ∀ b o, b ≠ d → H b = some o → H' b = some o
theorem SbD.refl (d : Addr) (H : Hp) : SbD d H H := fun _ _ _ h => h
theorem SbD.trans {d : Addr} {H H1 H2 : Hp} (a : SbD d H H1) (b : SbD d H1 H2) : SbD d H H2 := fun c o n h => b c o n (a c o n h)
theorem Same.sd {d : Addr} {H H' : Hp} (h : Same H H') : SbD d H H' := fun b o _ e => h b o e
theorem SbD.set {d : Addr} {H : Hp} (o : HO) : SbD d H (upd H d o) := fun b u n e => by rw [upd_ne n]; exact e
theorem SbD.tk {d : Addr} {H H' : Hp} (h : SbD d H H') {kvs : List (Key × V)} (e : H d = some (.dK kvs)) : Tk H H' := fun b xs hb => h b _ (fun z => by rw [z, e] at hb; cases hb) hb
def aTr : Atom → Tr
  | .name x => .name x
  | .num n => .num n
  | .gap h => .gap h []
theorem AtRep.tr {H : Hp} : ∀ {a : Atom} {v : V}, AtRep H a v → Rep H (aTr a) v
  | .name _, _, ⟨b, e, h⟩ => ⟨b, e, h⟩
  | .num _, _, ⟨b, e, h⟩ => ⟨b, e, h⟩
  | .gap _, _, ⟨b, c, e, h1, h2⟩ => ⟨b, c, [], e, h1, h2, by decide, .nil⟩
def ms : Tr → Nat
  | .gap _ (_ :: _) => 3
  | t => 2 * t.size
theorem ms_le (t : Tr) : ms t ≤ 2 * t.size + 1 := by
  cases t with
  | gap g as => cases as <;> simp [ms, Tr.size]
  | _ => exact Nat.le_succ _
theorem ms_atom (a : Atom) : ms (aTr a) = 2 := by cases a <;> rfl
theorem Rep.heads {H : Hp} : ∀ {t : Tr} {v : V}, Rep H t v → ¬ t.kd = .gap → ∃ a hs us, v = .ref a ∧ H a = some (.tup (.str t.kd.s :: (hs ++ us))) ∧ (∀ x ∈ hs, (∃ z, x = V.str z) ∨ ∃ i, x = V.int i) ∧ Paired (Rep H) t.parts us
  | .num n, _, ⟨a, e, h⟩, _ => ⟨a, [.int n], [], e, h, fun x hx => .inr ⟨n, by simpa using hx⟩, .nil⟩
  | .name n, _, ⟨a, e, h⟩, _ => ⟨a, [.str n], [], e, h, fun x hx => .inl ⟨n, by simpa using hx⟩, .nil⟩
  | .ask n, _, ⟨a, e, h⟩, _ => ⟨a, [.str n], [], e, h, fun x hx => .inl ⟨n, by simpa using hx⟩, .nil⟩
  | .stop n, _, ⟨a, e, h⟩, _ => ⟨a, [.str n], [], e, h, fun x hx => .inl ⟨n, by simpa using hx⟩, .nil⟩
  | .gap _ _, _, _, z => absurd rfl z
  | .say t, _, ⟨a, u, e, h, r⟩, _ => ⟨a, [], [u], e, h, (fun x hx => nomatch hx), .cons r .nil⟩
  | .bin o s t, _, ⟨a, u, w, e, h, r1, r2⟩, _ => ⟨a, [], [u, w], e, by cases o <;> exact h, (fun x hx => nomatch hx), .cons r1 (.cons r2 .nil)⟩
  | .ite r s t, _, ⟨a, u, w, z, e, h, r1, r2, r3⟩, _ => ⟨a, [], [u, w, z], e, h, (fun x hx => nomatch hx), .cons r1 (.cons r2 (.cons r3 .nil))⟩
  | .lett x s t, _, ⟨a, u, w, e, h, r1, r2⟩, _ => ⟨a, [.str x], [u, w], e, h, fun y hy => .inl ⟨x, by simpa using hy⟩, .cons r1 (.cons r2 .nil)⟩
theorem gset_eq (t : Tr) : gset t = (cnt1 t).map (·.1) ++ t.parts.flatMap gset := by
  unfold gset
  rw [subs_eq, List.flatMap_cons, List.map_append, List.flatMap_assoc, List.map_flatMap]
theorem AllOk.part {f : Str → Nat} {S : List Str} {t q : Tr} (h : AllOk f S t) (hq : q ∈ t.parts) : AllOk f S q := fun p hp => h p (by rw [subs_eq]; exact List.mem_cons_of_mem _ (List.mem_flatMap.mpr ⟨q, hq, hp⟩))
theorem AllOk.own {f : Str → Nat} {S : List Str} {t : Tr} (h : AllOk f S t) : LfOk f S t := h t (by rw [subs_eq]; exact List.mem_cons_self)
theorem AllOk.atom {f : Str → Nat} {S : List Str} {g : Str} {as : List Atom} {a : Atom} (h : LfOk f S (.gap g as)) (ha : a ∈ as) : AllOk f S (aTr a) := by
  cases a with
  | name x => exact .leaf rfl (.not (fun h => by cases h))
  | num x => exact .leaf rfl (.not (fun h => by cases h))
  | gap x =>
    refine .leaf rfl fun g' as' e => ?_
    cases e
    obtain ⟨_, _, _, h3⟩ := h g as rfl
    exact ⟨by decide, by rw [(h3 x ha).1]; rfl, List.mem_of_mem_drop (h3 x ha).2, (fun y hy => nomatch hy)⟩
theorem gset_gap (g : Str) (as : List Atom) : gset (.gap g as) = g :: as.flatMap agap := by
  rw [gset_eq]
  show ((cnt1 (.gap g as)).map (·.1)) ++ [] = _
  rw [List.append_nil]
  show g :: ((as.flatMap fun a => (agap a).map fun h => (h, 0)).map (·.1)) = _
  rw [List.map_flatMap]
  congr 1
  congr 1
  funext a
  rw [List.map_map]
  exact List.map_id _
theorem gset_not {t : Tr} (h : ¬ t.kd = .gap) : gset t = t.parts.flatMap gset := by rw [gset_eq, cnt1_not h]; rfl
theorem len_take_flat {α β : Type} (g : α → List β) (L : List α) (i : Nat) : ((L.take i).flatMap g).length ≤ (L.flatMap g).length := by
  have : (L.flatMap g).length = ((L.take i).flatMap g).length + ((L.drop i).flatMap g).length := by rw [← List.length_append, ← List.flatMap_append, List.take_append_drop]
  omega
theorem gset_atom (a : Atom) : gset (aTr a) = agap a := by cases a <;> rfl
theorem cut_tail1 (x : V) (xs : List V) : cutV (x :: xs) (some 1) none = xs := by
  have e1 : HT.sIx (x :: xs).length 0 (some 1) = 1 := by
    have := HT.sIx_nat (x :: xs).length 0 1
    rw [show ((1 : Nat) : Int) = 1 from rfl] at this
    rw [this]
    simp
  unfold cutV
  rw [e1, HT.sIx_none]
  simp
theorem cut_tail1_not (x : V) (xs : List V) : ¬ (HT.sIx (x :: xs).length 0 (some 1) = 0 ∧ HT.sIx (x :: xs).length (x :: xs).length none = (x :: xs).length) := fun h => by
  have := HT.sIx_nat (x :: xs).length 0 1
  rw [show ((1 : Nat) : Int) = 1 from rfl, h.1] at this
  simp at this
end L2
namespace K10
open PySem PySem.Spec L2 PyProof.Rows
abbrev s_law_gaps : Stmt := top 19
theorem sc_law_gaps : FnScope ["_law_shape_here", "_law_found", "_law_atom", "_law_part"] ["_law_shape_here", "_law_found"] (defScope s_law_gaps) := ⟨rfl, rfl, rfl, by decide +kernel, rfl, by decide +kernel, by decide +kernel⟩
abbrev s_law_loud : Stmt := top 20
theorem sc_law_loud : FnScope ["_law_shape_here", "_law_part"] ["_law_shape_here"] (defScope s_law_loud) := ⟨rfl, rfl, rfl, by decide +kernel, rfl, by decide +kernel, by decide +kernel⟩
section
variable {P : Program} {w : World} {K : PySem.W.Frag} {mg : Str → Option Value} {base : Heap}
def sp_lgaps (n : Nat) : Sp := fun vs H Q _ => ∃ (t : Tr) (v : V) (d : Addr) (kvs : List (Key × V)) (S S3 : List Str) (f : Str → Nat), vs = [v, .ref d] ∧ ms t ≤ n ∧ Rep H t v ∧ H d = some (.dK kvs) ∧ Gd S f kvs ∧ AllOk f S3 t ∧ kvs.length + (gset t).length ≤ 900 ∧
  ∀ (kvs' : List (Key × V)) (H' : Hp), SbD d H H' → H' d = some (.dK kvs') → Gd (S ++ gset t) f kvs' → kvs'.length ≤ kvs.length + (gset t).length → Q .non H'
theorem ok_lgaps {k n : Nat} {f : Addr} {fd : FuncData} (F : Fun K "_law_gaps" "_law_gaps" s_law_gaps f fd) (z_len : mg "len" = none) (z_isinstance : mg "isinstance" = none) (z_tuple : mg "tuple" = none)
    (G_law_gaps : FnB P w K mg base k "_law_gaps" f fd ["_law_shape_here", "_law_found"] (sp_lgaps n)) : FnOk P w K mg base CX0 (k + 1) f fd ["_law_shape_here", "_law_found"] (sp_lgaps (n + 1)) := by
  refine F.ok sc_law_gaps (fun vs H Q E h => ?_) (fun cdv A outer s H vs Q E hr h => ?_)
  · obtain ⟨t, v, d, kvs, S, S3, f, rfl, _⟩ := h
    rfl
  obtain ⟨t, v, d, kvs, S, S3, fc, rfl, hn, hR, hd, gd, ok, hsz, q⟩ := h
  have hu := hu_of hr
  refine ⟨_, (pss_cons (ps_if (pt_cmpR op_eq (pe_ix (r := rIxT K) ix_tup (pv 0) pe_int (fun _ _ => rfl)) pe_str (nomark _)) (pss_cons (ps_dput hu (pv 1) (pe_ix (r := rIxT K) ix_tup (pv 0) pe_int (fun _ _ => rfl)) (pe_callB call_len_seq (by rfl) z_len PySem.boot_len (pa_cons (pe_ix (r := rIxT K) ix_tup (pv 0) pe_int (fun _ _ => rfl)) pa_nil)) rfl)
    (pss_cons (ps_for PassesOwn.never rfl (pi_tup (pe_ix (r := rIxT K) ix_tup (pv 0) pe_int (fun _ _ => rfl))) (pg_name (i := 2) sc_law_gaps.nd rfl (Or.inl rfl)) (pss_one (ps_expr (pe_call G_law_gaps.ok hr (by rfl) G_law_gaps.gl G_law_gaps.kp G_law_gaps.bd .nil pass0 (pa_cons (pv 2) (pa_cons (pv 1) pa_nil))))))
    (pss_one ps_retN))) pss_nil)
    (pss_one (ps_for PassesOwn.never rfl (pi_tup (pe_slice sl_tupV (pv 0) (po_some pe_int) po_none)) (pg_name (i := 3) sc_law_gaps.nd rfl (Or.inl rfl)) (pss_one (ps_if (pt_val (pe_callB call_isi (by rfl) z_isinstance PyProof.Rows.boot_isinstance (pa_cons (pv 3) (pa_cons (pe_bltn (v := .ty _) (by rfl) z_tuple PyProof.Rows.boot_tuple (by rfl)) pa_nil)))) (pss_one (ps_expr (pe_call G_law_gaps.ok hr (by rfl) G_law_gaps.gl G_law_gaps.kp G_law_gaps.bd .nil pass0 (pa_cons (pv 3) (pa_cons (pv 1) pa_nil))))) pss_nil))))), ?_⟩
  have hR0 := hR
  obtain ⟨a0, hs0, us0, rfl, ha0, hl0, hp0⟩ := hR.all
  have at0 : atI (V.str t.kd.s :: hs0 ++ us0) 0 = some (.str t.kd.s) := atI_nat (j := 0) rfl
  refine ⟨_, rfl, a0, _, 0, _, rfl, rfl, SqT.of ha0, at0, rfl, _, rfl, ite2 (fun c => ?_) (fun c => ?_)⟩
  · have z : t.kd = .gap := Kd.eq_iff.mp (of_decide_eq_true c)
    cases t with
    | gap gx as =>
      obtain ⟨a', b', us2, e', ha', hb', hl2, pas⟩ := hR0
      cases e'
      obtain ⟨o1, o2, _, o3⟩ := ok.own gx as rfl
      have las : us2.length = as.length := paired_len pas
      have at1 : atI [V.str "gap", .str gx, .ref b'] 1 = some (.str gx) := atI_nat (j := 1) rfl
      have at2 : atI [V.str "gap", .str gx, .ref b'] 2 = some (.ref b') := atI_nat (j := 2) rfl
      rw [gset_gap] at hsz q
      rw [List.length_cons] at hsz q
      refine ⟨_, rfl, a0, _, 2, _, rfl, rfl, SqT.of ha', at2, b', us2, rfl, .inr (SqT.of hb'), _, rfl, _, rfl, a0, _, 1, _, rfl, rfl, SqT.of ha', at1, d, _, rfl, DPut.k (k := Sum.inr gx) hd (small1000 (by omega)), ?_⟩
      have gd1 : Gd (S ++ [gx]) fc (putK kvs (Sum.inr gx : Key) (.int ((us2.length : Nat) : Int))) := gd.put (by rw [las]; exact o2)
      have tk1 : Tk H (upd H d (.dK (putK kvs (Sum.inr gx : Key) (.int ((us2.length : Nat) : Int))))) := Tk.dk hd
      have hlp := length_putK kvs (Sum.inr gx : Key) (.int ((us2.length : Nat) : Int))
      refine ⟨_, rfl, a0, _, 2, _, rfl, rfl, SqT.of (tk1 _ _ ha'), at2, b', rfl, ⟨us2, SqT.of (tk1 _ _ hb')⟩, ?_⟩
      refine for_tup (xs := us2) (fun i σ' H' => ∃ (kv2 : List (Key × V)) (s2 : Option V), σ' = [some (.ref a0), some (.ref d), s2, none] ∧ SbD d H H' ∧ H' d = some (.dK kv2) ∧ Gd (S ++ [gx] ++ (as.take i).flatMap agap) fc kv2 ∧ kv2.length ≤ kvs.length + 1 + ((as.take i).flatMap agap).length) ?_ ?_ ?_ ?_
      · exact ⟨_, none, rfl, SbD.set _, upd_same, by simpa using gd1, by simpa using hlp⟩
      · rintro i σ' H' _ ⟨kv2, s2, rfl, sd, ed, g2, l2⟩
        exact SqT.of (sd.tk hd _ _ hb')
      · rintro i x σ' H' hx ⟨kv2, s2, rfl, sd, ed, g2, l2⟩
        obtain ⟨at', eat, rat⟩ := paired_get pas hx
        have hmem := List.mem_of_getElem? eat
        have htk : (as.take (i + 1)).flatMap agap = (as.take i).flatMap agap ++ agap at' := by rw [take_next eat, List.flatMap_append]; simp
        have hlt := len_take_flat agap as (i + 1)
        rw [htk, List.length_append] at hlt
        have hms : 3 ≤ n + 1 := by
          cases as with
          | nil => cases hmem
          | cons _ _ => exact hn
        refine ⟨_, rfl, _, rfl, aTr at', x, d, kv2, _, S3, fc, rfl, by rw [ms_atom]; omega, (rat.mono (sd.tk hd)).tr, ed, g2, AllOk.atom ok.own hmem, by rw [gset_atom]; omega, fun kv3 H5 sd5 ed5 g5 l5 => ?_⟩
        rw [gset_atom] at g5 l5
        refine ⟨kv3, _, rfl, sd.trans sd5, ed5, ?_, ?_⟩
        · rw [htk, ← List.append_assoc]; exact g5
        · rw [htk, List.length_append]; omega
      · rintro σ' H' ⟨kv2, s2, rfl, sd, ed, g2, l2⟩
        rw [List.take_of_length_le (by omega)] at g2 l2
        exact q kv2 H' sd ed (by simpa using g2) (by omega)
    | bin o a b => cases o <;> cases z
    | _ => cases z
  · have z : ¬ t.kd = .gap := fun z => c (decide_eq_true (by rw [z]; rfl))
    obtain ⟨a1, hs, us, e1, ha, hh, hp⟩ := hR0.heads z
    cases e1
    rw [gset_not z] at hsz q
    have lus : us.length = t.parts.length := paired_len hp
    refine ⟨_, rfl, 1, rfl, a0, _, rfl, ha, cut_tail1_not _ _, fun ps H1 k1 e1 => ?_⟩
    rw [cut_tail1] at e1
    have hR1 : Paired (Rep H1) t.parts us := Paired.mapP hp fun _ _ z => z.mono k1.tk
    have hd1 := k1 _ _ hd
    refine ⟨ps, rfl, ⟨_, SqT.of e1⟩, ?_⟩
    refine for_tup (xs := hs ++ us) (fun i σ' H' => ∃ (kv2 : List (Key × V)) (s3 : Option V), σ' = [some (.ref a0), some (.ref d), none, s3] ∧ SbD d H1 H' ∧ H' d = some (.dK kv2) ∧ Gd (S ++ (t.parts.take (i - hs.length)).flatMap gset) fc kv2 ∧ kv2.length ≤ kvs.length + ((t.parts.take (i - hs.length)).flatMap gset).length) ?_ ?_ ?_ ?_
    · exact ⟨kvs, none, rfl, SbD.refl _ _, hd1, by simpa using gd, by simp⟩
    · rintro i σ' H' _ ⟨kv2, s3, rfl, sd, ed, g2, l2⟩
      exact SqT.of (sd.tk hd1 _ _ e1)
    · rintro i x σ' H' hx ⟨kv2, s3, rfl, sd, ed, g2, l2⟩
      by_cases hi : i < hs.length
      · rw [List.getElem?_append_left hi] at hx
        have e0 : i + 1 - hs.length = 0 := by omega
        have e00 : i - hs.length = 0 := by omega
        rw [e00] at g2 l2
        rcases hh x (List.mem_of_getElem? hx) with ⟨y, rfl⟩ | ⟨y, rfl⟩
        · refine ⟨_, rfl, _, "tuple", _, false, rfl, .str y, rfl, _, rfl, iteF ?_⟩
          exact ⟨kv2, _, rfl, sd, ed, by rw [e0]; exact g2, by rw [e0]; exact l2⟩
        · refine ⟨_, rfl, _, "tuple", _, false, rfl, .int y, rfl, _, rfl, iteF ?_⟩
          exact ⟨kv2, _, rfl, sd, ed, by rw [e0]; exact g2, by rw [e0]; exact l2⟩
      · rw [List.getElem?_append_right (by omega)] at hx
        obtain ⟨ti, eti, rti⟩ := paired_get hR1 hx
        have hmem := List.mem_of_getElem? eti
        have hsz2 := part_size hmem
        have rti' := rti.mono (sd.tk hd1)
        have htk : (t.parts.take (i + 1 - hs.length)).flatMap gset = (t.parts.take (i - hs.length)).flatMap gset ++ gset ti := by
          rw [show i + 1 - hs.length = i - hs.length + 1 by omega, take_next eti, List.flatMap_append]; simp
        have hlt := len_take_flat gset t.parts (i + 1 - hs.length)
        rw [htk, List.length_append] at hlt
        have rti0 := rti'
        obtain ⟨ai, hsi, usi, rfl, hai, _, _⟩ := rti'.all
        have hms : ms ti ≤ n := by
          have h1 := ms_le ti
          have h2 : ms t = 2 * t.size := by
            cases t with
            | gap g as => exact absurd rfl z
            | _ => rfl
          omega
        refine ⟨_, rfl, _, "tuple", _, true, rfl, .tup hai, rfl, _, rfl, iteT ?_⟩
        refine ⟨_, rfl, _, rfl, ti, _, d, kv2, _, S3, fc, rfl, hms, rti0, ed, g2, ok.part hmem, by omega, fun kv3 H5 sd5 ed5 g5 l5 => ?_⟩
        refine ⟨kv3, _, rfl, sd.trans sd5, ed5, ?_, ?_⟩
        · rw [htk, ← List.append_assoc]; exact g5
        · rw [htk, List.length_append]; omega
    · rintro σ' H' ⟨kv2, s3, rfl, sd, ed, g2, l2⟩
      rw [List.take_of_length_le (by rw [List.length_append]; omega)] at g2 l2
      exact q kv2 H' (k1.sd.trans sd) ed g2 l2
theorem none_lgaps {k : Nat} {f : Addr} {fd : FuncData} : FnOk P w K mg base CX0 k f fd ["_law_shape_here", "_law_found"] (sp_lgaps 0) := by
  have no : ∀ vs H Q E, ¬ sp_lgaps 0 vs H Q E := fun vs H Q E h => by
    obtain ⟨t, v, d, kvs, S, S3, f, _, hn, _⟩ := h
    have := size_pos20 t
    cases t with
    | gap g as => cases as <;> cases hn
    | _ => simp [ms] at hn; omega
  exact ⟨fun vs H Q E h => absurd h (no vs H Q E), fun A outer s H args us vs Q E _ _ _ _ h => absurd h (no vs H Q E)⟩
theorem all_lgaps {k : Nat} {f : Addr} {fd : FuncData} (F : Fun K "_law_gaps" "_law_gaps" s_law_gaps f fd) (b : Binds K fd ["_law_shape_here", "_law_found"] []) (m : mg "_law_gaps" = some (.ref f)) (z_len : mg "len" = none) (z_isinstance : mg "isinstance" = none) (z_tuple : mg "tuple" = none) : ∀ n : Nat, FnB P w K mg base (k + n) "_law_gaps" f fd ["_law_shape_here", "_law_found"] (sp_lgaps n)
  | 0 => ⟨none_lgaps, b, F.kp, m⟩
  | n + 1 => ⟨ok_lgaps F z_len z_isinstance z_tuple (all_lgaps F b m z_len z_isinstance z_tuple n), b, F.kp, m⟩
def sp_lloud (n : Nat) : Sp := fun vs H Q _ => ∃ (t : Tr) (v : V), vs = [v] ∧ t.size ≤ n ∧ Rep H t v ∧ ∀ (b : Bool) (H' : Hp), Same H H' → (b = true ↔ ∃ p ∈ t.subs, p.kd.loud = true) → Q (.bl b) H'
theorem ok_lloud {k n : Nat} {f : Addr} {fd : FuncData} (F : Fun K "_law_loud" "_law_loud" s_law_loud f fd) (z_isinstance : mg "isinstance" = none) (z_tuple : mg "tuple" = none)
    (G_law_loud : FnB P w K mg base k "_law_loud" f fd ["_law_shape_here"] (sp_lloud n)) : FnOk P w K mg base CX0 (k + 1) f fd ["_law_shape_here"] (sp_lloud (n + 1)) := by
  refine F.ok sc_law_loud (fun vs H Q E h => ?_) (fun cdv A outer s H vs Q E hr h => ?_)
  · obtain ⟨t, v, rfl, _⟩ := h
    rfl
  obtain ⟨t, v, rfl, hn, hR, q⟩ := h
  refine ⟨_, (pss_cons (ps_if (pt_cmpR (r := rIn K false) op_in_seq (pe_ix (r := rIxT K) ix_tup (pv 0) pe_int (fun _ _ => rfl)) (pe_tupR [.str "say", .str "ask", .str "stop"] (by rfl) : PE _ _ _) rfl) (pss_one (ps_ret pe_bl)) pss_nil)
    (pss_cons (ps_if (pt_cmpR op_ne (pe_ix (r := rIxT K) ix_tup (pv 0) pe_int (fun _ _ => rfl)) pe_str (nomark _)) (pss_one (ps_for PassesOwn.never rfl (pi_tup (pe_slice sl_tupV (pv 0) (po_some pe_int) po_none)) (pg_name (i := 1) sc_law_loud.nd rfl (Or.inl rfl)) (pss_one (ps_if (pw_and (pt_val (pe_callB call_isi (by rfl) z_isinstance PyProof.Rows.boot_isinstance (pa_cons (pv 1) (pa_cons (pe_bltn (v := .ty _) (by rfl) z_tuple PyProof.Rows.boot_tuple (by rfl)) pa_nil)))) (pw_and1 (pt_val (pe_call G_law_loud.ok hr (by rfl) G_law_loud.gl G_law_loud.kp G_law_loud.bd .nil pass0 (pa_cons (pv 1) pa_nil))))).pt (pss_one (ps_ret pe_bl)) pss_nil)))) pss_nil)
    (pss_one (ps_ret pe_bl)))), ?_⟩
  have hR0 := hR
  obtain ⟨a0, hs0, us0, rfl, ha0, hl0, hp0⟩ := hR.all
  have at0 : atI (V.str t.kd.s :: hs0 ++ us0) 0 = some (.str t.kd.s) := atI_nat (j := 0) rfl
  refine ⟨_, rfl, a0, _, 0, _, rfl, rfl, SqT.of ha0, at0, (by show 3 ≤ sizeLine; decide), fun pl hpl => ⟨pl, loudV, rfl, .inr (SqT.of upd_same), rfl, rfl, _, rfl, ?_⟩⟩
  have k1 := same_upd (o := .tup loudV) hpl
  have ha1 := k1 _ _ ha0
  have hR1 := hR0.mono k1.tk
  show if inV (.str t.kd.s) loudV = true then tRet _ _ _ (upd H pl (.tup loudV)) else tNext _ _ (upd H pl (.tup loudV))
  rw [in_loud]
  generalize upd H pl (.tup loudV) = H1 at k1 ha1 hR1 ⊢
  refine ite2 (fun c => ?_) (fun c => ?_)
  · exact q true _ k1 ⟨fun _ => ⟨t, by rw [subs_eq]; exact List.mem_cons_self, c⟩, fun _ => rfl⟩
  have hq : t.kd.loud = false := by simpa using c
  refine ⟨_, rfl, a0, _, 0, _, rfl, rfl, SqT.of ha1, at0, rfl, _, rfl, ite2 (fun c2 => ?_) (fun c2 => ?_)⟩
  · have z : ¬ t.kd = .gap := fun z => by rw [z] at c2; exact absurd c2 (by decide +kernel)
    obtain ⟨a1, hs, us, e1, ha, hh, hp⟩ := hR1.heads z
    cases e1
    have lus : us.length = t.parts.length := paired_len hp
    refine ⟨_, rfl, 1, rfl, a0, _, rfl, ha, cut_tail1_not _ _, fun ps H2 k2 e2 => ?_⟩
    rw [cut_tail1] at e2
    have hR2 : Paired (Rep H2) t.parts us := Paired.mapP hp fun _ _ z => z.mono k2.tk
    refine ⟨ps, rfl, ⟨_, SqT.of e2⟩, ?_⟩
    refine for_tup (xs := hs ++ us) (fun i σ' H' => ∃ (s1 : Option V), σ' = [some (.ref a0), s1] ∧ Same H2 H' ∧ ∀ p ∈ t.parts.take (i - hs.length), ∀ r ∈ p.subs, r.kd.loud = false) ?_ ?_ ?_ ?_
    · exact ⟨none, rfl, .refl _, by simp⟩
    · rintro i σ' H' _ ⟨s1, rfl, g, hall⟩
      exact SqT.of (g _ _ e2)
    · rintro i x σ' H' hx ⟨s1, rfl, g, hall⟩
      by_cases hi : i < hs.length
      · rw [List.getElem?_append_left hi] at hx
        have e0 : i + 1 - hs.length = 0 := by omega
        rcases hh x (List.mem_of_getElem? hx) with ⟨y, rfl⟩ | ⟨y, rfl⟩
        · refine ⟨_, rfl, _, "tuple", _, false, rfl, .str y, rfl, _, rfl, iteF (iteF ?_)⟩
          exact ⟨_, rfl, g, by rw [e0]; simp⟩
        · refine ⟨_, rfl, _, "tuple", _, false, rfl, .int y, rfl, _, rfl, iteF (iteF ?_)⟩
          exact ⟨_, rfl, g, by rw [e0]; simp⟩
      · rw [List.getElem?_append_right (by omega)] at hx
        obtain ⟨ti, eti, rti⟩ := paired_get hR2 hx
        have hmem := List.mem_of_getElem? eti
        have hsz2 := part_size hmem
        have rti' := rti.mono g.tk
        have rti0 := rti'
        obtain ⟨ai, hsi, usi, rfl, hai, _, _⟩ := rti'.all
        have htk : t.parts.take (i + 1 - hs.length) = t.parts.take (i - hs.length) ++ [ti] := by rw [show i + 1 - hs.length = i - hs.length + 1 by omega, take_next eti]
        refine ⟨_, rfl, _, "tuple", _, true, rfl, .tup hai, rfl, _, rfl, iteT ?_⟩
        refine ⟨_, rfl, ti, _, rfl, by omega, rti0, fun b H5 g5 hb => ⟨b, rfl, ite2 (fun cb => ?_) (fun cb => ?_)⟩⟩
        · obtain ⟨p, hp1, hp2⟩ := hb.mp cb
          exact q true _ (k1.trans (k2.trans (g.trans g5))) ⟨fun _ => ⟨p, by rw [subs_eq]; exact List.mem_cons_of_mem _ (List.mem_flatMap.mpr ⟨ti, hmem, hp1⟩), hp2⟩, fun _ => rfl⟩
        · refine ⟨_, rfl, g.trans g5, fun p hp r hr' => ?_⟩
          rw [htk] at hp
          rcases List.mem_append.mp hp with h | h
          · exact hall p h r hr'
          · rw [List.mem_singleton.mp h] at hr'
            cases e : r.kd.loud with
            | false => rfl
            | true => exact absurd (hb.mpr ⟨r, hr', e⟩) cb
    · rintro σ' H' ⟨s1, rfl, g, hall⟩
      rw [List.take_of_length_le (by rw [List.length_append]; omega)] at hall
      refine q false _ (k1.trans (k2.trans g)) ⟨(fun z => nomatch z), fun ⟨p, hp, hl⟩ => ?_⟩
      rw [subs_eq] at hp
      rcases List.mem_cons.mp hp with rfl | hp
      · rw [hq] at hl; cases hl
      · obtain ⟨r, hr', hp⟩ := List.mem_flatMap.mp hp
        rw [hall r hr' p hp] at hl
        cases hl
  · have z : t.kd = .gap := by
      cases e : decide (V.str t.kd.s = V.str "gap") with
      | true => exact Kd.eq_iff.mp (of_decide_eq_true e)
      | false => exact absurd (by rw [e]; rfl) c2
    refine q false _ k1 ⟨(fun z => nomatch z), fun ⟨p, hp, hl⟩ => ?_⟩
    cases t with
    | gap g as =>
      have : p = .gap g as := by simpa [Tr.subs] using hp
      rw [this] at hl
      cases hl
    | bin o a b => cases o <;> cases z
    | _ => cases z
theorem none_lloud {k : Nat} {f : Addr} {fd : FuncData} : FnOk P w K mg base CX0 k f fd ["_law_shape_here"] (sp_lloud 0) := by
  have no : ∀ vs H Q E, ¬ sp_lloud 0 vs H Q E := fun vs H Q E h => by
    obtain ⟨t, v, _, hn, _⟩ := h
    have := size_pos20 t
    omega
  exact ⟨fun vs H Q E h => absurd h (no vs H Q E), fun A outer s H args us vs Q E _ _ _ _ h => absurd h (no vs H Q E)⟩
theorem all_lloud {k : Nat} {f : Addr} {fd : FuncData} (F : Fun K "_law_loud" "_law_loud" s_law_loud f fd) (b : Binds K fd ["_law_shape_here"] []) (m : mg "_law_loud" = some (.ref f)) (z_isinstance : mg "isinstance" = none) (z_tuple : mg "tuple" = none) : ∀ n : Nat, FnB P w K mg base (k + n) "_law_loud" f fd ["_law_shape_here"] (sp_lloud n)
  | 0 => ⟨none_lloud, b, F.kp, m⟩
  | n + 1 => ⟨ok_lloud F z_isinstance z_tuple (all_lloud F b m z_isinstance z_tuple n), b, F.kp, m⟩
end
end K10
set_option Elab.async false
set_option linter.all false
set_option maxRecDepth 100000
set_option maxHeartbeats 4000000
namespace L2
open PySem
theorem Gd.keys {S : List Str} {f : Str → Nat} : ∀ {kvs : List (Key × V)}, Gd S f kvs → ∃ ks : List Str, kvs.map (·.1) = ks.map Sum.inr ∧ ks.Nodup ∧ ks.length = kvs.length ∧ ∀ g, g ∈ ks ↔ g ∈ S := by
  intro kvs h
  have ex : ∀ l : List (Key × V), (∀ p ∈ l, ∃ g ∈ S, p = ((Sum.inr g : Key), V.int ((f g : Nat) : Int))) → ∃ ks : List Str, l.map (·.1) = ks.map Sum.inr ∧ ∀ g ∈ ks, g ∈ S := by
    intro l
    induction l with
    | nil => exact fun _ => ⟨[], rfl, (fun g hg => nomatch hg)⟩
    | cons p l ih =>
      intro a
      obtain ⟨ks, e, h1⟩ := ih fun q hq => a q (List.mem_cons_of_mem _ hq)
      obtain ⟨g, hg, e2⟩ := a p List.mem_cons_self
      refine ⟨g :: ks, by rw [List.map_cons, e, e2]; rfl, fun x hx => ?_⟩
      rcases List.mem_cons.mp hx with rfl | hx
      · exact hg
      · exact h1 x hx
  obtain ⟨ks, e, h1⟩ := ex kvs h.nm
  refine ⟨ks, e, ?_, ?_, fun g => ⟨h1 g, fun hg => ?_⟩⟩
  · have := h.nd
    rw [e] at this
    exact (List.pairwise_map.mp this).imp fun h e => h (congrArg _ e)
  · have := congrArg List.length e
    simpa using this.symm
  · have hv := h.vl g hg
    obtain ⟨p, hp, ep⟩ := Option.map_eq_some_iff.mp (show (kvs.find? fun kv => decide (kv.1 = (Sum.inr g : Key))).map (·.2) = _ from hv)
    have hk := List.find?_some hp
    have hpk : p.1 = (Sum.inr g : Key) := of_decide_eq_true hk
    have : (Sum.inr g : Key) ∈ ks.map Sum.inr := by rw [← e, ← hpk]; exact List.mem_map.mpr ⟨p, List.mem_of_find?_eq_some hp, rfl⟩
    obtain ⟨g', hg', eg⟩ := List.mem_map.mp this
    rw [← Sum.inr.inj eg]
    exact hg'
theorem inV_strsM (x : Str) (ws : List Str) : inV (V.str x) (ws.map V.str) = true ↔ x ∈ ws := by
  unfold inV
  rw [List.any_eq_true]
  constructor
  · rintro ⟨v, hv, e⟩
    obtain ⟨y, hy, rfl⟩ := List.mem_map.mp hv
    have : y = x ∨ x = y := by first | exact .inl (by simpa using e) | exact .inr (by simpa using e) | (simp [eqV] at e; first | exact .inl e | exact .inr e)
    rcases this with rfl | rfl <;> exact hy
  · intro h
    exact ⟨_, List.mem_map.mpr ⟨x, h, rfl⟩, by first | simp | simp [eqV]⟩
theorem cut_three (ws : List Str) (hl : ws.length = 6) : cutV (ws.map V.str) (some 3) none = (ws.drop 3).map V.str := by
  have e1 : HT.sIx (ws.map V.str).length 0 (some 3) = 3 := by
    have := HT.sIx_nat (ws.map V.str).length 0 3
    rw [show ((3 : Nat) : Int) = 3 from rfl] at this
    rw [this, List.length_map, hl]
    rfl
  unfold cutV
  rw [e1, HT.sIx_none, ← List.map_drop]
  exact List.take_of_length_le (by simp)
end L2
namespace K10
open PySem PySem.Spec L2 PyProof.Rows
abbrev s_law_cell_at : Stmt := top 13
theorem sc_law_cell_at : FnScope ["_law_script", "_law_k"] ["_law_script", "_law_k"] (defScope s_law_cell_at) := ⟨rfl, rfl, rfl, by decide +kernel, rfl, by decide +kernel, by decide +kernel⟩
abbrev s_law_whole : Stmt := top 14
theorem sc_law_whole : FnScope ["_law_found"] ["_law_found"] (defScope s_law_whole) := ⟨rfl, rfl, rfl, by decide +kernel, rfl, by decide +kernel, by decide +kernel⟩
abbrev s_law_kinds : Stmt := top 21
theorem sc_law_kinds : FnScope ["_law_cell", "_law_words_here", "_law_due", "_law_kinds_here", "_law_word", "_law_way"] ["_law_cell", "_law_words_here", "_law_due"] (defScope s_law_kinds) := ⟨rfl, rfl, rfl, by decide +kernel, rfl, by decide +kernel, by decide +kernel⟩
abbrev s_law_told : Stmt := top 22
theorem sc_law_told : FnScope ["_law_found", "_law_due", "_law_gap"] ["_law_found", "_law_due"] (defScope s_law_told) := ⟨rfl, rfl, rfl, by decide +kernel, rfl, by decide +kernel, by decide +kernel⟩
section
variable {P : Program} {w : World} {K : PySem.W.Frag} {mg : Str → Option Value} {base : Heap}
def sp_cell_at (K : PySem.W.Frag) : Sp := fun vs H Q _ => ∃ (a : Addr) (ns : List Int) (k : Int), vs = [.ref a, .int k] ∧ SqL K H a (ns.map V.int) ∧ 0 ≤ k ∧ Q (.int (ns.getD k.toNat 0)) H
theorem ok_cell_at {k : Nat} {f : Addr} {fd : FuncData} (F : Fun K "_law_cell_at" "_law_cell_at" s_law_cell_at f fd) (z_len : mg "len" = none) : FnOk P w K mg base CX0 (k + 1) f fd ["_law_script", "_law_k"] (sp_cell_at K) := by
  refine F.ok sc_law_cell_at (fun vs H Q E h => ?_) (fun cdv A outer s H vs Q E hr h => ?_)
  · obtain ⟨a, ns, k, rfl, _⟩ := h
    rfl
  obtain ⟨a, ns, k, rfl, hS, h0, q⟩ := h
  refine ⟨_, (pss_cons (ps_if (pt_cmpR op_lt (pv 1) (pe_callB call_len_seq (by rfl) z_len PySem.boot_len (pa_cons (pv 0) pa_nil)) (nomark _)) (pss_one (ps_ret (pe_ix (r := rIxL K) ix_list (pv 0) (pv 1) (fun _ _ => rfl)))) pss_nil)
    (pss_one (ps_ret pe_int))), ?_⟩
  refine ⟨_, rfl, _, rfl, a, _, rfl, .inl hS, _, _, rfl, rfl, _, rfl, ?_⟩
  refine ite2 (fun c => ?_) (fun c => ?_)
  · have c' : k < ((ns.map V.int).length : Int) := of_decide_eq_true c
    rw [List.length_map] at c'
    have hl : k.toNat < ns.length := by omega
    have e : ((k.toNat : Nat) : Int) = k := by omega
    have at_ := atI_nat (xs := ns.map V.int) (j := k.toNat) (v := .int ns[k.toNat]) (by simp [hl])
    rw [e] at at_
    refine ⟨_, rfl, _, rfl, a, _, k, _, rfl, rfl, hS, at_, ?_⟩
    have e2 : ns.getD k.toNat 0 = ns[k.toNat] := by rw [List.getD_eq_getElem?_getD, List.getElem?_eq_getElem hl, Option.getD_some]
    rw [← e2]
    exact q
  · have c' : ¬ k < ((ns.map V.int).length : Int) := fun z => c (decide_eq_true z)
    rw [List.length_map] at c'
    have e2 : ns.getD k.toNat 0 = 0 := by
      rw [List.getD_eq_getElem?_getD, List.getElem?_eq_none (by omega)]
      rfl
    rw [e2] at q
    exact q
def sp_whole : Sp := fun vs H Q _ => ∃ i : Int, vs = [.int i] ∧ Q (.bl true) H
theorem ok_whole {k : Nat} {f : Addr} {fd : FuncData} (F : Fun K "_law_whole" "_law_whole" s_law_whole f fd) (z_isinstance : mg "isinstance" = none) (z_int : mg "int" = none) (z_bool : mg "bool" = none) : FnOk P w K mg base CX0 (k + 1) f fd ["_law_found"] sp_whole := by
  refine F.ok sc_law_whole (fun vs H Q E h => ?_) (fun cdv A outer s H vs Q E hr h => ?_)
  · obtain ⟨i, rfl, _⟩ := h
    rfl
  obtain ⟨i, rfl, q⟩ := h
  refine ⟨_, (pss_one (ps_ret (pe_and (pe_callB call_isi (by rfl) z_isinstance PyProof.Rows.boot_isinstance (pa_cons (pv 0) (pa_cons (pe_bltn (v := .ty _) (by rfl) z_int PyProof.Rows.boot_int (by rfl)) pa_nil))) (pe_one (pe_not (pe_callB call_isi (by rfl) z_isinstance PyProof.Rows.boot_isinstance (pa_cons (pv 0) (pa_cons (pe_bltn (v := .ty _) (by rfl) z_bool PyProof.Rows.boot_bool (by rfl)) pa_nil)))))))), ?_⟩
  refine ⟨_, rfl, _, "int", _, true, rfl, .int i, rfl, true, rfl, ?_⟩
  exact ⟨_, rfl, _, "bool", _, false, rfl, .int i, rfl, false, rfl, q⟩
def sp_kinds : Sp := fun vs H Q _ => ∃ (c : Int) (wl d : Addr) (ws : List Str) (S : List Str) (f : Str → Nat) (kvs : List (Key × V)), vs = [.int c, .ref wl, .ref d] ∧ H wl = some (.lst (ws.map V.str)) ∧ ws.length = 6 ∧ Rd H d (.dK kvs) ∧ Gd S f kvs ∧ kvs.length < 60 ∧
  ∀ (ka : Addr) (kds : List (Str × Str)) (H' : Hp), Same H H' → KdsAt H' ka kds → (kds.map (·.1)).Nodup → (∀ p ∈ kds, p.1 ∈ S) → (∀ g ∈ S, g ∈ ws.drop 3 → g ∈ kds.map (·.1)) → kds.length ≤ kvs.length → Q (.ref ka) H'
theorem ok_kinds {k : Nat} {f : Addr} {fd : FuncData} (F : Fun K "_law_kinds" "_law_kinds" s_law_kinds f fd) (z_sorted : mg "sorted" = none) (z_tuple : mg "tuple" = none) : FnOk P w K mg base CX0 (k + 1) f fd ["_law_cell", "_law_words_here", "_law_due"] sp_kinds := by
  refine F.ok sc_law_kinds (fun vs H Q E h => ?_) (fun cdv A outer s H vs Q E hr h => ?_)
  · obtain ⟨c, wl, d, ws, S, f, kvs, rfl, _⟩ := h
    rfl
  obtain ⟨c, wl, d, ws, S, fc, kvs, rfl, hw, hl, hd, gd, hlen, q⟩ := h
  have hu := hu_of hr
  refine ⟨_, (pss_cons (ps_set (i := 3) sc_law_kinds.nd rfl (Or.inl rfl) (pe_lst pa_nil : PE _ _ _))
    (pss_cons (ps_for PassesOwn.never rfl (pi_list (pe_callB (call_sortedDR rfl) (by rfl) z_sorted PyProof.Rows.boot_sorted (pa_cons (pv 2) pa_nil))) (pg_name (i := 4) sc_law_kinds.nd rfl (Or.inl rfl)) (pss_cons (ps_set (i := 5) sc_law_kinds.nd rfl (Or.inl rfl) (pe_op op_mod (pv 0) pe_int))
    (pss_cons (ps_set (i := 0) sc_law_kinds.nd rfl (Or.inl rfl) (pe_op op_fdiv (pv 0) pe_int))
    (pss_one (ps_if (pt_cmpR (r := rIn K false) op_in_seq (pv 4) (pe_slice (r := rSlL K) sl_list (pv 1) (po_some pe_int) po_none) rfl) (pss_one (ps_expr (pe_bm PySem.F.plainAttrs_list PySem.F.slot_list_append PySem.F.type_list_append mt_append (pv 3) (pa_cons (pe_tup (pa_cons (pv 4) (pa_cons pe_str pa_nil)) : PE _ _ _) pa_nil)))) (pss_one (ps_if (pt_cmpR op_gt (pv 5) pe_int (nomark _)) (pss_one (ps_expr (pe_bm PySem.F.plainAttrs_list PySem.F.slot_list_append PySem.F.type_list_append mt_append (pv 3) (pa_cons (pe_tup (pa_cons (pv 4) (pa_cons pe_str pa_nil)) : PE _ _ _) pa_nil)))) (pss_one (ps_if (pw_and (pt_cmpR op_eq (pv 5) pe_int (nomark _)) (pw_and1 (pt_cmpR op_eq (pe_dget hu (pv 2) (pv 4) (fun _ _ => rfl)) pe_int (nomark _)))).pt (pss_one (ps_expr (pe_bm PySem.F.plainAttrs_list PySem.F.slot_list_append PySem.F.type_list_append mt_append (pv 3) (pa_cons (pe_tup (pa_cons (pv 4) (pa_cons pe_str pa_nil)) : PE _ _ _) pa_nil)))) pss_nil)))))))))
    (pss_one (ps_ret (pe_callTy call_tupleF (by rfl) z_tuple PyProof.Rows.boot_tuple (pa_cons (pv 3) pa_nil)))))), ?_⟩
  have d2 : 2 ≤ sizeLine := by decide
  obtain ⟨ks, ek, ndk, lk, mk⟩ := gd.keys
  refine ⟨(by show 0 ≤ sizeLine; decide), fun lo hlo => ?_⟩
  have g1 := same_upd (o := .lst []) hlo
  have elo : (upd H lo (.lst [])) lo = some (.lst []) := upd_same
  have rdS : ∀ {H9 : Hp}, Same H H9 → Rd H9 d (.dK kvs) := fun g => by
    rcases hd with h | ⟨o, h⟩
    · exact .inl (g _ _ h)
    · exact .inr ⟨o, g _ _ h⟩
  generalize upd H lo (.lst []) = H1 at g1 elo ⊢
  refine ⟨_, rfl, d, kvs, ks, rfl, rdS g1, ek, by omega, fun l ss hl' pm _ => ?_⟩
  have g2 := same_upd (o := .lst (ss.map V.str)) hl'
  have el : (upd H1 l (.lst (ss.map V.str))) l = some (.lst (ss.map V.str)) := upd_same
  have elo2 := g2 _ _ elo
  generalize upd H1 l (.lst (ss.map V.str)) = H2 at g2 el elo2 ⊢
  have nds : ss.Nodup := pm.nodup_iff.mpr ndk
  have lss : ss.length = ks.length := pm.length_eq
  have nll : l ≠ lo := fun z => by rw [z, elo] at hl'; cases hl'
  refine ⟨l, rfl, ⟨_, SqL.of el⟩, ?_⟩
  refine for_list (xs := ss.map V.str) (fun i σ' H' => ∃ (c : Int) (ys : List V) (kds : List (Str × Str)) (s4 s5 : Option V), σ' = [some (.int c), some (.ref wl), some (.ref d), some (.ref lo), s4, s5] ∧ Same H H' ∧ H' l = some (.lst (ss.map V.str)) ∧ H' lo = some (.lst ys) ∧ Paired (PrV H') ys (kdV kds) ∧
    (∀ p ∈ kds, p.1 ∈ ss.take i) ∧ (kds.map (·.1)).Nodup ∧ kds.length ≤ i ∧ (∀ g ∈ ss.take i, g ∈ ws.drop 3 → g ∈ kds.map (·.1))) ?_ ?_ ?_ ?_
  · exact ⟨c, [], [], none, none, rfl, g1.trans g2, el, elo2, .nil, (fun p hp => nomatch hp), List.nodup_nil, Nat.le_refl _, (fun g hg => nomatch hg)⟩
  · rintro i σ' H' _ ⟨c, ys, kds, s4, s5, rfl, g, el', _⟩
    exact SqL.of el'
  · rintro i x σ' H' hx ⟨c, ys, kds, s4, s5, rfl, g, el', elo', pk, hin, nd, le, h3⟩
    rw [List.getElem?_map] at hx
    obtain ⟨y, hy, rfl⟩ := Option.map_eq_some_iff.mp hx
    have hi : i < ss.length := (List.getElem?_eq_some_iff.mp hy).1
    have hnew := nodup_new nds hy
    have htk := take_next hy
    have lys : ys.length = kds.length := by have := Paired.length pk; rw [this]; unfold kdV; simp
    have hin' : ∀ p ∈ kds, p.1 ∈ ss.take (i + 1) := fun p hp => by rw [htk]; exact List.mem_append.mpr (.inl (hin p hp))
    have more : ∀ (H3 : Hp) (kd : Str) (p : Addr), Same H' H3 → H3 p = none → ∃ H4, H4 = upd (upd H3 p (.tup [.str y, .str kd])) lo (.lst (ys ++ [.ref p])) ∧ Same H H4 ∧ H4 l = some (.lst (ss.map V.str)) ∧ H4 lo = some (.lst (ys ++ [.ref p])) ∧ Paired (PrV H4) (ys ++ [.ref p]) (kdV (kds ++ [(y, kd)])) ∧
        (∀ p ∈ kds ++ [(y, kd)], p.1 ∈ ss.take (i + 1)) ∧ ((kds ++ [(y, kd)]).map (·.1)).Nodup ∧ (kds ++ [(y, kd)]).length ≤ i + 1 ∧ (∀ g ∈ ss.take (i + 1), g ∈ ws.drop 3 → g ∈ (kds ++ [(y, kd)]).map (·.1)) ∧ (upd H3 p (.tup [.str y, .str kd])) lo = some (.lst ys) := by
      intro H3 kd p g3 hp
      have k1 := same_upd (o := .tup [.str y, .str kd]) hp
      have e1 := k1 _ _ (g3 _ _ elo')
      have tk : Tk (upd H3 p (.tup [.str y, .str kd])) (upd (upd H3 p (.tup [.str y, .str kd])) lo (.lst (ys ++ [.ref p]))) := Tk.lst e1
      refine ⟨_, rfl, same_set (g.trans (g3.trans k1)) hlo, by rw [upd_ne nll]; exact k1 _ _ (g3 _ _ el'), upd_same, ?_, ?_, ?_, ?_, ?_, e1⟩
      · unfold kdV
        rw [List.map_append]
        exact paired_appP (Paired.mapP pk fun _ _ z => prv_mono (g3.tk.trans (k1.tk.trans tk)) z) (.cons ⟨p, rfl, tk _ _ upd_same⟩ .nil)
      · intro p hp
        rcases List.mem_append.mp hp with h | h
        · exact hin' p h
        · rw [List.mem_singleton.mp h, htk]
          exact List.mem_append.mpr (.inr (List.mem_singleton.mpr rfl))
      · rw [List.map_append, List.nodup_append]
        refine ⟨nd, by simp, fun a ha b hb e => ?_⟩
        obtain ⟨p, hp, rfl⟩ := List.mem_map.mp ha
        simp at hb
        have := hin p hp
        rw [show p.1 = y from e.trans hb] at this
        exact hnew this
      · simp
        exact le
      · intro g hg h
        rw [List.map_append, List.mem_append]
        rw [htk] at hg
        rcases List.mem_append.mp hg with z | z
        · exact .inl (h3 g z h)
        · exact .inr (by rw [List.mem_singleton.mp z]; simp)
    refine ⟨_, rfl, _, _, rfl, rfl, (show (0 : Int) < 4 by decide), ?_⟩
    refine ⟨_, rfl, _, _, rfl, rfl, ⟨(show (0 : Int) < 4 by decide), (show (4 : Int) < 1073741824 by decide)⟩, ?_⟩
    dsimp only
    generalize c % 4 = kk
    generalize c / 4 = cc
    refine ⟨_, rfl, _, rfl, 3, rfl, wl, _, rfl, SqL.of (g _ _ hw), fun pw hpw => ?_⟩
    rw [cut_three ws hl]
    have k0 := same_upd (o := .lst ((ws.drop 3).map V.str)) hpw
    have e0 : (upd H' pw (.lst ((ws.drop 3).map V.str))) pw = some (.lst ((ws.drop 3).map V.str)) := upd_same
    generalize upd H' pw (.lst ((ws.drop 3).map V.str)) = H3 at k0 e0 ⊢
    have elo3 := k0 _ _ elo'
    refine ⟨pw, _, rfl, .inl (SqL.of e0), rfl, flat_strs _, _, rfl, ite2 (fun c1 => ?_) (fun c1 => ?_)⟩
    · refine ⟨_, rfl, .inl ⟨rfl, _, SqL.of elo3⟩, _, rfl, d2, fun p hp => ?_⟩
      obtain ⟨H4, eH4, m1, m2, m3, m4, m5, m6, m7, m8, m9⟩ := more H3 "number" p k0 hp
      refine ⟨lo, ys, _, rfl, rfl, m9, small1000 (by omega), ?_⟩
      rw [← eH4]
      exact ⟨_, _, _, _, _, rfl, m1, m2, m3, m4, m5, m6, m7, m8⟩
    have n3 : y ∉ ws.drop 3 := fun z => c1 ((inV_strsM y (ws.drop 3)).mpr z)
    have stay : ∃ kds', kds' = kds ∧ Same H H3 ∧ H3 l = some (.lst (ss.map V.str)) ∧ H3 lo = some (.lst ys) ∧ Paired (PrV H3) ys (kdV kds') ∧ (∀ p ∈ kds', p.1 ∈ ss.take (i + 1)) ∧ (kds'.map (·.1)).Nodup ∧ kds'.length ≤ i + 1 ∧ (∀ g ∈ ss.take (i + 1), g ∈ ws.drop 3 → g ∈ kds'.map (·.1)) := by
      refine ⟨kds, rfl, g.trans k0, k0 _ _ el', elo3, Paired.mapP pk fun _ _ z => prv_mono k0.tk z, hin', nd, by omega, fun g hg h => ?_⟩
      rw [htk] at hg
      rcases List.mem_append.mp hg with z | z
      · exact h3 g z h
      · rw [List.mem_singleton.mp z] at h; exact absurd h n3
    obtain ⟨kds', rfl, t1, t2, t3, t4, t5, t6, t7, t8⟩ := stay
    refine ⟨_, rfl, _, _, rfl, rfl, _, rfl, ite2 (fun _ => ?_) (fun _ => ?_)⟩
    · refine ⟨_, rfl, .inl ⟨rfl, _, SqL.of elo3⟩, _, rfl, d2, fun p hp => ?_⟩
      obtain ⟨H4, eH4, m1, m2, m3, m4, m5, m6, m7, m8, m9⟩ := more H3 "quiet" p k0 hp
      refine ⟨lo, ys, _, rfl, rfl, m9, small1000 (by omega), ?_⟩
      rw [← eH4]
      exact ⟨_, _, _, _, _, rfl, m1, m2, m3, m4, m5, m6, m7, m8⟩
    refine ⟨_, rfl, rfl, _, rfl, ite2 (fun _ => ?_) (fun _ => iteF ⟨_, _, _, _, _, rfl, t1, t2, t3, t4, t5, t6, t7, t8⟩)⟩
    have hv := gd.vl y ((mk y).mp (pm.mem_iff.mp (List.mem_of_getElem? hy)))
    have gv : DGet H3 d (.str y) (some (.int ((fc y : Nat) : Int))) := .inl ⟨kvs, Sum.inr y, rdS t1, rfl, hv.symm⟩
    refine ⟨_, rfl, _, rfl, d, _, rfl, gv, rfl, _, rfl, ite2 (fun _ => ?_) (fun _ => ⟨_, _, _, _, _, rfl, t1, t2, t3, t4, t5, t6, t7, t8⟩)⟩
    refine ⟨_, rfl, .inl ⟨rfl, _, SqL.of elo3⟩, _, rfl, d2, fun p hp => ?_⟩
    obtain ⟨H4, eH4, m1, m2, m3, m4, m5, m6, m7, m8, m9⟩ := more H3 "number" p k0 hp
    refine ⟨lo, ys, _, rfl, rfl, m9, small1000 (by omega), ?_⟩
    rw [← eH4]
    exact ⟨_, _, _, _, _, rfl, m1, m2, m3, m4, m5, m6, m7, m8⟩
  · rintro σ' H' ⟨c, ys, kds, s4, s5, rfl, g, el', elo', pk, hin, nd, le, h3⟩
    rw [List.length_map] at le hin h3
    rw [List.take_length] at hin h3
    refine ⟨_, rfl, lo, ys, rfl, SqL.of elo', fun ka o hka hdn => ?_⟩
    have k1 := same_upd (o := .frz o (.tup ys)) hka
    have ms : ∀ g, g ∈ ss ↔ g ∈ S := fun g => pm.mem_iff.trans (mk g)
    exact q ka kds _ (g.trans k1) ⟨o, ys, upd_same, hdn, Paired.mapP pk fun _ _ z => prv_mono k1.tk z⟩ nd (fun p hp => (ms _).mp (hin p hp)) (fun g hg h => h3 g ((ms g).mpr hg) h) (by omega)
def sp_told : Sp := fun vs H Q _ => ∃ (a d : Addr) (ka kd : List (Key × V)) (S : List Str) (f : Str → Nat), vs = [.ref a, .ref d] ∧ H a = some (.dK ka) ∧ Rd H d (.dK kd) ∧ Gd S f ka ∧ Gd S f kd ∧ a ≠ d ∧ ∀ (H' : Hp), (∀ b o, b ≠ d → H b = some o → H' b = some o) → Rd H' d (.dK kd) → Q (.bl true) H'
theorem ok_told {k : Nat} {f g1 : Addr} {fd gd1 : FuncData} (F : Fun K "_law_told" "_law_told" s_law_told f fd) (z_isinstance : mg "isinstance" = none) (z_dict : mg "dict" = none) (z_len : mg "len" = none) (G_law_whole : FnB P w K mg base k "_law_whole" g1 gd1 ["_law_found"] sp_whole) : FnOk P w K mg base CX0 (k + 1) f fd ["_law_found", "_law_due"] sp_told := by
  refine F.ok sc_law_told (fun vs H Q E h => ?_) (fun cdv A outer s H vs Q E hr h => ?_)
  · obtain ⟨a, d, ka, kd, S, f, rfl, _⟩ := h
    rfl
  obtain ⟨a, d, ka, kd, S, fc, rfl, ha, hd, ga, gd, hne, q⟩ := h
  have hu := hu_of hr
  refine ⟨_, (pss_cons (ps_if (pw_or (pt_not (pt_val (pe_callB call_isiD (by rfl) z_isinstance PyProof.Rows.boot_isinstance (pa_cons (pv 0) (pa_cons (pe_bltn (v := .ty _) (by rfl) z_dict PyProof.Rows.boot_dict (by rfl)) pa_nil))))) (pw_or1 (pt_cmpR op_ne (pe_callB call_lenDR (by rfl) z_len PySem.boot_len (pa_cons (pv 0) pa_nil)) (pe_callB call_lenDR (by rfl) z_len PySem.boot_len (pa_cons (pv 1) pa_nil)) (nomark _)))).pt (pss_one (ps_ret pe_bl)) pss_nil)
    (pss_cons (ps_for PassesOwn.never rfl (pi_dict (pv 1)) (pg_name (i := 2) sc_law_told.nd rfl (Or.inl rfl)) (pss_one (ps_if (pw_or (pt_not (pt_val (pe_call G_law_whole.ok hr (by rfl) G_law_whole.gl G_law_whole.kp G_law_whole.bd .nil pass0 (pa_cons (pe_dget1 hu (pv 0) (pv 2) ⟨rfl, rfl, rfl, rfl⟩) pa_nil)))) (pw_or1 (pt_cmpR op_ne (pe_dget hu (pv 0) (pv 2) (fun _ _ => rfl)) (pe_dget hu (pv 1) (pv 2) (fun _ _ => rfl)) (nomark _)))).pt (pss_one (ps_ret pe_bl)) pss_nil)))
    (pss_one (ps_ret pe_bl)))), ?_⟩
  obtain ⟨k1, _, nd1, l1, m1⟩ := ga.keys
  obtain ⟨k2, _, nd2, l2, m2⟩ := gd.keys
  have hlen : ka.length = kd.length := by
    have h1 := nodup_le nd1 fun g hg => (m2 g).mpr ((m1 g).mp hg)
    have h2 := nodup_le nd2 fun g hg => (m1 g).mpr ((m2 g).mp hg)
    omega
  refine ⟨_, rfl, a, ka, "dict", true, rfl, .inl ha, rfl, _, rfl, iteF ⟨_, rfl, a, ka, rfl, .inl ha, _, rfl, d, kd, rfl, hd, rfl, _, rfl, ite2 (fun c => ?_) (fun _ => ?_)⟩⟩
  · rw [hlen] at c
    simp at c
  rcases hd with h | ⟨o, h⟩
  · refine ⟨_, rfl, d, kd, rfl, .inr ⟨h, fun o => ?_⟩⟩
    have sd0 : ∀ b u, b ≠ d → H b = some u → (upd H d (.frz o (.dK kd))) b = some u := fun b u n e => by rw [upd_ne n]; exact e
    have ed0 : (upd H d (.frz o (.dK kd))) d = some (.frz o (.dK kd)) := upd_same
    generalize upd H d (.frz o (.dK kd)) = H1 at sd0 ed0 ⊢
    refine for_dict (o := o) (a := d) (kvs := kd) (fun i σ' H' => ∃ s2, σ' = [some (.ref a), some (.ref d), s2] ∧ Same H1 H') ⟨none, rfl, .refl _⟩ ?_ ?_ ?_
    · rintro i σ' H' _ ⟨s2, rfl, g⟩
      exact g _ _ ed0
    · rintro i p σ' H' hp ⟨s2, rfl, g⟩
      obtain ⟨g0, hg0, rfl⟩ := gd.nm p (List.mem_of_getElem? hp)
      have gva : DGet H' a (.str g0) (some (.int ((fc g0 : Nat) : Int))) := .inl ⟨ka, Sum.inr g0, .inl (g _ _ (sd0 _ _ hne ha)), rfl, (ga.vl g0 hg0).symm⟩
      have gvd : DGet H' d (.str g0) (some (.int ((fc g0 : Nat) : Int))) := .inl ⟨kd, Sum.inr g0, .inr ⟨o, g _ _ ed0⟩, rfl, (gd.vl g0 hg0).symm⟩
      refine ⟨_, rfl, a, rfl, .inl ⟨ka, .inl (g _ _ (sd0 _ _ hne ha))⟩, _, rfl, _, gva, _, rfl, _, rfl, iteF ⟨_, rfl, _, rfl, a, _, rfl, gva, _, rfl, _, rfl, d, _, rfl, gvd, rfl, _, rfl, ite2 (fun c => ?_) (fun _ => ⟨_, rfl, g⟩)⟩⟩
      simp at c
    · rintro σ' H' ⟨s2, rfl, g⟩
      exact q H' (fun b u n e => g _ _ (sd0 b u n e)) (.inr ⟨o, g _ _ ed0⟩)
  · refine ⟨_, rfl, d, kd, rfl, .inl ⟨o, h, ?_⟩⟩
    obtain ⟨H1, eH1⟩ : ∃ H1, H1 = H := ⟨_, rfl⟩
    have sd0 : ∀ b u, b ≠ d → H b = some u → H1 b = some u := fun b u n e => by rw [eH1]; exact e
    have ed0 : H1 d = some (.frz o (.dK kd)) := by rw [eH1]; exact h
    rw [← eH1]
    refine for_dict (o := o) (a := d) (kvs := kd) (fun i σ' H' => ∃ s2, σ' = [some (.ref a), some (.ref d), s2] ∧ Same H1 H') ⟨none, rfl, .refl _⟩ ?_ ?_ ?_
    · rintro i σ' H' _ ⟨s2, rfl, g⟩
      exact g _ _ ed0
    · rintro i p σ' H' hp ⟨s2, rfl, g⟩
      obtain ⟨g0, hg0, rfl⟩ := gd.nm p (List.mem_of_getElem? hp)
      have gva : DGet H' a (.str g0) (some (.int ((fc g0 : Nat) : Int))) := .inl ⟨ka, Sum.inr g0, .inl (g _ _ (sd0 _ _ hne ha)), rfl, (ga.vl g0 hg0).symm⟩
      have gvd : DGet H' d (.str g0) (some (.int ((fc g0 : Nat) : Int))) := .inl ⟨kd, Sum.inr g0, .inr ⟨o, g _ _ ed0⟩, rfl, (gd.vl g0 hg0).symm⟩
      refine ⟨_, rfl, a, rfl, .inl ⟨ka, .inl (g _ _ (sd0 _ _ hne ha))⟩, _, rfl, _, gva, _, rfl, _, rfl, iteF ⟨_, rfl, _, rfl, a, _, rfl, gva, _, rfl, _, rfl, d, _, rfl, gvd, rfl, _, rfl, ite2 (fun c => ?_) (fun _ => ⟨_, rfl, g⟩)⟩⟩
      simp at c
    · rintro σ' H' ⟨s2, rfl, g⟩
      exact q H' (fun b u n e => g _ _ (sd0 b u n e)) (.inr ⟨o, g _ _ ed0⟩)
end
end K10
set_option Elab.async false
set_option linter.all false
set_option maxRecDepth 100000
set_option maxHeartbeats 4000000
namespace L2
open PySem
theorem fold_glue {z : Array Nat} (hz : z = #[]) : ∀ (r : List Nat) (acc : Array Nat), List.foldl (fun acc (p : Str) => acc ++ z ++ p.cps) acc (r.map fun c => (⟨#[c]⟩ : Str)) = acc ++ r.toArray
  | [], acc => by simp
  | c :: r, acc => by
    rw [List.map_cons, List.foldl_cons, fold_glue hz r]
    subst hz
    simp
theorem join_chars {z : Str} (hz : z.cps = #[]) (cs : List Nat) : (Txt.join z (cs.map fun c => (⟨#[c]⟩ : Str))).cps = cs.toArray := by
  unfold Txt.join Builtin.Str.glued
  cases cs with
  | nil => rfl
  | cons c r =>
    show List.foldl (fun acc (p : Str) => acc ++ z.cps ++ p.cps) #[c] (r.map fun c => (⟨#[c]⟩ : Str)) = _
    rw [fold_glue hz]
    simp
def ltD (L : Str) (n : Nat) : Nat := L.cps.toList.getD n 0
theorem two_filters {α : Type} (p : α → Bool) : ∀ l : List α, (l.filter p).length + (l.filter fun x => !p x).length = l.length
  | [] => rfl
  | a :: l => by
    have ih := two_filters p l
    cases h : p a <;> simp [h] <;> omega
def wordAt (L : Str) (ns : List Nat) (p s k : Nat) : Str := ⟨((ns.set p ((s + k + 1) % 26)).map (ltD L)).toArray⟩
theorem word_inj {L : Str} (hL : L.cps.toList.length = 26) (nd : L.cps.toList.Nodup) {ns : List Nat} {p s i j : Nat} (hp : p < ns.length) (hi : i < 26) (hj : j < 26) (e : wordAt L ns p s i = wordAt L ns p s j) : i = j := by
  unfold wordAt at e
  have e1 : (ns.set p ((s + i + 1) % 26)).map (ltD L) = (ns.set p ((s + j + 1) % 26)).map (ltD L) := by
    have := congrArg (fun x : Str => x.cps.toList) e
    simpa using this
  have e2 := congrArg (fun l => l[p]?) e1
  simp [hp] at e2
  unfold ltD at e2
  have h1 : (s + i + 1) % 26 < L.cps.toList.length := by omega
  have h2 : (s + j + 1) % 26 < L.cps.toList.length := by omega
  rw [List.getD_eq_getElem?_getD, List.getD_eq_getElem?_getD, List.getElem?_eq_getElem h1, List.getElem?_eq_getElem h2] at e2
  simp only [Option.getD_some] at e2
  have := (List.getElem_inj nd).mp e2
  omega
def kept11 : List Str := ["let", "in", "if", "then", "else", "say", "ask", "stop", "where", "quiet", "number"]
theorem numV_set (ns : List Nat) (p n : Nat) : (numV ns).set p (.int (n : Int)) = numV (ns.set p n) := by unfold numV; rw [List.map_set]
end L2
namespace K10
open PySem PySem.Spec L2 PyProof.Rows
abbrev s_law_words : Stmt := top 15
theorem sc_law_words : FnScope ["_law_cell", "_law_many", "_law_letters", "_law_long", "_law_at", "_law_rest", "_law_signs", "_law_k", "_law_words_here", "_law_word"] ["_law_cell", "_law_many"] (defScope s_law_words) := ⟨rfl, rfl, rfl, by decide +kernel, rfl, by decide +kernel, by decide +kernel⟩
section
variable {P : Program} {w : World} {K : PySem.W.Frag} {mg : Str → Option Value} {base : Heap}
def sp_words : Sp := fun vs H Q _ => ∃ (c : Int), vs = [.int c, .int 6] ∧ ∀ (l : Addr) (H' : Hp) (ws : List Str), Same H H' → H' l = some (.lst (ws.map V.str)) → ws.length = 6 → ws.Nodup → Q (.ref l) H'
theorem ok_words {k : Nat} {f : Addr} {fd : FuncData} (F : Fun K "_law_words" "_law_words" s_law_words f fd) (z_range : mg "range" = none) : FnOk P w K mg base CX0 (k + 1) f fd ["_law_cell", "_law_many"] sp_words := by
  refine F.ok sc_law_words (fun vs H Q E h => ?_) (fun cdv A outer s H vs Q E hr h => ?_)
  · obtain ⟨c, rfl, _⟩ := h
    rfl
  obtain ⟨c, rfl, q⟩ := h
  refine ⟨_, (pss_cons (ps_set (i := 2) sc_law_words.nd rfl (Or.inr rfl) pe_str)
    (pss_cons (ps_set (i := 3) sc_law_words.nd rfl (Or.inl rfl) (pe_op op_add pe_int (pe_op op_mod (pv 0) pe_int)))
    (pss_cons (ps_set (i := 4) sc_law_words.nd rfl (Or.inl rfl) (pe_op op_mod (pe_op op_fdiv (pv 0) pe_int) (pv 3)))
    (pss_cons (ps_set (i := 5) sc_law_words.nd rfl (Or.inl rfl) (pe_op op_mod (pe_op op_fdiv (pv 0) pe_int) (pe_op op_pow pe_int pe_int)))
    (pss_cons (ps_set (i := 6) sc_law_words.nd rfl (Or.inl rfl) (pe_lst pa_nil : PE _ _ _))
    (pss_cons (ps_for PassesOwn.never rfl (pi_range1 (by rfl) z_range (pa_cons (pv 3) pa_nil)) (pg_name (i := 7) sc_law_words.nd rfl (Or.inl rfl)) (pss_cons (ps_expr (pe_bm PySem.F.plainAttrs_list PySem.F.slot_list_append PySem.F.type_list_append mt_append (pv 6) (pa_cons (pe_op op_mod (pv 5) pe_int) pa_nil)))
    (pss_one (ps_set (i := 5) sc_law_words.nd rfl (Or.inl rfl) (pe_op op_fdiv (pv 5) pe_int)))))
    (pss_cons (ps_set (i := 8) sc_law_words.nd rfl (Or.inl rfl) (pe_lst pa_nil : PE _ _ _))
    (pss_cons (ps_for PassesOwn.never rfl (pi_range1 (by rfl) z_range (pa_cons pe_int pa_nil)) (pg_name (i := 7) sc_law_words.nd rfl (Or.inl rfl)) (pss_cons (ps_asg (pe_op op_mod (pe_op op_add (pe_ix (r := rIxL K) ix_list (pv 6) (pv 4) (fun _ _ => rfl)) pe_int) pe_int) (pg_sub (pv 6) (pv 4) set_list))
    (pss_cons (ps_set (i := 9) sc_law_words.nd rfl (Or.inl rfl) (pe_bm PySem.F.plainAttrs_str PySem.F.slot_str_join PySem.F.type_str_join mt_join pe_str (pa_cons (pe_compB ["_law_sign", "_law_letters"] [none, some 2] rfl (pi_list (pv 6)) (fun _ _ _ _ _ => (pg_name (i := 0) (show List.Nodup (["_law_sign", "_law_letters"] : List Str) by decide +kernel) rfl (Or.inl rfl))) (fun _ _ _ _ _ => pts_nil) (fun _ _ _ _ _ => (pe_ix ix_str (pv 1) (pv 0) (fun _ _ => rfl))) rfl) pa_nil)))
    (pss_one (ps_if (pt_cmpR (r := rIn K true) op_notIn_seq (pv 9) (pe_tupR [.str "let", .str "in", .str "if", .str "then", .str "else", .str "say", .str "ask", .str "stop", .str "where", .str "quiet", .str "number"] (by rfl) : PE _ _ _) rfl) (pss_one (ps_expr (pe_bm PySem.F.plainAttrs_list PySem.F.slot_list_append PySem.F.type_list_append mt_append (pv 8) (pa_cons (pv 9) pa_nil)))) pss_nil)))))
    (pss_one (ps_ret (pe_slice (r := rSlL K) sl_list (pv 8) po_none (po_some (pv 1))))))))))))), ?_⟩
  generalize hL : Str.ofString "abcdefghijklmnopqrstuvwxyz" = L
  have hLlen : L.cps.toList.length = 26 := by rw [← hL]; decide +kernel
  have hLl : L.length ≤ 1000 := by rw [← hL]; decide +kernel
  have hLn : L.cps.toList.Nodup := by rw [← hL]; decide +kernel
  have n0 := Int.emod_nonneg c (show (8 : Int) ≠ 0 by decide)
  have n1 := Int.emod_lt_of_pos c (show (0 : Int) < 8 by decide)
  refine ⟨_, rfl, _, _, rfl, rfl, (show (0 : Int) < 8 by decide), _, _, rfl, rfl, ?_⟩
  refine ⟨_, rfl, _, _, rfl, rfl, ⟨(show (0 : Int) < 8 by decide), (show (8 : Int) < 1073741824 by decide)⟩, _, rfl, _, _, rfl, rfl, (show (0 : Int) < 1 + c % 8 by omega), ?_⟩
  have a0 := Int.emod_nonneg (c / 8) (show 1 + c % 8 ≠ 0 by omega)
  have a1 := Int.emod_lt_of_pos (c / 8) (show (0 : Int) < 1 + c % 8 by omega)
  refine ⟨_, rfl, _, _, rfl, rfl, ⟨(show (0 : Int) < 64 by decide), (show (64 : Int) < 1073741824 by decide)⟩, _, _, rfl, rfl, ⟨by decide, by decide, by decide⟩, _, _, rfl, rfl, (show (0 : Int) < 26 ^ 8 by decide), ?_⟩
  dsimp only
  generalize c / 64 % 26 ^ (8 : Int).toNat = rest0
  obtain ⟨pn, epn⟩ : ∃ pn : Nat, (pn : Int) = c / 8 % (1 + c % 8) := ⟨(c / 8 % (1 + c % 8)).toNat, by omega⟩
  obtain ⟨N, eN⟩ : ∃ N : Nat, (N : Int) = 1 + c % 8 := ⟨(1 + c % 8).toNat, by omega⟩
  rw [← epn, ← eN]
  have hpN : pn < N := by omega
  have hN8 : N ≤ 8 := by omega
  refine ⟨(by show 0 ≤ sizeLine; decide), fun sg hsg => ?_⟩
  have g0 := same_upd (o := .lst []) hsg
  have es0 : (upd H sg (.lst [])) sg = some (.lst []) := upd_same
  show tSeq _ _ _ _ (upd H sg (.lst []))
  generalize upd H sg (.lst []) = H0 at g0 es0 ⊢
  refine ⟨_, rfl, (N : Int), rfl, by omega, by omega, ?_⟩
  refine for_range (n := ((N : Nat) : Int).toNat) (fun i σ' H' => ∃ (rest : Int) (ns : List Nat) (s7 : Option V), σ' = [some (.int c), some (.int 6), some (.str L), some (.int (N : Int)), some (.int (pn : Int)), some (.int rest), some (.ref sg), s7, none, none] ∧ Same H H' ∧ H' sg = some (.lst (numV ns)) ∧ ns.length = i ∧ ∀ x ∈ ns, x < 26) ⟨rest0, [], none, rfl, g0, es0, rfl, (fun x hx => nomatch hx)⟩ ?_ ?_
  · rintro i σ' H' hi ⟨rest, ns, s7, rfl, g, es, ln, hx⟩
    have hi' : i < N := by simpa using hi
    have m0 := Int.emod_nonneg rest (show (26 : Int) ≠ 0 by decide)
    have m1 := Int.emod_lt_of_pos rest (show (0 : Int) < 26 by decide)
    obtain ⟨rn, ern⟩ : ∃ rn : Nat, (rn : Int) = rest % 26 := ⟨(rest % 26).toNat, by omega⟩
    refine ⟨_, rfl, .inl ⟨rfl, _, SqL.of es⟩, _, rfl, _, _, rfl, rfl, (show (0 : Int) < 26 by decide), sg, _, _, rfl, rfl, es, small1000 (by unfold numV; rw [List.length_map]; omega), ?_⟩
    refine ⟨_, rfl, _, _, rfl, rfl, ⟨(show (0 : Int) < 26 by decide), (show (26 : Int) < 1073741824 by decide)⟩, ?_⟩
    refine ⟨_, ns ++ [rn], _, rfl, same_set g hsg, ?_, by simp [ln], fun x hx' => ?_⟩
    · rw [upd_same]
      unfold numV
      rw [List.map_append]
      show some (HO.lst (_ ++ [V.int (rest % 26)])) = _
      rw [← ern]
      rfl
    · rcases List.mem_append.mp hx' with h | h
      · exact hx x h
      · rw [List.mem_singleton.mp h]; omega
  rintro σ' H1 ⟨rest, ns, s7, rfl, g1, es1, ln, hx⟩
  have ln' : ns.length = N := by rw [ln]; simp
  refine ⟨(by show 0 ≤ sizeLine; decide), fun wo hwo => ?_⟩
  have g2 := same_upd (o := .lst []) hwo
  have ew0 : (upd H1 wo (.lst [])) wo = some (.lst []) := upd_same
  have es2 := g2 _ _ es1
  have hwoH : H wo = none := g1.free hwo
  have nsw : sg ≠ wo := fun z => by rw [← z, es1] at hwo; cases hwo
  show tSeq _ _ _ _ (upd H1 wo (.lst []))
  generalize upd H1 wo (.lst []) = H2 at g2 ew0 es2 ⊢
  obtain ⟨s0, es00⟩ : ∃ s0, ns[pn]? = some s0 := ⟨_, List.getElem?_eq_getElem (by omega)⟩
  have hs0 : s0 < 26 := hx s0 (List.mem_of_getElem? es00)
  have hset : ns.set pn ((s0 + 0) % 26) = ns := by
    rw [Nat.add_zero, Nat.mod_eq_of_lt hs0]
    apply List.ext_getElem?
    intro j
    rw [List.getElem?_set]
    by_cases e : pn = j
    · subst e
      rw [if_pos rfl, if_pos (by omega), es00]
    · rw [if_neg e]
  refine ⟨26, rfl, by decide, by decide, ?_⟩
  refine for_range (n := (26 : Int).toNat) (fun i σ' H' => ∃ (s7 s9 : Option V), σ' = [some (.int c), some (.int 6), some (.str L), some (.int (N : Int)), some (.int (pn : Int)), some (.int rest), some (.ref sg), s7, some (.ref wo), s9] ∧ Same H H' ∧ H' sg = some (.lst (numV (ns.set pn ((s0 + i) % 26)))) ∧ H' wo = some (.lst ((((List.range i).map (wordAt L ns pn s0)).filter fun x => !kept11.contains x).map V.str))) ?_ ?_ ?_
  · exact ⟨_, none, rfl, g1.trans g2, by rw [hset]; exact es2, ew0⟩
  · rintro i σ' H' hi ⟨s7, s9, rfl, g, es, ew⟩
    have hi26 : i < 26 := by simpa using hi
    obtain ⟨vv, evv⟩ : ∃ vv, vv = (s0 + i) % 26 := ⟨_, rfl⟩
    rw [← evv] at es
    have atp : atI (numV (ns.set pn vv)) (pn : Int) = some (.int (vv : Int)) := by
      refine atI_nat ?_
      unfold numV
      rw [List.getElem?_map, List.getElem?_set_self (by omega)]
      rfl
    have lset : (numV (ns.set pn vv)).length = N := by unfold numV; rw [List.length_map, List.length_set, ln']
    have hix : ixN (numV (ns.set pn vv)).length (pn : Int) = some pn := by
      rw [lset]
      unfold ixN
      rw [if_pos (by omega), if_pos (by omega)]
      simp
    have enew : ((vv : Int) + 1) % 26 = (((s0 + (i + 1)) % 26 : Nat) : Int) := by omega
    refine ⟨_, rfl, _, rfl, sg, _, _, _, rfl, rfl, SqL.of es, atp, _, _, rfl, rfl, _, _, rfl, rfl, (show (0 : Int) < 26 by decide), _, rfl, _, rfl, sg, _, _, pn, rfl, rfl, es, hix, ?_⟩
    obtain ⟨ms, ems⟩ : ∃ ms, ms = ns.set pn ((s0 + (i + 1)) % 26) := ⟨_, rfl⟩
    have eset : (numV (ns.set pn vv)).set pn (.int (((vv : Int) + 1) % 26)) = numV ms := by rw [enew, numV_set, List.set_set, ems]
    show tSeq _ _ _ _ (upd H' sg (.lst ((numV (ns.set pn vv)).set pn (.int (((vv : Int) + 1) % 26)))))
    rw [eset]
    have g3 : Same H (upd H' sg (.lst (numV ms))) := same_set g hsg
    have es3 : (upd H' sg (.lst (numV ms))) sg = some (.lst (numV ms)) := upd_same
    have ew3 : (upd H' sg (.lst (numV ms))) wo = some (.lst ((((List.range i).map (wordAt L ns pn s0)).filter fun x => !kept11.contains x).map V.str)) := by rw [upd_ne (Ne.symm nsw)]; exact ew
    generalize upd H' sg (.lst (numV ms)) = H3 at g3 es3 ew3 ⊢
    have lms : ms.length = N := by rw [ems, List.length_set, ln']
    have hms : ∀ x ∈ ms, x < 26 := fun x hx' => by
      rw [ems] at hx'
      rcases List.mem_or_eq_of_mem_set hx' with h | h
      · exact hx x h
      · omega
    refine ⟨rfl, _, rfl, sg, rfl, ⟨_, SqL.of es3⟩, fun acc hacc => ?_⟩
    refine comp_listR (xs := numV ms) (fun j H' => Same H3 H' ∧ H' acc = some (.lst (((ms.take j).map fun n => (⟨#[ltD L n]⟩ : Str)).map V.str))) ⟨same_upd hacc, upd_same⟩ (fun j H' _ h => SqL.of (h.1 _ _ es3)) ?_ ?_
    · rintro j x Hx hxj ⟨gx, ex⟩
      obtain ⟨n, hn, rfl⟩ : ∃ n, ms[j]? = some n ∧ x = V.int (n : Int) := by
        unfold numV at hxj
        rw [List.getElem?_map] at hxj
        obtain ⟨n, h1, h2⟩ := Option.map_eq_some_iff.mp hxj
        exact ⟨n, h1, h2.symm⟩
      have hj : j < ms.length := (List.getElem?_eq_some_iff.mp hn).1
      have hn26 := hms n (List.mem_of_getElem? hn)
      have atl : atI L.cps.toList (n : Int) = some (ltD L n) := by
        refine atI_nat ?_
        unfold ltD
        rw [List.getD_eq_getElem?_getD, List.getElem?_eq_getElem (by omega)]
        rfl
      refine ⟨.skip (.keep .nil), _, rfl, _, rfl, L, _, _, rfl, rfl, line1000 hLl, atl, _, ex, small1000 (by simp; omega), same_set gx hacc, ?_⟩
      rw [upd_same, take_next hn, List.map_append, List.map_append]
      rfl
    rintro H4 ⟨g4, e4⟩
    have lnm : (numV ms).length = ms.length := by unfold numV; rw [List.length_map]
    rw [lnm, List.take_length] at e4
    have eys : (ms.map fun n => (⟨#[ltD L n]⟩ : Str)) = (ms.map (ltD L)).map fun c => (⟨#[c]⟩ : Str) := by rw [List.map_map]; rfl
    have eW : ∀ z : Str, z.cps = #[] → Txt.join z (ms.map fun n => (⟨#[ltD L n]⟩ : Str)) = wordAt L ns pn s0 i := fun z hz => by
      have h1 := join_chars hz (ms.map (ltD L))
      rw [← eys] at h1
      unfold wordAt
      rw [show s0 + i + 1 = s0 + (i + 1) by omega, ← ems, ← h1]
    have hsum : ((ms.map fun n => (⟨#[ltD L n]⟩ : Str)).map (·.length)).sum + (ms.map fun n => (⟨#[ltD L n]⟩ : Str)).length ≤ 1048576 := by
      have key : ∀ l : List Nat, ((l.map fun n => (⟨#[ltD L n]⟩ : Str)).map (·.length)).sum = l.length := by
        intro l
        induction l with
        | nil => rfl
        | cons a l ih =>
          rw [List.map_cons, List.map_cons, List.sum_cons, ih, List.length_cons]
          show 1 + l.length = _
          omega
      rw [key, List.length_map]
      omega
    refine ⟨_, acc, _, rfl, rfl, e4, by decide +kernel, hsum, ?_⟩
    rw [eW _ (by decide +kernel)]
    generalize hwd : wordAt L ns pn s0 i = wd0
    have g34 := g3.trans g4
    have es4 := g4 _ _ es3
    have ew4 := g4 _ _ ew3
    refine ⟨_, rfl, (by show 11 ≤ sizeLine; decide), fun pt hpt => ⟨pt, kept11.map V.str, rfl, .inr (SqT.of upd_same), rfl, rfl, _, rfl, ?_⟩⟩
    have k5 := same_upd (o := .tup (kept11.map V.str)) hpt
    have es5 := k5 _ _ es4
    have ew5 := k5 _ _ ew4
    have hcon : (kept11.contains wd0 = true) ↔ inV (.str wd0) (kept11.map V.str) = true := by rw [inV_strsM, List.contains_iff_mem]
    have hrange : ((List.range (i + 1)).map (wordAt L ns pn s0)).filter (fun x => !kept11.contains x) = (((List.range i).map (wordAt L ns pn s0)).filter fun x => !kept11.contains x) ++ (if kept11.contains wd0 = true then [] else [wd0]) := by
      rw [List.range_succ, List.map_append, List.filter_append, List.map_cons, List.map_nil, hwd]
      congr 1
      by_cases h : kept11.contains wd0 = true
      · rw [if_pos h, List.filter_cons_of_neg (by rw [h]; decide)]
        rfl
      · have h' : kept11.contains wd0 = false := by
          cases e : kept11.contains wd0 with
          | true => exact absurd e h
          | false => rfl
        rw [if_neg h, List.filter_cons_of_pos (by rw [h']; rfl)]
        rfl
    refine ite2 (fun c1 => ?_) (fun c1 => ?_)
    · have nc : ¬ kept11.contains wd0 = true := fun z => by
        rw [hcon.mp z] at c1
        cases c1
      have lfl : ((((List.range i).map (wordAt L ns pn s0)).filter fun x => !kept11.contains x).map V.str).length ≤ i := by
        rw [List.length_map]
        have := List.length_filter_le (fun x => !kept11.contains x) ((List.range i).map (wordAt L ns pn s0))
        simpa using this
      refine ⟨_, rfl, .inl ⟨rfl, _, SqL.of ew5⟩, _, rfl, wo, _, _, rfl, rfl, ew5, small1000 (by omega), ?_⟩
      refine ⟨_, _, rfl, same_set (g34.trans k5) hwoH, by rw [upd_ne nsw, ← ems]; exact es5, ?_⟩
      rw [upd_same, hrange, if_neg nc, List.map_append]
      rfl
    · have yc : kept11.contains wd0 = true := by
        refine hcon.mpr ?_
        cases h : inV (.str wd0) (kept11.map V.str) with
        | true => rfl
        | false => exact absurd (by rw [h]; rfl) c1
      refine ⟨_, _, rfl, g34.trans k5, by rw [← ems]; exact es5, ?_⟩
      rw [hrange, if_pos yc, List.append_nil]
      exact ew5
  · rintro σ' H' ⟨s7, s9, rfl, g, es, ew⟩
    obtain ⟨all, eall⟩ : ∃ all, all = (List.range 26).map (wordAt L ns pn s0) := ⟨_, rfl⟩
    have hall : H' wo = some (.lst ((all.filter fun x => !kept11.contains x).map V.str)) := by rw [eall]; exact ew
    have nda : all.Nodup := by
      rw [eall]
      refine List.pairwise_map.mpr ?_
      refine List.Pairwise.imp_of_mem ?_ List.nodup_range
      intro a b ha hb hab e
      exact hab (word_inj hLlen hLn (by omega) (List.mem_range.mp ha) (List.mem_range.mp hb) e)
    have la : all.length = 26 := by rw [eall]; simp
    have h15 : 6 ≤ (all.filter fun x => !kept11.contains x).length := by
      have h1 := two_filters (fun x => kept11.contains x) all
      have h2 := nodup_le (T := kept11) (nda.filter (fun x => kept11.contains x)) fun g hg => by
        have := (List.mem_filter.mp hg).2
        exact List.contains_iff_mem.mp this
      have h3 : kept11.length = 11 := rfl
      omega
    refine ⟨_, rfl, _, rfl, 6, rfl, wo, _, rfl, SqL.of hall, fun p hp => ?_⟩
    have ecut : cutV ((all.filter fun x => !kept11.contains x).map V.str) none (some 6) = ((all.filter fun x => !kept11.contains x).take 6).map V.str := by
      have e : HT.sIx ((all.filter fun x => !kept11.contains x).map V.str).length 0 none = 0 := rfl
      have e2 := HT.sIx_nat ((all.filter fun x => !kept11.contains x).map V.str).length ((all.filter fun x => !kept11.contains x).map V.str).length 6
      rw [show ((6 : Nat) : Int) = 6 from rfl] at e2
      unfold cutV
      rw [e, e2, List.length_map, Nat.min_eq_left h15]
      simp
    rw [ecut]
    exact q p _ ((all.filter fun x => !kept11.contains x).take 6) (g.trans (same_upd hp)) upd_same (by rw [List.length_take]; omega) ((nda.filter _).take)
end
end K10
set_option Elab.async false
set_option linter.all false
set_option maxRecDepth 100000
set_option maxHeartbeats 4000000
namespace L2
open PySem
def rDClear : V → List V → Hp → VK → Prop := fun x vs H Q => ∃ (a : Addr) (kvs : List (Key × V)), x = .ref a ∧ vs = [] ∧ H a = some (.dK kvs) ∧ Q .non (upd H a (.dK []))
theorem mt_dclear {X : Cx} : MtM X "dict.clear" rDClear := by
  intro pins s σ H x vs v us Q I rx rv h
  obtain ⟨a, kvs, rfl, rfl, ha, q⟩ := h
  cases rx
  have hus := rv.zero
  subst hus
  exact d_clear I ha fun s' I' => ⟨.non, _, I', rfl, q⟩
theorem SbD.seq {K : PySem.W.Frag} {d : Addr} {H H' : Hp} (h : SbD d H H') {kvs : List (Key × V)} (hd : H d = some (.dK kvs)) {a : Addr} {xs : List V} (s : SqL K H a xs) : SqL K H' a xs := by
  rcases s with (s | ⟨o, s⟩) | s
  · exact .inl (.inl (h a _ (fun z => by rw [z, hd] at s; cases s) s))
  · exact .inl (.inr ⟨o, h a _ (fun z => by rw [z, hd] at s; cases s) s⟩)
  · exact .inr s
theorem subs_len (t : Tr) : t.subs.length = t.size := by rw [← psub_snd t [], List.length_map, psub_len]
theorem cnt_le {f : Str → Nat} {S : List Str} {t : Tr} (h : AllOk f S t) : ∀ p ∈ t.subs, (cnt1 p).length ≤ 10 := fun p hp => by
  cases p with
  | gap g as =>
    obtain ⟨h3, _⟩ := h _ hp g as rfl
    have : ∀ l : List Atom, (l.flatMap fun a => (agap a).map fun h => (h, 0)).length ≤ l.length := by
      intro l
      induction l with
      | nil => simp
      | cons a l ih =>
        rw [List.flatMap_cons, List.length_append, List.length_cons]
        have : ((agap a).map fun h => (h, 0)).length ≤ 1 := by cases a <;> simp [agap]
        omega
    have := this as
    show ((g, as.length) :: as.flatMap fun a => (agap a).map fun h => (h, 0)).length ≤ 10
    rw [List.length_cons]
    omega
  | _ => simp [cnt1]
theorem gset_len {f : Str → Nat} {S : List Str} {t : Tr} (h : AllOk f S t) : (gset t).length ≤ 10 * t.size := by
  have c := cnt_le h
  rw [← subs_len t]
  unfold gset
  rw [List.length_map]
  generalize t.subs = L at c
  induction L with
  | nil => simp
  | cons a L ih =>
    have h1 := c a List.mem_cons_self
    have h2 := ih fun p hp => c p (List.mem_cons_of_mem _ hp)
    rw [List.flatMap_cons, List.length_append, List.length_cons]
    omega
theorem gset_in {f : Str → Nat} {S : List Str} {t : Tr} (h : AllOk f S t) : ∀ g ∈ gset t, g ∈ S := fun g hg => by
  unfold gset at hg
  obtain ⟨x, hx, rfl⟩ := List.mem_map.mp hg
  obtain ⟨p, hp, hx⟩ := List.mem_flatMap.mp hx
  cases p with
  | gap g as =>
    obtain ⟨_, _, h1, h2⟩ := h _ hp g as rfl
    rcases List.mem_cons.mp hx with rfl | hx
    · exact h1
    · obtain ⟨a, ha, hx⟩ := List.mem_flatMap.mp hx
      cases a with
      | gap y =>
        have : x = (y, 0) := by simpa [agap] using hx
        rw [this]
        exact List.mem_of_mem_drop (h2 y ha).2
      | _ => simp [agap] at hx
  | _ => cases hx
theorem ok_cnt {f : Str → Nat} {S : List Str} {t : Tr} (h : AllOk f S t) : OkCnt f t := fun x hx => by
  obtain ⟨p, hp, hx⟩ := List.mem_flatMap.mp hx
  cases p with
  | gap g as =>
    obtain ⟨_, h0, h1, h2⟩ := h _ hp g as rfl
    rcases List.mem_cons.mp hx with rfl | hx
    · exact h0
    · obtain ⟨a, ha, hx⟩ := List.mem_flatMap.mp hx
      cases a with
      | gap y =>
        have : x = (y, 0) := by simpa [agap] using hx
        rw [this]
        exact (h2 y ha).1.symm
      | _ => simp [agap] at hx
  | _ => cases hx
theorem part_gset {t : Tr} {g : Str} {as : List Atom} (h : Tr.gap g as ∈ t.subs) : g ∈ gset t := List.mem_map.mpr ⟨(g, as.length), List.mem_flatMap.mpr ⟨_, h, List.mem_cons_self⟩, rfl⟩
theorem quiet_iff {f : Str → Nat} {ws : List Str} {t : Tr} (h : AllOk f ws t) {kds : List (Str × Str)} (nd : (kds.map (·.1)).Nodup) (hin : ∀ p ∈ kds, p.1 ∈ gset t) (h3 : ∀ g ∈ gset t, g ∈ ws.drop 3 → g ∈ kds.map (·.1)) {kd : List (Key × V)} (gd : Gd (gset t) f kd) :
    quietP t kds ↔ (kds.length = kd.length ∧ ¬ ∃ p ∈ t.subs, p.kd.loud = true) := by
  obtain ⟨ks, _, ndk, lk, mk⟩ := gd.keys
  have sub1 : ∀ g ∈ kds.map (·.1), g ∈ ks := fun g hg => by
    obtain ⟨p, hp, rfl⟩ := List.mem_map.mp hg
    exact (mk _).mpr (hin p hp)
  have l1 := nodup_le nd sub1
  rw [List.length_map] at l1
  constructor
  · intro hq
    refine ⟨?_, fun ⟨p, hp, hl⟩ => by rw [(hq p hp).1] at hl; cases hl⟩
    have l2 := nodup_le (T := kds.map (·.1)) ndk fun g hg => by
      have hg' := (mk g).mp hg
      unfold gset at hg'
      obtain ⟨x, hx, rfl⟩ := List.mem_map.mp hg'
      obtain ⟨p, hp, hx⟩ := List.mem_flatMap.mp hx
      cases p with
      | gap g as =>
        obtain ⟨_, _, _, h2⟩ := h _ hp g as rfl
        rcases List.mem_cons.mp hx with rfl | hx
        · exact (hq _ hp).2 g as rfl
        · obtain ⟨a, ha, hx⟩ := List.mem_flatMap.mp hx
          cases a with
          | gap y =>
            have e : x = (y, 0) := by simpa [agap] using hx
            rw [e] at hg' ⊢
            exact h3 y ((mk y).mp (by rw [e] at hg; exact hg)) (h2 y ha).2
          | _ => simp [agap] at hx
      | _ => cases hx
    rw [List.length_map] at l2
    omega
  · rintro ⟨hl, hn⟩ p hp
    refine ⟨?_, fun g as e => ?_⟩
    · cases e : p.kd.loud with
      | false => rfl
      | true => exact absurd ⟨p, hp, e⟩ hn
    · subst e
      refine Classical.byContradiction fun hc => ?_
      have l3 := nodup_le (ks := g :: kds.map (·.1)) (T := ks) (List.nodup_cons.mpr ⟨hc, nd⟩) fun x hx => by
        rcases List.mem_cons.mp hx with rfl | hx
        · exact (mk x).mpr (part_gset hp)
        · exact sub1 x hx
      rw [List.length_cons, List.length_map] at l3
      omega
structure FnD1 (P : Program) (w : World) (K : PySem.W.Frag) (mg : Str → Option Value) (base : Heap) (k : Nat) (x : Str) (f : Addr) (fd : FuncData) (ps : List Str) (sp : Sp) : Prop where
  ok : FnOk P w K mg base CX0 k f fd ps sp
  bd0 : Binds K fd ps []
  bd1 : Binds K fd ps [.none]
  kp : PySem.W.keepIn K (.ref f) = true
  gl : mg x = some (.ref f)
theorem FnD1.up {P : Program} {w : World} {K : PySem.W.Frag} {mg : Str → Option Value} {base : Heap} {j k : Nat} {x : Str} {f : Addr} {fd : FuncData} {ps : List Str} {sp : Sp} (F : FnD1 P w K mg base j x f fd ps sp) (h : j ≤ k) : FnD1 P w K mg base k x f fd ps sp := ⟨F.ok.mono h, F.bd0, F.bd1, F.kp, F.gl⟩
theorem bl_ne {b c : Bool} (h : b = c) : (!decide (V.bl b = V.bl c)) = false := by rw [h]; simp
theorem ints_cut3 (ns : List Int) : ∃ ms : List Int, cutV (ns.map V.int) (some 3) (some 21) = ms.map V.int ∧ ms.length ≤ 18 := by
  refine ⟨(ns.drop (HT.sIx ns.length 0 (some 3))).take (HT.sIx ns.length ns.length (some 21) - HT.sIx ns.length 0 (some 3)), ?_, ?_⟩
  · unfold cutV
    rw [List.length_map, ← List.map_drop, ← List.map_take]
  · have e1 := HT.sIx_nat ns.length 0 3
    have e2 := HT.sIx_nat ns.length ns.length 21
    rw [show ((3 : Nat) : Int) = 3 from rfl] at e1
    rw [show ((21 : Nat) : Int) = 21 from rfl] at e2
    rw [List.length_take, List.length_drop, e1, e2]
    omega
end L2
namespace K10
open PySem PySem.Spec L2 PyProof.Rows
abbrev s_law : Stmt := top 23
theorem sc_law : FnScope ["_law_script", "_law_words_here", "_law_cell", "_law_counts", "_law_cells", "_law_shape_here", "_law_due", "_law_found", "_law_kinds_here", "_law_quiet", "_law_bare"] ["_law_script"] (defScope s_law) := ⟨rfl, rfl, rfl, by decide +kernel, rfl, by decide +kernel, by decide +kernel⟩
section
variable {P : Program} {w : World} {K : PySem.W.Frag} {mg : Str → Option Value} {base : Heap}
def sp_law (K : PySem.W.Frag) : Sp := fun vs H Q _ => ∃ (a : Addr) (ns : List Int), vs = [.ref a] ∧ SqL K H a (ns.map V.int) ∧ ns.length ≤ 63 ∧ ∀ H', Q (.bl true) H'
theorem ok_law {k : Nat} {f g1 g2 g3 g4 g5 g6 g7 g8 g9 : Addr} {fd gd1 gd2 gd3 gd4 gd5 gd6 gd7 gd8 gd9 : FuncData} (F : Fun K "law" "law" s_law f fd) (z_len : mg "len" = none) (z_isinstance : mg "isinstance" = none) (z_bool : mg "bool" = none)
    (G_law_cell_at : FnB P w K mg base k "_law_cell_at" g1 gd1 ["_law_script", "_law_k"] (sp_cell_at K)) (G_law_words : FnB P w K mg base k "_law_words" g2 gd2 ["_law_cell", "_law_many"] sp_words) (G_law_shape : FnB P w K mg base k "_law_shape" g3 gd3 ["_law_cells", "_law_words_here", "_law_counts", "_law_loud_here"] (sp_shape K 18))
    (G_law_gaps : FnB P w K mg base k "_law_gaps" g4 gd4 ["_law_shape_here", "_law_found"] (sp_lgaps 80)) (G_gaps_of : FnB P w K mg base k "gaps_of" g5 gd5 ["shape"] sp_gapsof) (G_law_told : FnB P w K mg base k "_law_told" g6 gd6 ["_law_found", "_law_due"] sp_told) (G_law_kinds : FnB P w K mg base k "_law_kinds" g7 gd7 ["_law_cell", "_law_words_here", "_law_due"] sp_kinds)
    (G_is_quiet : FnD1 P w K mg base k "is_quiet" g8 gd8 ["tree", "kinds"] sp_quiet) (G_law_loud : FnB P w K mg base k "_law_loud" g9 gd9 ["_law_shape_here"] (sp_lloud 40)) : FnOk P w K mg base CX0 (k + 1) f fd ["_law_script"] (sp_law K) := by
  refine F.ok sc_law (fun vs H Q E h => ?_) (fun cdv A outer s H vs Q E hr h => ?_)
  · obtain ⟨a, ns, rfl, _⟩ := h
    rfl
  obtain ⟨a, ns, rfl, hS, h63, q⟩ := h
  refine ⟨_, (pss_cons (ps_set (i := 1) sc_law.nd rfl (Or.inl rfl) (pe_call G_law_words.ok hr (by rfl) G_law_words.gl G_law_words.kp G_law_words.bd .nil pass0 (pa_cons (pe_call G_law_cell_at.ok hr (by rfl) G_law_cell_at.gl G_law_cell_at.kp G_law_cell_at.bd .nil pass0 (pa_cons (pv 0) (pa_cons pe_int pa_nil))) (pa_cons pe_int pa_nil))))
    (pss_cons (ps_set (i := 2) sc_law.nd rfl (Or.inl rfl) (pe_call G_law_cell_at.ok hr (by rfl) G_law_cell_at.gl G_law_cell_at.kp G_law_cell_at.bd .nil pass0 (pa_cons (pv 0) (pa_cons pe_int pa_nil))))
    (pss_cons (ps_set (i := 3) sc_law.nd rfl (Or.inl rfl) (pe_lst (pa_cons (pe_op op_mod (pv 2) pe_int) (pa_cons (pe_op op_mod (pe_op op_fdiv (pv 2) pe_int) pe_int) (pa_cons (pe_op op_mod (pe_op op_fdiv (pv 2) pe_int) pe_int) (pa_cons pe_int (pa_cons pe_int (pa_cons pe_int pa_nil)))))) : PE _ _ _))
    (pss_cons (ps_set (i := 4) sc_law.nd rfl (Or.inl rfl) (pe_slice (r := rSlL K) sl_list (pv 0) (po_some pe_int) (po_some pe_int)))
    (pss_cons (ps_if (pt_cmpR op_eq (pe_callB call_len_seq (by rfl) z_len PySem.boot_len (pa_cons (pv 4) pa_nil)) pe_int (nomark _)) (pss_one (ps_set (i := 4) sc_law.nd rfl (Or.inl rfl) (pe_lst (pa_cons (pv 2) pa_nil) : PE _ _ _))) pss_nil)
    (pss_cons (ps_set (i := 5) sc_law.nd rfl (Or.inl rfl) (pe_call G_law_shape.ok hr (by rfl) G_law_shape.gl G_law_shape.kp G_law_shape.bd .nil pass0 (pa_cons (pv 4) (pa_cons (pv 1) (pa_cons (pv 3) (pa_cons (pe_cmpR op_gt (pe_op op_mod (pe_op op_fdiv (pv 2) pe_int) pe_int) pe_int (nomark _)) pa_nil))))))
    (pss_cons (ps_set (i := 6) sc_law.nd rfl (Or.inl rfl) pe_dnewK)
    (pss_cons (ps_expr (pe_call G_law_gaps.ok hr (by rfl) G_law_gaps.gl G_law_gaps.kp G_law_gaps.bd .nil pass0 (pa_cons (pv 5) (pa_cons (pv 6) pa_nil))))
    (pss_cons (ps_set (i := 7) sc_law.nd rfl (Or.inl rfl) (pe_call G_gaps_of.ok hr (by rfl) G_gaps_of.gl G_gaps_of.kp G_gaps_of.bd .nil pass0 (pa_cons (pv 5) pa_nil)))
    (pss_cons (ps_if (pt_not (pt_val (pe_call G_law_told.ok hr (by rfl) G_law_told.gl G_law_told.kp G_law_told.bd .nil pass0 (pa_cons (pv 7) (pa_cons (pv 6) pa_nil))))) (pss_one (ps_ret pe_bl)) pss_nil)
    (pss_cons (ps_expr (pe_bm0 PySem.F.plainAttrs_dict PySem.F.slot_dict_clear PySem.F.type_dict_clear mt_dclear (pv 7)))
    (pss_cons (ps_set (i := 8) sc_law.nd rfl (Or.inl rfl) (pe_call G_law_kinds.ok hr (by rfl) G_law_kinds.gl G_law_kinds.kp G_law_kinds.bd .nil pass0 (pa_cons (pe_call G_law_cell_at.ok hr (by rfl) G_law_cell_at.gl G_law_cell_at.kp G_law_cell_at.bd .nil pass0 (pa_cons (pv 0) (pa_cons pe_int pa_nil))) (pa_cons (pv 1) (pa_cons (pv 6) pa_nil)))))
    (pss_cons (ps_set (i := 9) sc_law.nd rfl (Or.inl rfl) (pe_call G_is_quiet.ok hr (by rfl) G_is_quiet.gl G_is_quiet.kp G_is_quiet.bd0 .nil pass0 (pa_cons (pv 5) (pa_cons (pv 8) pa_nil))))
    (pss_cons (ps_if (pw_or (pt_not (pt_val (pe_callB call_isi (by rfl) z_isinstance PyProof.Rows.boot_isinstance (pa_cons (pv 9) (pa_cons (pe_bltn (v := .ty _) (by rfl) z_bool PyProof.Rows.boot_bool (by rfl)) pa_nil))))) (pw_or1 (pt_cmpR op_ne (pv 9) (pe_and (pe_cmpR op_eq (pe_callB call_len_seq (by rfl) z_len PySem.boot_len (pa_cons (pv 8) pa_nil)) (pe_callB call_lenDR (by rfl) z_len PySem.boot_len (pa_cons (pv 6) pa_nil)) (nomark _)) (pe_one (pe_not (pe_call G_law_loud.ok hr (by rfl) G_law_loud.gl G_law_loud.kp G_law_loud.bd .nil pass0 (pa_cons (pv 5) pa_nil))))) (nomark _)))).pt (pss_one (ps_ret pe_bl)) pss_nil)
    (pss_cons (ps_set (i := 10) sc_law.nd rfl (Or.inl rfl) (pe_call G_is_quiet.ok hr (by rfl) G_is_quiet.gl G_is_quiet.kp G_is_quiet.bd1 vals_n1 pass0 (pa_cons (pv 5) pa_nil)))
    (pss_cons (ps_if (pw_or (pt_not (pt_val (pe_callB call_isi (by rfl) z_isinstance PyProof.Rows.boot_isinstance (pa_cons (pv 10) (pa_cons (pe_bltn (v := .ty _) (by rfl) z_bool PyProof.Rows.boot_bool (by rfl)) pa_nil))))) (pw_or1 (pt_cmpR op_ne (pv 10) (pe_and (pe_cmpR op_eq (pe_callB call_lenDR (by rfl) z_len PySem.boot_len (pa_cons (pv 6) pa_nil)) pe_int (nomark _)) (pe_one (pe_not (pe_call G_law_loud.ok hr (by rfl) G_law_loud.gl G_law_loud.kp G_law_loud.bd .nil pass0 (pa_cons (pv 5) pa_nil))))) (nomark _)))).pt (pss_one (ps_ret pe_bl)) pss_nil)
    (pss_one (ps_ret (pe_call G_law_told.ok hr (by rfl) G_law_told.gl G_law_told.kp G_law_told.bd .nil pass0 (pa_cons (pe_call G_gaps_of.ok hr (by rfl) G_gaps_of.gl G_gaps_of.kp G_gaps_of.bd .nil pass0 (pa_cons (pv 5) pa_nil)) (pa_cons (pv 6) pa_nil))))))))))))))))))))), ?_⟩
  have z4 : (0 : Int) < 4 := by decide
  have f4 : (0 : Int) < 4 ∧ (4 : Int) < 1073741824 := ⟨by decide, by decide⟩
  have f16 : (0 : Int) < 16 ∧ (16 : Int) < 1073741824 := ⟨by decide, by decide⟩
  have f64 : (0 : Int) < 64 ∧ (64 : Int) < 1073741824 := ⟨by decide, by decide⟩
  refine ⟨_, rfl, a, ns, 0, rfl, hS, by decide, _, rfl, fun wl H1 ws g1 ew lw nw => ?_⟩
  refine ⟨_, rfl, a, ns, 1, rfl, g1.seq hS, by decide, ?_⟩
  dsimp only
  generalize ns.getD (1 : Int).toNat 0 = c
  refine ⟨_, rfl, _, _, rfl, rfl, z4, _, rfl, _, _, rfl, rfl, f4, _, _, rfl, rfl, z4, _, rfl, _, _, rfl, rfl, f16, _, _, rfl, rfl, z4, (by show 6 ≤ sizeLine; decide), fun cl hcl => ?_⟩
  obtain ⟨cs, ecs⟩ : ∃ cs : List Nat, cs = [(c % 4).toNat, (c / 4 % 4).toNat, (c / 16 % 4).toNat, 0, 0, 0] := ⟨_, rfl⟩
  have b0 := Int.emod_nonneg c (show (4 : Int) ≠ 0 by decide)
  have b1 := Int.emod_nonneg (c / 4) (show (4 : Int) ≠ 0 by decide)
  have b2 := Int.emod_nonneg (c / 16) (show (4 : Int) ≠ 0 by decide)
  have u0 := Int.emod_lt_of_pos c z4
  have u1 := Int.emod_lt_of_pos (c / 4) z4
  have u2 := Int.emod_lt_of_pos (c / 16) z4
  have ecv : [V.int (c % 4), V.int (c / 4 % 4), V.int (c / 16 % 4), V.int 0, V.int 0, V.int 0] = numV cs := by
    rw [ecs]
    unfold numV
    simp only [List.map_cons, List.map_nil]
    rw [Int.toNat_of_nonneg b0, Int.toNat_of_nonneg b1, Int.toNat_of_nonneg b2]
    rfl
  have k2 := same_upd (o := .lst [V.int (c % 4), V.int (c / 4 % 4), V.int (c / 16 % 4), V.int 0, V.int 0, V.int 0]) hcl
  have ec2 : (upd H1 cl (.lst [V.int (c % 4), V.int (c / 4 % 4), V.int (c / 16 % 4), V.int 0, V.int 0, V.int 0])) cl = some (.lst (numV cs)) := by rw [upd_same, ecv]
  show tSeq _ _ _ _ (upd H1 cl (.lst [V.int (c % 4), V.int (c / 4 % 4), V.int (c / 16 % 4), V.int 0, V.int 0, V.int 0]))
  generalize upd H1 cl (.lst [V.int (c % 4), V.int (c / 4 % 4), V.int (c / 16 % 4), V.int 0, V.int 0, V.int 0]) = H2 at k2 ec2 ⊢
  have g2 := g1.trans k2
  have ew2 := k2 _ _ ew
  obtain ⟨fc, wc⟩ : ∃ fc, WC ws cs fc := by
    match ws, lw, nw with
    | [w0, w1, w2, w3, w4, w5], _, nw =>
      simp only [List.nodup_cons, List.mem_cons, not_or, List.not_mem_nil, not_false_eq_true] at nw
      obtain ⟨⟨n01, n02, n03, n04, n05, _⟩, ⟨n12, n13, n14, n15, _⟩, ⟨n23, n24, n25, _⟩, _⟩ := nw
      refine ⟨fun x => if x = w0 then (c % 4).toNat else if x = w1 then (c / 4 % 4).toNat else if x = w2 then (c / 16 % 4).toNat else 0, rfl, by rw [ecs]; rfl, fun j hj => ?_, fun j hj => ?_, fun j h3 hj => ?_⟩
      · rw [ecs]
        have : j = 0 ∨ j = 1 ∨ j = 2 ∨ j = 3 ∨ j = 4 ∨ j = 5 := by omega
        rcases this with rfl | rfl | rfl | rfl | rfl | rfl
        · show (if w0 = w0 then _ else _) = _
          rw [if_pos rfl]; rfl
        · show (if w1 = w0 then _ else if w1 = w1 then _ else _) = _
          rw [if_neg (Ne.symm n01), if_pos rfl]; rfl
        · show (if w2 = w0 then _ else if w2 = w1 then _ else if w2 = w2 then _ else _) = _
          rw [if_neg (Ne.symm n02), if_neg (Ne.symm n12), if_pos rfl]; rfl
        · show (if w3 = w0 then _ else if w3 = w1 then _ else if w3 = w2 then _ else 0) = _
          rw [if_neg (Ne.symm n03), if_neg (Ne.symm n13), if_neg (Ne.symm n23)]; rfl
        · show (if w4 = w0 then _ else if w4 = w1 then _ else if w4 = w2 then _ else 0) = _
          rw [if_neg (Ne.symm n04), if_neg (Ne.symm n14), if_neg (Ne.symm n24)]; rfl
        · show (if w5 = w0 then _ else if w5 = w1 then _ else if w5 = w2 then _ else 0) = _
          rw [if_neg (Ne.symm n05), if_neg (Ne.symm n15), if_neg (Ne.symm n25)]; rfl
      · rw [ecs]
        have : j = 0 ∨ j = 1 ∨ j = 2 ∨ j = 3 ∨ j = 4 ∨ j = 5 := by omega
        rcases this with rfl | rfl | rfl | rfl | rfl | rfl <;> simp <;> omega
      · rw [ecs]
        have : j = 3 ∨ j = 4 ∨ j = 5 := by omega
        rcases this with rfl | rfl | rfl <;> rfl
  refine ⟨_, rfl, 3, rfl, 21, rfl, a, _, rfl, g2.seq hS, fun pc hpc => ?_⟩
  obtain ⟨ms0, em, lm⟩ := ints_cut3 ns
  rw [em]
  have k3 := same_upd (o := .lst (ms0.map V.int)) hpc
  have e3 : (upd H2 pc (.lst (ms0.map V.int))) pc = some (.lst (ms0.map V.int)) := upd_same
  show tSeq _ _ _ _ (upd H2 pc (.lst (ms0.map V.int)))
  generalize upd H2 pc (.lst (ms0.map V.int)) = H3 at k3 e3 ⊢
  apply viaS (fun σ' H' => ∃ (pc : Addr) (ms : List Int), σ' = [some (.ref a), some (.ref wl), some (.int c), some (.ref cl), some (.ref pc), none, none, none, none, none, none] ∧ Same H2 H' ∧ H' pc = some (.lst (ms.map V.int)) ∧ 1 ≤ ms.length ∧ ms.length ≤ 18)
  · intro rest
    refine ⟨_, rfl, pc, _, rfl, .inl (SqL.of e3), rfl, _, rfl, ite2 (fun _ => ?_) (fun e0 => rest _ H3 ⟨pc, ms0, rfl, k3, e3, ?_, lm⟩)⟩
    · refine ⟨_, rfl, (by show 1 ≤ sizeLine; decide), fun p hp => ?_⟩
      exact rest _ _ ⟨p, [c], rfl, k3.trans (same_upd hp), upd_same, by simp, by simp⟩
    · rcases Nat.eq_zero_or_pos ms0.length with h | h
      · exact absurd (decide_eq_true (by rw [List.length_map, h]; rfl)) e0
      · exact h
  clear e3 k3 hpc
  rintro σ' H4 ⟨pc, ms0, rfl, k4, e4, m1, m18⟩
  have g4 := g2.trans k4
  refine ⟨_, rfl, _, rfl, _, rfl, _, rfl, _, _, rfl, rfl, f64, _, _, rfl, rfl, (show (0 : Int) < 3 by decide), _, _, rfl, rfl, pc, wl, cl, _, ms0, ws, cs, fc, rfl, SqL.of e4, m1, m18, Nat.le_refl _, k4 _ _ ew2, k4 _ _ ec2, wc, fun t v H5 g5 rt sz ok => ?_⟩
  have s36 : t.size ≤ 36 := by omega
  have g25 := k4.trans g5
  have gS5 := g4.trans g5
  have hgl := gset_len ok
  refine fun dd hdd => ?_
  have k6 := same_upd (o := .dK []) hdd
  have e6 : (upd H5 dd (.dK [])) dd = some (.dK []) := upd_same
  have r6 := rt.mono k6.tk
  show tSeq _ _ _ _ (upd H5 dd (.dK []))
  generalize upd H5 dd (.dK []) = H6 at k6 e6 r6 ⊢
  have hms := ms_le t
  refine ⟨_, rfl, _, rfl, t, v, dd, [], [], ws, fc, rfl, by omega, r6, e6, Gd.nil, ok, by simp; omega, fun kd H7 sd7 ed7 gd7 ld7 => ?_⟩
  rw [List.nil_append] at gd7
  have tk7 := sd7.tk e6
  have r7 := r6.mono tk7
  have hS7 := sd7.seq e6 ((gS5.trans k6).seq hS)
  have ew7 : H7 wl = some (.lst (ws.map V.str)) := sd7 _ _ (fun z => by rw [← z] at e6; rw [k6 _ _ (g25 _ _ ew2)] at e6; cases e6) (k6 _ _ (g25 _ _ ew2))
  obtain ⟨ks, _, ndk, lk, mk⟩ := gd7.keys
  have k6len : kd.length ≤ 6 := by
    have := nodup_le (T := ws) ndk fun g hg => gset_in ok g ((mk g).mp hg)
    omega
  have c10 := cnt_le ok
  have okc := ok_cnt ok
  refine ⟨_, rfl, t, v, fc, rfl, r7, by omega, c10, okc, fun da ka H8 g8 hda ea ga la => ?_⟩
  have nad : da ≠ dd := fun z => by rw [z, ed7] at hda; cases hda
  refine ⟨_, rfl, _, rfl, da, dd, ka, kd, gset t, fc, rfl, ea, .inl (g8 _ _ ed7), ga, gd7, nad, fun H9 sd9 rd9 => ⟨_, rfl, iteF ?_⟩⟩
  have S79 : SbD dd H7 H9 := fun b o n e => sd9 b o n (g8 _ _ e)
  have tk79 := S79.tk ed7
  have ea9 := sd9 _ _ nad ea
  refine ⟨_, rfl, .inr (.inr (.inl ⟨rfl, .inl ⟨ka, ea9⟩⟩)), da, ka, rfl, rfl, ea9, ?_⟩
  have tk10 : Tk H9 (upd H9 da (.dK [])) := Tk.dk ea9
  have r10 := r7.mono (tk79.trans tk10)
  have hS10 : SqL K (upd H9 da (.dK [])) a (ns.map V.int) := (SbD.set (d := da) (H := H9) (.dK [])).seq ea9 (S79.seq ed7 hS7)
  have ew10 : (upd H9 da (.dK [])) wl = some (.lst (ws.map V.str)) := by
    have h9 := S79 _ _ (fun z => by rw [← z, ew7] at ed7; cases ed7) ew7
    rw [upd_ne (fun z => by rw [← z, h9] at ea9; cases ea9)]
    exact h9
  have rd10 : Rd (upd H9 da (.dK [])) dd (.dK kd) := by
    rcases rd9 with h | ⟨o, h⟩
    · exact .inl (by rw [upd_ne (Ne.symm nad)]; exact h)
    · exact .inr ⟨o, by rw [upd_ne (Ne.symm nad)]; exact h⟩
  show tSeq _ _ _ _ (upd H9 da (.dK []))
  generalize upd H9 da (.dK []) = H10 at r10 hS10 ew10 rd10 ⊢
  refine ⟨_, rfl, a, ns, 2, rfl, hS10, by decide, _, rfl, _, rfl, _, wl, dd, ws, gset t, fc, kd, rfl, ew10, lw, rd10, gd7, by omega, fun kad kds H11 g11 kat nd ksub k3 lkd => ?_⟩
  have rdS : ∀ {H' : Hp}, Same H10 H' → Rd H' dd (.dK kd) := fun g => by
    rcases rd10 with h | ⟨o, h⟩
    · exact .inl (g _ _ h)
    · exact .inr ⟨o, g _ _ h⟩
  have r11 := r10.mono g11.tk
  refine ⟨_, rfl, _, rfl, t, v, .ref kad, kds, rfl, r11, by omega, .inr ⟨kad, rfl, kat⟩, by omega, fun b H12 g12 hb => ?_⟩
  have kat12 := kat.mono g12
  have g1012 := g11.trans g12
  have qi := quiet_iff ok nd ksub k3 gd7
  obtain ⟨ok12, ys, ek12, _, pk12⟩ := kat12
  have ly : ys.length = kds.length := by have := Paired.length pk12; rw [this]; unfold kdV; simp
  apply viaP (fun H' => Same H12 H')
  · intro rest
    refine ⟨_, rfl, _, "bool", _, true, rfl, .bl b, rfl, _, rfl, iteF ⟨_, rfl, _, rfl, kad, ys, rfl, .inr (.inl (.inr ⟨ok12, ek12⟩)), _, rfl, dd, kd, rfl, rdS g1012, rfl, _, rfl, ite2 (fun ce => ?_) (fun ce => ?_)⟩⟩
    · have hle : kds.length = kd.length := by
        have := V.int.inj (of_decide_eq_true ce)
        omega
      refine ⟨_, rfl, t, v, rfl, by omega, r11.mono g12.tk, fun bl H13 g13 hbl => ⟨bl, rfl, rfl, _, rfl, ?_⟩⟩
      have eb : b = !bl := by
        rw [Bool.eq_iff_iff, hb, qi]
        cases bl with
        | true => exact ⟨fun z => absurd (hbl.mp rfl) z.2, fun z => nomatch z⟩
        | false => exact ⟨fun _ => rfl, fun _ => ⟨hle, fun z => nomatch hbl.mpr z⟩⟩
      rw [bl_ne eb]
      exact iteF (rest _ g13)
    · have hle : ¬ kds.length = kd.length := fun z => ce (decide_eq_true (by show V.int _ = V.int _; rw [ly, z]))
      have eb : b = false := by
        cases hbb : b with
        | false => rfl
        | true => exact absurd (qi.mp (hb.mp hbb)).1 hle
      refine ⟨rfl, _, rfl, ?_⟩
      rw [bl_ne eb]
      exact iteF (rest _ (.refl _))
  intro H13 g13
  have g1013 := g1012.trans g13
  have r13 := r10.mono g1013.tk
  refine ⟨_, rfl, t, v, .non, [], rfl, r13, by omega, .inl ⟨rfl, rfl⟩, by simp, fun b2 H14 g14 hb2 => ?_⟩
  have g1014 := g1013.trans g14
  have r14 := r10.mono g1014.tk
  have q2 : quietP t [] ↔ (kd.length = 0 ∧ ¬ ∃ p ∈ t.subs, p.kd.loud = true) := by
    constructor
    · intro hq
      refine ⟨?_, fun ⟨p, hp, hl⟩ => by rw [(hq p hp).1] at hl; cases hl⟩
      rcases Nat.eq_zero_or_pos kd.length with h | h
      · exact h
      · exfalso
        obtain ⟨g, hg⟩ : ∃ g, g ∈ ks := by
          cases hk : ks with
          | nil => rw [hk] at lk; simp at lk; omega
          | cons g _ => exact ⟨g, List.mem_cons_self⟩
        have hg' := (mk g).mp hg
        unfold gset at hg'
        obtain ⟨x, hx, _⟩ := List.mem_map.mp hg'
        obtain ⟨p, hp, hx⟩ := List.mem_flatMap.mp hx
        cases p with
        | gap g as => exact nomatch (hq _ hp).2 g as rfl
        | _ => cases hx
    · rintro ⟨h0, hn⟩ p hp
      refine ⟨?_, fun g as e => ?_⟩
      · cases e : p.kd.loud with
        | false => rfl
        | true => exact absurd ⟨p, hp, e⟩ hn
      · subst e
        have := (mk g).mpr (part_gset hp)
        have hk0 : ks = [] := List.length_eq_zero_iff.mp (by omega)
        rw [hk0] at this
        cases this
  apply viaP (fun H' => Same H14 H')
  · intro rest
    refine ⟨_, rfl, _, "bool", _, true, rfl, .bl b2, rfl, _, rfl, iteF ⟨_, rfl, _, rfl, dd, kd, rfl, rdS g1014, rfl, _, rfl, ite2 (fun ce => ?_) (fun ce => ?_)⟩⟩
    · have hle : kd.length = 0 := by
        have := V.int.inj (of_decide_eq_true ce)
        omega
      refine ⟨_, rfl, t, v, rfl, by omega, r14, fun bl H15 g15 hbl => ⟨bl, rfl, rfl, _, rfl, ?_⟩⟩
      have eb : b2 = !bl := by
        rw [Bool.eq_iff_iff, hb2, q2]
        cases bl with
        | true => exact ⟨fun z => absurd (hbl.mp rfl) z.2, fun z => nomatch z⟩
        | false => exact ⟨fun _ => rfl, fun _ => ⟨hle, fun z => nomatch hbl.mpr z⟩⟩
      rw [bl_ne eb]
      exact iteF (rest _ g15)
    · have hle : ¬ kd.length = 0 := fun z => ce (decide_eq_true (by show V.int _ = V.int _; rw [z]; rfl))
      have eb : b2 = false := by
        cases hbb : b2 with
        | false => rfl
        | true => exact absurd (q2.mp (hb2.mp hbb)).1 hle
      refine ⟨rfl, _, rfl, ?_⟩
      rw [bl_ne eb]
      exact iteF (rest _ (.refl _))
  intro H15 g15
  have g1015 := g1014.trans g15
  have r15 := r10.mono g1015.tk
  refine ⟨_, rfl, t, v, fc, rfl, r15, by omega, c10, okc, fun da2 ka2 H16 g16 hda2 ea2 ga2 la2 => ?_⟩
  have rd15 := rdS g1015
  have nad2 : da2 ≠ dd := fun z => by
    rcases rd15 with h | ⟨o, h⟩
    · rw [z, h] at hda2; cases hda2
    · rw [z, h] at hda2; cases hda2
  exact ⟨_, rfl, da2, dd, ka2, kd, gset t, fc, rfl, ea2, rdS (g1015.trans g16), ga2, gd7, nad2, fun H17 _ _ => q H17⟩
end
end K10
set_option Elab.async false
set_option linter.all false
set_option maxRecDepth 100000
set_option maxHeartbeats 4000000
namespace K10
open PySem PySem.Spec L2 PyProof.Rows
theorem us1 : ∀ {us : List Value}, us.length = 1 → ∃ a, us = [a]
  | [a], _ => ⟨a, rfl⟩
theorem us2 : ∀ {us : List Value}, us.length = 2 → ∃ a b, us = [a, b]
  | [a, b], _ => ⟨a, b, rfl⟩
theorem all_mk {l : PySem.W.OpenLaw} {w : World} {K : PySem.W.Frag} {h : Heap} {mg : Str → Option Value} {fa f0 f1 f2 f3 f4 f5 f6 f7 f8 f9 f10 f11 f12 f13 f14 f15 f16 f17 f18 lv la dt : Addr} (X : K.In h) (G : h.Ns mainGlobals mg) (hfa : mg "law" = some (.ref fa))
    {od0 an0 : Option Addr} {sl0 : Array (Option Value)} {oc0 kV0 dc0 pm0 cd0 ct0 : Value}
    {od1 an1 : Option Addr} {sl1 : Array (Option Value)} {oc1 kV1 dc1 pm1 cd1 ct1 : Value}
    {od2 an2 : Option Addr} {sl2 : Array (Option Value)} {oc2 kV2 dc2 pm2 cd2 ct2 : Value}
    {od3 an3 : Option Addr} {sl3 : Array (Option Value)} {oc3 kV3 dc3 pm3 cd3 ct3 : Value}
    {od4 an4 : Option Addr} {sl4 : Array (Option Value)} {oc4 kV4 dc4 pm4 cd4 ct4 : Value}
    {od5 an5 : Option Addr} {sl5 : Array (Option Value)} {oc5 kV5 dc5 pm5 cd5 ct5 : Value}
    {od6 an6 : Option Addr} {sl6 : Array (Option Value)} {oc6 kV6 dc6 pm6 cd6 ct6 : Value}
    {od7 an7 : Option Addr} {sl7 : Array (Option Value)} {oc7 kV7 dc7 pm7 cd7 ct7 : Value}
    {od8 an8 : Option Addr} {sl8 : Array (Option Value)} {oc8 kV8 dc8 pm8 cd8 ct8 : Value}
    {od9 an9 : Option Addr} {sl9 : Array (Option Value)} {oc9 kV9 dc9 pm9 cd9 ct9 : Value}
    {od10 an10 : Option Addr} {sl10 : Array (Option Value)} {oc10 kV10 dc10 pm10 cd10 ct10 : Value}
    {od11 an11 : Option Addr} {sl11 : Array (Option Value)} {oc11 kV11 dc11 pm11 cd11 ct11 : Value}
    {od12 an12 : Option Addr} {sl12 : Array (Option Value)} {oc12 kV12 dc12 pm12 cd12 ct12 : Value}
    {od13 an13 : Option Addr} {sl13 : Array (Option Value)} {oc13 kV13 dc13 pm13 cd13 ct13 : Value}
    {od14 an14 : Option Addr} {sl14 : Array (Option Value)} {oc14 kV14 dc14 pm14 cd14 ct14 : Value}
    {od15 an15 : Option Addr} {sl15 : Array (Option Value)} {oc15 kV15 dc15 pm15 cd15 ct15 : Value}
    {od16 an16 : Option Addr} {sl16 : Array (Option Value)} {oc16 kV16 dc16 pm16 cd16 ct16 : Value}
    {od17 an17 : Option Addr} {sl17 : Array (Option Value)} {oc17 kV17 dc17 pm17 cd17 ct17 : Value}
    {od18 an18 : Option Addr} {sl18 : Array (Option Value)} {oc18 kV18 dc18 pm18 cd18 ct18 : Value}
    {odL odU odT : Option Addr} {slL slU slT : Array (Option Value)} {ocT : Value} {nL nU nT : Nat} {t1 t2 t3 t4 t5 v1 v2 v3 : Tok}
    (a0 : PySem.W.nsIn K mainGlobals "parts_begin" = some (some (.ref f0))) (l0 : K.lookup f0 = some ⟨oc0, od0, .func (PySem.W.fnOf "parts_begin" "parts_begin" (defArgs s_parts_begin) (defBody s_parts_begin) (defScope s_parts_begin) .none kV0 dc0 pm0 an0 cd0 ct0), sl0⟩) (c0 : PySem.W.codeIn K cd0 "parts_begin" = true) (k0 : PySem.W.keepIn K (.ref f0) = true)
    (a1 : PySem.W.nsIn K mainGlobals "parts" = some (some (.ref f1))) (l1 : K.lookup f1 = some ⟨oc1, od1, .func (PySem.W.fnOf "parts" "parts" (defArgs s_parts) (defBody s_parts) (defScope s_parts) .none kV1 dc1 pm1 an1 cd1 ct1), sl1⟩) (c1 : PySem.W.codeIn K cd1 "parts" = true) (k1 : PySem.W.keepIn K (.ref f1) = true)
    (a2 : PySem.W.nsIn K mainGlobals "all_parts" = some (some (.ref f2))) (l2 : K.lookup f2 = some ⟨oc2, od2, .func (PySem.W.fnOf "all_parts" "all_parts" (defArgs s_all_parts) (defBody s_all_parts) (defScope s_all_parts) .none kV2 dc2 pm2 an2 cd2 ct2), sl2⟩) (c2 : PySem.W.codeIn K cd2 "all_parts" = true) (k2 : PySem.W.keepIn K (.ref f2) = true)
    (a3 : PySem.W.nsIn K mainGlobals "placed_parts" = some (some (.ref f3))) (l3 : K.lookup f3 = some ⟨oc3, od3, .func (PySem.W.fnOf "placed_parts" "placed_parts" (defArgs s_placed_parts) (defBody s_placed_parts) (defScope s_placed_parts) .none kV3 dc3 pm3 an3 cd3 ct3), sl3⟩) (c3 : PySem.W.codeIn K cd3 "placed_parts" = true) (k3 : PySem.W.keepIn K (.ref f3) = true)
    (a4 : PySem.W.nsIn K mainGlobals "gap_parts" = some (some (.ref f4))) (l4 : K.lookup f4 = some ⟨oc4, od4, .func (PySem.W.fnOf "gap_parts" "gap_parts" (defArgs s_gap_parts) (defBody s_gap_parts) (defScope s_gap_parts) .none kV4 dc4 pm4 an4 cd4 ct4), sl4⟩) (c4 : PySem.W.codeIn K cd4 "gap_parts" = true) (k4 : PySem.W.keepIn K (.ref f4) = true)
    (a5 : PySem.W.nsIn K mainGlobals "counted_gaps" = some (some (.ref f5))) (l5 : K.lookup f5 = some ⟨oc5, od5, .func (PySem.W.fnOf "counted_gaps" "counted_gaps" (defArgs s_counted_gaps) (defBody s_counted_gaps) (defScope s_counted_gaps) .none kV5 dc5 pm5 an5 cd5 ct5), sl5⟩) (c5 : PySem.W.codeIn K cd5 "counted_gaps" = true) (k5 : PySem.W.keepIn K (.ref f5) = true)
    (a6 : PySem.W.nsIn K mainGlobals "gaps_of" = some (some (.ref f6))) (l6 : K.lookup f6 = some ⟨oc6, od6, .func (PySem.W.fnOf "gaps_of" "gaps_of" (defArgs s_gaps_of) (defBody s_gaps_of) (defScope s_gaps_of) .none kV6 dc6 pm6 an6 cd6 ct6), sl6⟩) (c6 : PySem.W.codeIn K cd6 "gaps_of" = true) (k6 : PySem.W.keepIn K (.ref f6) = true)
    (a7 : PySem.W.nsIn K mainGlobals "is_quiet" = some (some (.ref f7))) (l7 : K.lookup f7 = some ⟨oc7, od7, .func (PySem.W.fnOf "is_quiet" "is_quiet" (defArgs s_is_quiet) (defBody s_is_quiet) (defScope s_is_quiet) (.ref dt) kV7 dc7 pm7 an7 cd7 ct7), sl7⟩) (c7 : PySem.W.codeIn K cd7 "is_quiet" = true) (k7 : PySem.W.keepIn K (.ref f7) = true)
    (lT : K.lookup dt = some ⟨ocT, odT, .seq #[.none] nT, slT⟩)
    (a8 : PySem.W.nsIn K mainGlobals "_law_cell_at" = some (some (.ref f8))) (l8 : K.lookup f8 = some ⟨oc8, od8, .func (PySem.W.fnOf "_law_cell_at" "_law_cell_at" (defArgs s_law_cell_at) (defBody s_law_cell_at) (defScope s_law_cell_at) .none kV8 dc8 pm8 an8 cd8 ct8), sl8⟩) (c8 : PySem.W.codeIn K cd8 "_law_cell_at" = true) (k8 : PySem.W.keepIn K (.ref f8) = true)
    (a9 : PySem.W.nsIn K mainGlobals "_law_whole" = some (some (.ref f9))) (l9 : K.lookup f9 = some ⟨oc9, od9, .func (PySem.W.fnOf "_law_whole" "_law_whole" (defArgs s_law_whole) (defBody s_law_whole) (defScope s_law_whole) .none kV9 dc9 pm9 an9 cd9 ct9), sl9⟩) (c9 : PySem.W.codeIn K cd9 "_law_whole" = true) (k9 : PySem.W.keepIn K (.ref f9) = true)
    (a10 : PySem.W.nsIn K mainGlobals "_law_words" = some (some (.ref f10))) (l10 : K.lookup f10 = some ⟨oc10, od10, .func (PySem.W.fnOf "_law_words" "_law_words" (defArgs s_law_words) (defBody s_law_words) (defScope s_law_words) .none kV10 dc10 pm10 an10 cd10 ct10), sl10⟩) (c10 : PySem.W.codeIn K cd10 "_law_words" = true) (k10 : PySem.W.keepIn K (.ref f10) = true)
    (a11 : PySem.W.nsIn K mainGlobals "_law_atoms" = some (some (.ref f11))) (l11 : K.lookup f11 = some ⟨oc11, od11, .func (PySem.W.fnOf "_law_atoms" "_law_atoms" (defArgs s_law_atoms) (defBody s_law_atoms) (defScope s_law_atoms) .none kV11 dc11 pm11 an11 cd11 ct11), sl11⟩) (c11 : PySem.W.codeIn K cd11 "_law_atoms" = true) (k11 : PySem.W.keepIn K (.ref f11) = true)
    (a12 : PySem.W.nsIn K mainGlobals "_law_leaf" = some (some (.ref f12))) (l12 : K.lookup f12 = some ⟨oc12, od12, .func (PySem.W.fnOf "_law_leaf" "_law_leaf" (defArgs s_law_leaf) (defBody s_law_leaf) (defScope s_law_leaf) .none kV12 dc12 pm12 an12 cd12 ct12), sl12⟩) (c12 : PySem.W.codeIn K cd12 "_law_leaf" = true) (k12 : PySem.W.keepIn K (.ref f12) = true)
    (a13 : PySem.W.nsIn K mainGlobals "_law_shape" = some (some (.ref f13))) (l13 : K.lookup f13 = some ⟨oc13, od13, .func (PySem.W.fnOf "_law_shape" "_law_shape" (defArgs s_law_shape) (defBody s_law_shape) (defScope s_law_shape) .none kV13 dc13 pm13 an13 cd13 ct13), sl13⟩) (c13 : PySem.W.codeIn K cd13 "_law_shape" = true) (k13 : PySem.W.keepIn K (.ref f13) = true)
    (a14 : PySem.W.nsIn K mainGlobals "_law_gaps" = some (some (.ref f14))) (l14 : K.lookup f14 = some ⟨oc14, od14, .func (PySem.W.fnOf "_law_gaps" "_law_gaps" (defArgs s_law_gaps) (defBody s_law_gaps) (defScope s_law_gaps) .none kV14 dc14 pm14 an14 cd14 ct14), sl14⟩) (c14 : PySem.W.codeIn K cd14 "_law_gaps" = true) (k14 : PySem.W.keepIn K (.ref f14) = true)
    (a15 : PySem.W.nsIn K mainGlobals "_law_loud" = some (some (.ref f15))) (l15 : K.lookup f15 = some ⟨oc15, od15, .func (PySem.W.fnOf "_law_loud" "_law_loud" (defArgs s_law_loud) (defBody s_law_loud) (defScope s_law_loud) .none kV15 dc15 pm15 an15 cd15 ct15), sl15⟩) (c15 : PySem.W.codeIn K cd15 "_law_loud" = true) (k15 : PySem.W.keepIn K (.ref f15) = true)
    (a16 : PySem.W.nsIn K mainGlobals "_law_kinds" = some (some (.ref f16))) (l16 : K.lookup f16 = some ⟨oc16, od16, .func (PySem.W.fnOf "_law_kinds" "_law_kinds" (defArgs s_law_kinds) (defBody s_law_kinds) (defScope s_law_kinds) .none kV16 dc16 pm16 an16 cd16 ct16), sl16⟩) (c16 : PySem.W.codeIn K cd16 "_law_kinds" = true) (k16 : PySem.W.keepIn K (.ref f16) = true)
    (a17 : PySem.W.nsIn K mainGlobals "_law_told" = some (some (.ref f17))) (l17 : K.lookup f17 = some ⟨oc17, od17, .func (PySem.W.fnOf "_law_told" "_law_told" (defArgs s_law_told) (defBody s_law_told) (defScope s_law_told) .none kV17 dc17 pm17 an17 cd17 ct17), sl17⟩) (c17 : PySem.W.codeIn K cd17 "_law_told" = true) (k17 : PySem.W.keepIn K (.ref f17) = true)
    (a18 : PySem.W.nsIn K mainGlobals "law" = some (some (.ref f18))) (l18 : K.lookup f18 = some ⟨oc18, od18, .func (PySem.W.fnOf "law" "law" (defArgs s_law) (defBody s_law) (defScope s_law) .none kV18 dc18 pm18 an18 cd18 ct18), sl18⟩) (c18 : PySem.W.codeIn K cd18 "law" = true) (k18 : PySem.W.keepIn K (.ref f18) = true)
    (aL : PySem.W.nsIn K mainGlobals "LEAF_SIGNS" = some (some (.ref lv))) (lL : K.lookup lv = some ⟨.type "tuple", odL, .seq #[.str "num" t1, .str "name" t2, .str "ask" t3, .str "stop" t4, .str "gap" t5] nL, slL⟩)
    (aU : PySem.W.nsIn K mainGlobals "LOUD_SIGNS" = some (some (.ref la))) (lU : K.lookup la = some ⟨.type "tuple", odU, .seq #[.str "say" v1, .str "ask" v2, .str "stop" v3] nU, slU⟩)
    (z_len : PySem.W.nsIn K mainGlobals "len" = some none)
    (z_range : PySem.W.nsIn K mainGlobals "range" = some none)
    (z_isinstance : PySem.W.nsIn K mainGlobals "isinstance" = some none)
    (z_int : PySem.W.nsIn K mainGlobals "int" = some none)
    (z_bool : PySem.W.nsIn K mainGlobals "bool" = some none)
    (z_tuple : PySem.W.nsIn K mainGlobals "tuple" = some none)
    (z_dict : PySem.W.nsIn K mainGlobals "dict" = some none)
    (z_enumerate : PySem.W.nsIn K mainGlobals "enumerate" = some none)
    (z_sorted : PySem.W.nsIn K mainGlobals "sorted" = some none)
    : ∃ fd : FuncData, (∀ (s : Shared) (v : Value), BindsTo s fd ⟨[v], []⟩ [("_law_script", v)]) ∧ ∀ base : Heap, K.In base → base.Ns mainGlobals mg → FnOk l.prog w K mg base CX0 81 fa fd ["_law_script"] (sp_law K) := by
  have e := hfa.symm.trans (PySem.W.mg_of X G a18)
  cases e
  have z_len := PySem.W.mg_none_of X G z_len
  have z_range := PySem.W.mg_none_of X G z_range
  have z_isinstance := PySem.W.mg_none_of X G z_isinstance
  have z_int := PySem.W.mg_none_of X G z_int
  have z_bool := PySem.W.mg_none_of X G z_bool
  have z_tuple := PySem.W.mg_none_of X G z_tuple
  have z_dict := PySem.W.mg_none_of X G z_dict
  have z_enumerate := PySem.W.mg_none_of X G z_enumerate
  have z_sorted := PySem.W.mg_none_of X G z_sorted
  have mL := PySem.W.mg_of X G aL
  have hL : LeafSigns K lv := ⟨_, _, _, lL, rfl, rfl, (by show 5 ≤ sizeLine; decide), .cons ⟨_, rfl⟩ (.cons ⟨_, rfl⟩ (.cons ⟨_, rfl⟩ (.cons ⟨_, rfl⟩ (.cons ⟨_, rfl⟩ .nil))))⟩
  have mU := PySem.W.mg_of X G aU
  have hU : LoudSigns K la := ⟨_, _, _, lU, rfl, rfl, (by show 3 ≤ sizeLine; decide), .cons ⟨_, rfl⟩ (.cons ⟨_, rfl⟩ (.cons ⟨_, rfl⟩ .nil))⟩
  have F0 := fun_mk (st := s_parts_begin) l0 c0 k0
  have b0 := F0.binds (ps := ["tree"]) fun _ _ _ _ _ _ us hl => match us, hl with | [_], _ => rfl
  have m0 := PySem.W.mg_of X G a0
  have F1 := fun_mk (st := s_parts) l1 c1 k1
  have b1 := F1.binds (ps := ["tree"]) fun _ _ _ _ _ _ us hl => match us, hl with | [_], _ => rfl
  have m1 := PySem.W.mg_of X G a1
  have F2 := fun_mk (st := s_all_parts) l2 c2 k2
  have b2 := F2.binds (ps := ["tree"]) fun _ _ _ _ _ _ us hl => match us, hl with | [_], _ => rfl
  have m2 := PySem.W.mg_of X G a2
  have F3 := fun_mk (st := s_placed_parts) l3 c3 k3
  have b3 := F3.binds (ps := ["tree"]) fun _ _ _ _ _ _ us hl => match us, hl with | [_], _ => rfl
  have m3 := PySem.W.mg_of X G a3
  have F4 := fun_mk (st := s_gap_parts) l4 c4 k4
  have b4 := F4.binds (ps := ["shape"]) fun _ _ _ _ _ _ us hl => match us, hl with | [_], _ => rfl
  have m4 := PySem.W.mg_of X G a4
  have F5 := fun_mk (st := s_counted_gaps) l5 c5 k5
  have b5 := F5.binds (ps := ["shape"]) fun _ _ _ _ _ _ us hl => match us, hl with | [_], _ => rfl
  have m5 := PySem.W.mg_of X G a5
  have F6 := fun_mk (st := s_gaps_of) l6 c6 k6
  have b6 := F6.binds (ps := ["shape"]) fun _ _ _ _ _ _ us hl => match us, hl with | [_], _ => rfl
  have m6 := PySem.W.mg_of X G a6
  have F7 := funD_mk (st := s_is_quiet) (dvs := [.none]) l7 c7 k7 lT rfl
  have b70 : Binds K (PySem.W.fnOf "is_quiet" "is_quiet" (defArgs s_is_quiet) (defBody s_is_quiet) (defScope s_is_quiet) (.ref dt) kV7 dc7 pm7 an7 cd7 ct7) ["tree", "kinds"] [] := fun s us X hl => by obtain ⟨a, b, rfl⟩ := us2 (us := us) (by simpa using hl); first | exact .of_eq rfl | exact PySem.W.binds_K X rfl lT rfl rfl rfl
  have b71 : Binds K (PySem.W.fnOf "is_quiet" "is_quiet" (defArgs s_is_quiet) (defBody s_is_quiet) (defScope s_is_quiet) (.ref dt) kV7 dc7 pm7 an7 cd7 ct7) ["tree", "kinds"] [.none] := fun s us X hl => by obtain ⟨a, rfl⟩ := us1 (us := us) (by simpa using hl); exact PySem.W.binds_K X rfl lT rfl rfl rfl
  have m7 := PySem.W.mg_of X G a7
  have F8 := fun_mk (st := s_law_cell_at) l8 c8 k8
  have b8 := F8.binds (ps := ["_law_script", "_law_k"]) fun _ _ _ _ _ _ us hl => match us, hl with | [_, _], _ => rfl
  have m8 := PySem.W.mg_of X G a8
  have F9 := fun_mk (st := s_law_whole) l9 c9 k9
  have b9 := F9.binds (ps := ["_law_found"]) fun _ _ _ _ _ _ us hl => match us, hl with | [_], _ => rfl
  have m9 := PySem.W.mg_of X G a9
  have F10 := fun_mk (st := s_law_words) l10 c10 k10
  have b10 := F10.binds (ps := ["_law_cell", "_law_many"]) fun _ _ _ _ _ _ us hl => match us, hl with | [_, _], _ => rfl
  have m10 := PySem.W.mg_of X G a10
  have F11 := fun_mk (st := s_law_atoms) l11 c11 k11
  have b11 := F11.binds (ps := ["_law_cell", "_law_words_here", "_law_many"]) fun _ _ _ _ _ _ us hl => match us, hl with | [_, _, _], _ => rfl
  have m11 := PySem.W.mg_of X G a11
  have F12 := fun_mk (st := s_law_leaf) l12 c12 k12
  have b12 := F12.binds (ps := ["_law_cell", "_law_words_here", "_law_counts", "_law_loud_here"]) fun _ _ _ _ _ _ us hl => match us, hl with | [_, _, _, _], _ => rfl
  have m12 := PySem.W.mg_of X G a12
  have F13 := fun_mk (st := s_law_shape) l13 c13 k13
  have b13 := F13.binds (ps := ["_law_cells", "_law_words_here", "_law_counts", "_law_loud_here"]) fun _ _ _ _ _ _ us hl => match us, hl with | [_, _, _, _], _ => rfl
  have m13 := PySem.W.mg_of X G a13
  have F14 := fun_mk (st := s_law_gaps) l14 c14 k14
  have b14 := F14.binds (ps := ["_law_shape_here", "_law_found"]) fun _ _ _ _ _ _ us hl => match us, hl with | [_, _], _ => rfl
  have m14 := PySem.W.mg_of X G a14
  have F15 := fun_mk (st := s_law_loud) l15 c15 k15
  have b15 := F15.binds (ps := ["_law_shape_here"]) fun _ _ _ _ _ _ us hl => match us, hl with | [_], _ => rfl
  have m15 := PySem.W.mg_of X G a15
  have F16 := fun_mk (st := s_law_kinds) l16 c16 k16
  have b16 := F16.binds (ps := ["_law_cell", "_law_words_here", "_law_due"]) fun _ _ _ _ _ _ us hl => match us, hl with | [_, _, _], _ => rfl
  have m16 := PySem.W.mg_of X G a16
  have F17 := fun_mk (st := s_law_told) l17 c17 k17
  have b17 := F17.binds (ps := ["_law_found", "_law_due"]) fun _ _ _ _ _ _ us hl => match us, hl with | [_, _], _ => rfl
  have m17 := PySem.W.mg_of X G a17
  have F18 := fun_mk (st := s_law) l18 c18 k18
  have b18 := F18.binds (ps := ["_law_script"]) fun _ _ _ _ _ _ us hl => match us, hl with | [_], _ => rfl
  have m18 := PySem.W.mg_of X G a18
  refine ⟨PySem.W.fnOf "law" "law" (defArgs s_law) (defBody s_law) (defScope s_law) .none kV18 dc18 pm18 an18 cd18 ct18, fun s v => .of_eq rfl, fun base _ _ => ?_⟩
  have G0 : FnB l.prog w K mg base 1 "parts_begin" f0 _ _ _ := ⟨ok_parts_begin (k := 0) F0 z_len mL hL, b0, k0, m0⟩
  have G1 : FnB l.prog w K mg base 2 "parts" f1 _ _ _ := ⟨ok_parts F1 (G0.up (k := 1) (by decide)), b1, k1, m1⟩
  have G2 : FnB l.prog w K mg base 3 "all_parts" f2 _ _ _ := ⟨ok_all F2 (G1.up (k := 2) (by decide)), b2, k2, m2⟩
  have G3 : FnB l.prog w K mg base 3 "placed_parts" f3 _ _ _ := ⟨ok_placed F3 z_enumerate z_sorted (G1.up (k := 2) (by decide)), b3, k3, m3⟩
  have G4 : FnB l.prog w K mg base 4 "gap_parts" f4 _ _ _ := ⟨ok_gapp F4 (G3.up (k := 3) (by decide)), b4, k4, m4⟩
  have G5 : FnB l.prog w K mg base 5 "counted_gaps" f5 _ _ _ := ⟨ok_counted F5 z_len (G4.up (k := 4) (by decide)), b5, k5, m5⟩
  have G6 : FnB l.prog w K mg base 6 "gaps_of" f6 _ _ _ := ⟨ok_gapsof F6 (G5.up (k := 5) (by decide)), b6, k6, m6⟩
  have G7 : FnD1 l.prog w K mg base 4 "is_quiet" f7 _ _ _ := ⟨ok_quiet F7 z_dict mU hU (G2.up (k := 3) (by decide)), b70, b71, k7, m7⟩
  have G8 : FnB l.prog w K mg base 1 "_law_cell_at" f8 _ _ _ := ⟨ok_cell_at (k := 0) F8 z_len, b8, k8, m8⟩
  have G9 : FnB l.prog w K mg base 1 "_law_whole" f9 _ _ _ := ⟨ok_whole (k := 0) F9 z_isinstance z_int z_bool, b9, k9, m9⟩
  have G10 : FnB l.prog w K mg base 1 "_law_words" f10 _ _ _ := ⟨ok_words (k := 0) F10 z_range, b10, k10, m10⟩
  have G11 : FnB l.prog w K mg base 1 "_law_atoms" f11 _ _ _ := ⟨ok_atoms (k := 0) F11 z_range z_tuple, b11, k11, m11⟩
  have G12 : FnB l.prog w K mg base 2 "_law_leaf" f12 _ _ _ := ⟨ok_leaf F12 (G11.up (k := 1) (by decide)), b12, k12, m12⟩
  have G13 := all_shape F13 b13 m13 z_len (G12.up (k := 2) (by decide)) 18
  have G14 := all_lgaps (P := l.prog) (w := w) (base := base) (k := 0) F14 b14 m14 z_len z_isinstance z_tuple 80
  have G15 := all_lloud (P := l.prog) (w := w) (base := base) (k := 0) F15 b15 m15 z_isinstance z_tuple 40
  have G16 : FnB l.prog w K mg base 1 "_law_kinds" f16 _ _ _ := ⟨ok_kinds (k := 0) F16 z_sorted z_tuple, b16, k16, m16⟩
  have G17 : FnB l.prog w K mg base 2 "_law_told" f17 _ _ _ := ⟨ok_told F17 z_isinstance z_dict z_len (G9.up (k := 1) (by decide)), b17, k17, m17⟩
  exact ok_law F18 z_len z_isinstance z_bool (G8.up (k := 80) (by decide)) (G10.up (k := 80) (by decide)) (G13.up (k := 80) (by decide)) (G14.up (k := 80) (by decide)) (G6.up (k := 80) (by decide)) (G17.up (k := 80) (by decide)) (G16.up (k := 80) (by decide)) (G7.up (k := 80) (by decide)) (G15.up (k := 80) (by decide))
theorem walk {l : PySem.W.OpenLaw} {q : Program} {loose : List Str} {XP : (Str → Option Value) → Heap → Prop} {YP : World → Heap → Prop} {d : DefRec} {K : Params → PySem.W.Frag} (hn : l.most = some 63) (hdf : d.params.defaults = [])
    (hY : ∀ (w : World) (h : Heap), YP w h → (K w.params).In h)
    (F : ∀ (w : World) (mg : Str → Option Value) (fa : Addr) (h : Heap), (K w.params).In h → h.Ns mainGlobals mg → mg d.name = some (.ref fa) →
      ∃ fd : FuncData, (∀ (s : Shared) (u : Value), BindsTo s fd ⟨[u], []⟩ [("_law_script", u)]) ∧ ∀ base : Heap, (K w.params).In base → base.Ns mainGlobals mg → FnOk l.prog w (K w.params) mg base CX0 81 fa fd ["_law_script"] (sp_law (K w.params))) :
    PySem.W.WalkO q loose XP YP l.row.toRowW d [] (fun f vs => PySem.call f vs) :=
  L2.walk_of (n := 63) (k := 81) (x := "_law_script") (CX := fun _ => CX0) (sp := fun w => sp_law (K w.params)) hn (by decide) hdf ⟨rfl, by decide, by decide⟩ hY F (fun _ _ a ns hl _ hS => ⟨a, ns, rfl, hS, hl, fun _ => rfl⟩) fun _ _ _ _ _ z => z
end K10
open PySem PySem.W PyProof.Rows
set_option maxRecDepth 100000 in
set_option maxHeartbeats 0 in
theorem PySem.Challenge.cw_recastle_k10_gaps_and_quiet_holds : PySem.Challenge.rw_recastle_k10_gaps_and_quiet.Holds := by
  w_on; o_law; k_head; (case hw => w_witness2)
  k_fill
  refine K10.walk (l := PySem.Challenge.rw_recastle_k10_gaps_and_quiet) rfl rfl (fun w h Y => PySem.W.kIn_of Y) ?F
  case F =>
    intro w mg fa h KX G hmg
    refine' K10.all_mk KX G hmg ?a0 ?l0 ?c0 ?k0 ?a1 ?l1 ?c1 ?k1 ?a2 ?l2 ?c2 ?k2 ?a3 ?l3 ?c3 ?k3 ?a4 ?l4 ?c4 ?k4 ?a5 ?l5 ?c5 ?k5 ?a6 ?l6 ?c6 ?k6 ?a7 ?l7 ?c7 ?k7 ?lT ?a8 ?l8 ?c8 ?k8 ?a9 ?l9 ?c9 ?k9 ?a10 ?l10 ?c10 ?k10 ?a11 ?l11 ?c11 ?k11 ?a12 ?l12 ?c12 ?k12 ?a13 ?l13 ?c13 ?k13 ?a14 ?l14 ?c14 ?k14 ?a15 ?l15 ?c15 ?k15 ?a16 ?l16 ?c16 ?k16 ?a17 ?l17 ?c17 ?k17 ?a18 ?l18 ?c18 ?k18 ?aL ?lL ?aU ?lU ?z_len ?z_range ?z_isinstance ?z_int ?z_bool ?z_tuple ?z_dict ?z_enumerate ?z_sorted
    (case a0 => k_is); (case l0 => k_is); (case c0 => k_is); (case k0 => k_is)
    (case a1 => k_is); (case l1 => k_is); (case c1 => k_is); (case k1 => k_is)
    (case a2 => k_is); (case l2 => k_is); (case c2 => k_is); (case k2 => k_is)
    (case a3 => k_is); (case l3 => k_is); (case c3 => k_is); (case k3 => k_is)
    (case a4 => k_is); (case l4 => k_is); (case c4 => k_is); (case k4 => k_is)
    (case a5 => k_is); (case l5 => k_is); (case c5 => k_is); (case k5 => k_is)
    (case a6 => k_is); (case l6 => k_is); (case c6 => k_is); (case k6 => k_is)
    (case a7 => k_is); (case l7 => k_is); (case c7 => k_is); (case k7 => k_is)
    (case lT => k_is); (case a8 => k_is); (case l8 => k_is); (case c8 => k_is)
    (case k8 => k_is); (case a9 => k_is); (case l9 => k_is); (case c9 => k_is)
    (case k9 => k_is); (case a10 => k_is); (case l10 => k_is); (case c10 => k_is)
    (case k10 => k_is); (case a11 => k_is); (case l11 => k_is); (case c11 => k_is)
    (case k11 => k_is); (case a12 => k_is); (case l12 => k_is); (case c12 => k_is)
    (case k12 => k_is); (case a13 => k_is); (case l13 => k_is); (case c13 => k_is)
    (case k13 => k_is); (case a14 => k_is); (case l14 => k_is); (case c14 => k_is)
    (case k14 => k_is); (case a15 => k_is); (case l15 => k_is); (case c15 => k_is)
    (case k15 => k_is); (case a16 => k_is); (case l16 => k_is); (case c16 => k_is)
    (case k16 => k_is); (case a17 => k_is); (case l17 => k_is); (case c17 => k_is)
    (case k17 => k_is); (case a18 => k_is); (case l18 => k_is); (case c18 => k_is)
    (case k18 => k_is); (case aL => k_is); (case lL => k_is); (case aU => k_is)
    (case lU => k_is); (case z_len => k_is); (case z_range => k_is); (case z_isinstance => k_is)
    (case z_int => k_is); (case z_bool => k_is); (case z_tuple => k_is); (case z_dict => k_is)
    (case z_enumerate => k_is); (case z_sorted => k_is)
#print axioms PySem.Challenge.cw_recastle_k10_gaps_and_quiet_holds