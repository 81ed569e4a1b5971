import PyProof.Rows.All
import Wide.All
import OpenK.AllK
import Wide.FinOn
import Lean
import PyProof.EqAt
import PyProof.EqKinds
import PyProof.TupleCall
import PyProof.NeKinds
import PySem.Challenge.RW_recastle_k04_alike
set_option Elab.async false
set_option linter.all false
set_option maxRecDepth 100000
namespace L2
open PySem PySem.Spec PyProof.Rows
abbrev Key := Sum Int Str
def keyIs : Key → Value → Bool
  | .inl k, v => Value.isInt k v
  | .inr x, v => Value.isStrOf x v
def keyH (w : World) : Key → Int
  | .inl k => hashInt k
  | .inr x => hashStr w x
theorem keyIs_shape : ∀ {k : Key} {v : Value}, keyIs k v = true → (∃ i t, k = Sum.inl i ∧ v = Value.int i t) ∨ (∃ x t, k = Sum.inr x ∧ v = Value.str x t)
  | .inl i, v, h => by
    obtain ⟨t, e⟩ := Value.isInt_shape (k := i) (v := v) h
    exact .inl ⟨i, t, rfl, e⟩
  | .inr x, v, h => by
    obtain ⟨t, e⟩ := Value.isStrOf_shape (x := x) (v := v) h
    exact .inr ⟨x, t, rfl, e⟩
theorem keyIs_int (i : Int) (t : Tok) : keyIs (.inl i) (.int i t) = true := by simp [keyIs, Value.isInt]
theorem keyIs_str (x : Str) (t : Tok) : keyIs (.inr x) (.str x t) = true := by simp [keyIs, Value.isStrOf]
theorem key_ll (a b : Int) : decide ((Sum.inl a : Key) = Sum.inl b) = (a == b) := by
  by_cases e : a = b
  · subst e; simp
  · have h : ¬ (Sum.inl a : Key) = Sum.inl b := fun q => e (Sum.inl.inj q)
    rw [decide_eq_false h]
    exact (beq_eq_false_iff_ne.mpr e).symm
theorem key_rr (a b : Str) : decide ((Sum.inr a : Key) = Sum.inr b) = decide (a = b) := by
  by_cases e : a = b
  · subst e; simp
  · have h : ¬ (Sum.inr a : Key) = Sum.inr b := fun q => e (Sum.inr.inj q)
    rw [decide_eq_false h, decide_eq_false e]
theorem key_lr (a : Int) (b : Str) : decide ((Sum.inl a : Key) = Sum.inr b) = false := decide_eq_false (fun q => nomatch q)
theorem key_rl (a : Str) (b : Int) : decide ((Sum.inr a : Key) = Sum.inl b) = false := decide_eq_false (fun q => nomatch q)
def mixKind (prog : Program) (w : World) : PySem.KeyKind prog w Key where
  is := keyIs
  hash := keyH w
  inj := fun v a b ha hb => by
    rcases keyIs_shape ha with ⟨i, t, rfl, rfl⟩ | ⟨x, t, rfl, rfl⟩
    · rcases keyIs_shape hb with ⟨j, u, rfl, e⟩ | ⟨y, u, rfl, e⟩
      · injection e with e1 _; rw [e1]
      · exact nomatch e
    · rcases keyIs_shape hb with ⟨j, u, rfl, e⟩ | ⟨y, u, rfl, e⟩
      · exact nomatch e
      · injection e with e1 _; rw [e1]
  byValue := fun k v h => by
    rcases keyIs_shape h with ⟨i, t, rfl, rfl⟩ | ⟨x, t, rfl, rfl⟩ <;> rfl
  pyHash := fun hv h => by
    rcases keyIs_shape hv with ⟨i, t, rfl, rfl⟩ | ⟨x, t, rfl, rfl⟩
    · exact wpAny_pyHash_int h
    · exact wpAny_pyHash_str h
  eqBool := fun hu hv h => by
    rcases keyIs_shape hu with ⟨i, t, rfl, rfl⟩ | ⟨x, t, rfl, rfl⟩
    · rcases keyIs_shape hv with ⟨j, u, rfl, rfl⟩ | ⟨y, u, rfl, rfl⟩
      · rw [key_ll] at h; exact wpAny_eqBool_int h
      · rw [key_lr] at h; exact SeqAt.EqAt.int_str i t y u _ _ _ _ h
    · rcases keyIs_shape hv with ⟨j, u, rfl, rfl⟩ | ⟨y, u, rfl, rfl⟩
      · rw [key_rl] at h; exact SeqAt.EqAt.str_int x t j u _ _ _ _ h
      · rw [key_rr] at h; exact wpAny_eqBool_str h
  «strs» := fun k x t v h => by
    rcases keyIs_shape h with ⟨i, u, rfl, e⟩ | ⟨y, u, rfl, e⟩
    · exact nomatch e
    · injection e with e1 _
      subst e1
      cases v <;> rfl
theorem mixKind_int (prog : Program) (w : World) (i : Int) (t : Tok) : (mixKind prog w).is (.inl i) (.int i t) = true := keyIs_int i t
theorem mixKind_str (prog : Program) (w : World) (x : Str) (t : Tok) : (mixKind prog w).is (.inr x) (.str x t) = true := keyIs_str x t
end L2
namespace L2
open PySem PySem.Spec PyProof.Rows
inductive V where
  | non | bl (b : Bool) | int (i : Int) | str (x : Str) | byt (b : Array UInt8) | flt (b : UInt64) | ref (a : Addr) | ty (n : String)
  deriving DecidableEq
def RelV : V → Value → Prop
  | .non, u => u = Value.none
  | .bl b, u => u = Value.bool b
  | .int i, u => ∃ t, u = Value.int i t
  | .str x, u => ∃ t, u = Value.str x t
  | .byt b, u => ∃ t, u = Value.bytes b t
  | .flt b, u => ∃ t, u = Value.float b t
  | .ref a, u => u = Value.ref a
  | .ty n, u => u = Value.type n
abbrev Vals : List V → List Value → Prop := Paired RelV
theorem Vals.length {xs : List V} {us : List Value} (r : Vals xs us) : xs.length = us.length := Paired.length r
theorem Vals.get : ∀ {xs : List V} {us : List Value} {i : Nat} {x : V}, Vals xs us → xs[i]? = some x → ∃ u, us[i]? = some u ∧ RelV x u
  | _, _, _, _, .nil, e => by simp at e
  | _, _, 0, _, .cons r _, e => by simp at e; subst e; exact ⟨_, rfl, r⟩
  | _, _, i + 1, x, .cons _ t, e => by
    obtain ⟨u, h1, h2⟩ := Vals.get (i := i) (x := x) t (by simpa using e)
    exact ⟨u, by simpa using h1, h2⟩
theorem Vals.append : ∀ {xs ys : List V} {us ws : List Value}, Vals xs us → Vals ys ws → Vals (xs ++ ys) (us ++ ws)
  | _, _, _, _, .nil, s => s
  | _, _, _, _, .cons r t, s => .cons r (Vals.append t s)
theorem Vals.take : ∀ {xs : List V} {us : List Value} (n : Nat), Vals xs us → Vals (xs.take n) (us.take n)
  | _, _, 0, _ => .nil
  | _, _, _ + 1, .nil => .nil
  | _, _, n + 1, .cons r t => .cons r (Vals.take n t)
theorem Vals.drop : ∀ {xs : List V} {us : List Value} (n : Nat), Vals xs us → Vals (xs.drop n) (us.drop n)
  | _, _, 0, r => r
  | _, _, _ + 1, .nil => .nil
  | _, _, n + 1, .cons _ t => Vals.drop n t
def RelO : Option V → Option Value → Prop
  | some v, some u => RelV v u
  | none, none => True
  | _, _ => False
def KV {κ : Type} : List (κ × V) → List (κ × Value) → Prop := Paired fun (p : κ × V) (q : κ × Value) => p.1 = q.1 ∧ RelV p.2 q.2
def kV : Key → V
  | .inl i => .int i
  | .inr x => .str x
inductive HO where
  | lst (xs : List V)
  | tup (xs : List V)
  | dK (kvs : List (Key × V)) | dT (kvs : List (List Key × V))
  | set (S : Int → Bool) (n : Nat)
  | ins (C dx : Addr) (fs : List (Str × V))
  | own (x : Addr)
  | xd (fs : List (Str × V))
  | met (f x : Addr)
  | rng (lo hi : Int)
  | frz (o : Obj) (u : HO)
  | tbl (ps : Array Value)
  | ext (φ : Heap → Prop)
abbrev Hp := Addr → Option HO
def upd (H : Hp) (a : Addr) (o : HO) : Hp := fun b => if b = a then some o else H b
theorem upd_same {H : Hp} {a : Addr} {o : HO} : upd H a o a = some o := by unfold upd; rw [if_pos rfl]
theorem upd_ne {H : Hp} {a b : Addr} {o : HO} (h : b ≠ a) : upd H a o b = H b := by unfold upd; rw [if_neg h]
theorem ne_of {H : Hp} {a b : Addr} {o u : HO} (h : H a = some o) (h' : H b = some u) (d : o ≠ u) : a ≠ b := by
  intro e; subst e; rw [h] at h'; exact d (Option.some.inj h')
theorem ne_of_none {H : Hp} {a b : Addr} {o : HO} (h : H a = some o) (h' : H b = none) : a ≠ b := by
  intro e; subst e; rw [h] at h'; cases h'
section
variable (P : Program) (w : World)
def ObjOk (H : Hp) (h : Heap) (a : Addr) : HO → Prop
  | .lst xs => xs.length ≤ sizeLine ∧ ∃ (its : List Value) (n : Nat), Vals xs its ∧ h.get? a = some { cls := .type "list", data := .seq its.toArray n }
  | .tup xs => xs.length ≤ sizeLine ∧ ∃ its : List Value, Vals xs its ∧ IsTup h a its.toArray
  | .dK kvs => kvs.length ≤ sizeLine ∧ (a == sysModules) = false ∧ ∃ vs, KV kvs vs ∧ h.DictOf (mixKind P w) a vs
  | .dT kvs => kvs.length ≤ sizeLine ∧ (a == sysModules) = false ∧ ∃ xs : List (List Key × Addr × Value),
      Paired (fun (p : List Key × V) (q : List Key × Addr × Value) => p.1 = q.1 ∧ H q.2.1 = some (.tup (p.1.map kV)) ∧ RelV p.2 q.2.2) kvs xs ∧
      ∃ o es ep, h.get? a = some o ∧ o.ExactDict ∧ o.data = .dict es ep ∧ es.toList = xs.map (entryOfKey (tupleKind (mixKind P w))) ∧ (xs.map (·.1)).Nodup
  | .set S n => h.SetOf (intKind P w) a S n
  | .ins C dx fs => H dx = some (.own a) ∧ fs.length ≤ 1000 ∧ dx ≠ a ∧ h.get? a = some (PySem.W.instObj C dx) ∧
      ∃ mA, h.Ns1 dx mA ∧ (∀ f, RelO (fs.lookup f) (mA f)) ∧ PySem.Within mA (fs.map (·.1))
  | .own _ => ∃ o, h.get? a = some o
  | .xd fs => ∃ mA, h.Ns1 a mA ∧ ∀ f, RelO (fs.lookup f) (mA f)
  | .rng lo hi => ∃ t u v, h.get? a = some { cls := .type "range", data := .fields #[.int lo t, .int hi u, .int 1 v] }
  | .frz o u => h.get? a = some o ∧ ObjOk H h a u
  | .tbl ps => h.get? a = some { cls := .none, data := .fields ps }
  | .met f x => h.get? a = some (PySem.W.methodObj (.ref f) (.ref x))
  | .ext φ => φ h ∧ (∃ o, h.get? a = some o) ∧ ∀ h1 h2 : Heap, φ h1 → (∀ o, h1.get? a = some o → h2.get? a = some o) → φ h2
def HOk (H : Hp) (h : Heap) : Prop := ∀ a o, H a = some o → ObjOk P w H h a o
end
section
variable {P : Program} {w : World} {H H' : Hp} {h h' : Heap} {a : Addr} {o : HO}
theorem ObjOk.lt (x : ObjOk P w H h a o) : a < h.objs.size := by
  cases o with
  | lst xs => obtain ⟨_, _, _, _, e⟩ := x; exact Heap.lt_size e
  | tup xs => obtain ⟨_, _, _, p⟩ := x; exact p.lt
  | dK kvs => obtain ⟨_, _, _, _, o, _, _, e, _⟩ := x; exact Heap.lt_size e
  | dT kvs => obtain ⟨_, _, _, _, o, _, _, e, _⟩ := x; exact Heap.lt_size e
  | set S n => obtain ⟨o, _, _, _, e, _⟩ := x; exact Heap.lt_size e
  | ins C dx fs => obtain ⟨_, _, _, e, _⟩ := x; exact Heap.lt_size e
  | own y => obtain ⟨_, e⟩ := x; exact Heap.lt_size e
  | xd fs => obtain ⟨_, ⟨_, _, _, e, _⟩, _⟩ := x; exact Heap.lt_size e
  | rng lo hi => obtain ⟨_, _, _, e⟩ := x; exact Heap.lt_size e
  | frz ob u => obtain ⟨e, _⟩ := x; exact Heap.lt_size e
  | tbl ps => exact Heap.lt_size (show h.get? a = some _ from x)
  | met f y => exact Heap.lt_size (show h.get? a = some _ from x)
  | ext φ => obtain ⟨_, ⟨_, e⟩, _⟩ := x; exact Heap.lt_size e
theorem Paired.mapP {α β : Type} {F G : α → β → Prop} : ∀ {l₁ : List α} {l₂ : List β}, Paired F l₁ l₂ → (∀ a b, F a b → G a b) → Paired G l₁ l₂
  | _, _, .nil, _ => .nil
  | _, _, .cons r t, f => .cons (f _ _ r) (Paired.mapP t f)
theorem ObjOk.stay (x : ObjOk P w H h a o) (k : ∀ b u, (b = a ∨ H b = some (.own a)) → h.get? b = some u → h'.get? b = some u)
    (ho : ∀ b, H b = some (.own a) → H' b = some (.own a)) (ht : ∀ b xs, H b = some (.tup xs) → H' b = some (.tup xs)) : ObjOk P w H' h' a o := by
  induction o with
  | lst xs => obtain ⟨z, its, n, r, e⟩ := x; exact ⟨z, its, n, r, k _ _ (.inl rfl) e⟩
  | tup xs => obtain ⟨z, its, r, ob, e, c⟩ := x; exact ⟨z, its, r, ob, k _ _ (.inl rfl) e, c⟩
  | dK kvs => obtain ⟨z, y, vs, r, ob, es, ep, e, c⟩ := x; exact ⟨z, y, vs, r, ob, es, ep, k _ _ (.inl rfl) e, c⟩
  | dT kvs =>
    obtain ⟨z, y, xs, r, ob, es, ep, e, c⟩ := x
    exact ⟨z, y, xs, Paired.mapP r fun p q z => ⟨z.1, ht _ _ z.2.1, z.2.2⟩, ob, es, ep, k _ _ (.inl rfl) e, c⟩
  | set S n => obtain ⟨ob, es, ep, t, e, c⟩ := x; exact ⟨ob, es, ep, t, k _ _ (.inl rfl) e, c⟩
  | ins C dx fs =>
    obtain ⟨d, z, ne, e, mA, ⟨od, es, ep, e2, c⟩, r⟩ := x
    exact ⟨ho _ d, z, ne, k _ _ (.inl rfl) e, mA, ⟨od, es, ep, k _ _ (.inr d) e2, c⟩, r⟩
  | own y => obtain ⟨ob, e⟩ := x; exact ⟨ob, k _ _ (.inl rfl) e⟩
  | xd fs => obtain ⟨mA, ⟨od, es, ep, e, c⟩, r⟩ := x; exact ⟨mA, ⟨od, es, ep, k _ _ (.inl rfl) e, c⟩, r⟩
  | rng lo hi => obtain ⟨t, u, v, e⟩ := x; exact ⟨t, u, v, k _ _ (.inl rfl) e⟩
  | frz ob u ih => obtain ⟨e, q⟩ := x; exact ⟨k _ _ (.inl rfl) e, ih q⟩
  | tbl ps =>
    have e : h.get? a = some { cls := .none, data := .fields ps } := x
    show h'.get? a = some { cls := .none, data := .fields ps }
    exact k a _ (.inl rfl) e
  | met f y =>
    have e : h.get? a = some (PySem.W.methodObj (.ref f) (.ref y)) := x
    show h'.get? a = some (PySem.W.methodObj (.ref f) (.ref y))
    exact k a _ (.inl rfl) e
  | ext φ => obtain ⟨p, ⟨o, e⟩, st⟩ := x; exact ⟨st _ _ p fun o q => k _ _ (.inl rfl) q, ⟨o, k _ _ (.inl rfl) e⟩, st⟩
theorem HOk.lt (x : HOk P w H h) (e : H a = some o) : a < h.objs.size := (x a o e).lt
theorem HOk.fresh (x : HOk P w H h) (e : h.objs.size ≤ a) : H a = none := by
  cases q : H a with
  | none => rfl
  | some u => exact absurd (Nat.lt_of_lt_of_le (x.lt q) e) (Nat.lt_irrefl _)
theorem HOk.kept (x : HOk P w H h) (k : ∀ b u, h.get? b = some u → h'.get? b = some u) : HOk P w H h' := fun a o e =>
  (x a o e).stay (fun b u _ q => k b u q) (fun _ q => q) fun _ _ q => q
theorem HOk.laid (x : HOk P w H h) (k : ∀ b u, h.get? b = some u → h'.get? b = some u) (hp : h.objs.size ≤ a) (new : ObjOk P w (upd H a o) h' a o) : HOk P w (upd H a o) h' := fun b u e => by
  have hn := x.fresh hp
  by_cases hb : b = a
  · subst hb; rw [upd_same] at e; cases e; exact new
  · rw [upd_ne hb] at e
    exact (x b u e).stay (fun c v _ q => k c v q) (fun c q => by rw [upd_ne (ne_of_none q hn)]; exact q) fun c xs q => by rw [upd_ne (ne_of_none q hn)]; exact q
end
def Rd (H : Hp) (a : Addr) (u : HO) : Prop := H a = some u ∨ ∃ o, H a = some (.frz o u)
theorem Rd.ok {P : Program} {w : World} {H : Hp} {h : Heap} {a : Addr} {u : HO} (r : Rd H a u) (x : HOk P w H h) : ObjOk P w H h a u := by
  rcases r with r | ⟨o, r⟩
  · exact x a u r
  · obtain ⟨_, q⟩ := x a _ r
    exact q
def Mut : Option HO → Prop
  | some (.lst _) => True
  | some (.dK _) => True
  | some (.dT _) => True
  | some (.set _ _) => True
  | some (.ins _ _ _) => True
  | some (.ext _) => True
  | _ => False
section
variable {P : Program} {w : World} {H : Hp} {h h' : Heap} {x e : Addr} {o' : HO}
theorem HOk.write (ok : HOk P w H h) (mu : Mut (H x)) (he : e = x ∨ H e = some (.own x)) (k : ∀ b u, b ≠ e → h.get? b = some u → h'.get? b = some u) (heo : ∃ u, h'.get? e = some u)
    (new : ObjOk P w (upd H x o') h' x o') : HOk P w (upd H x o') h' := fun b u q => by
  have nown : ∀ c y, H c = some (.own y) → c ≠ x := fun c y r z => by subst z; rw [r] at mu; exact mu
  have ntup : ∀ c xs, H c = some (.tup xs) → c ≠ x := fun c xs r z => by subst z; rw [r] at mu; exact mu
  by_cases hb : b = x
  · subst hb; rw [upd_same] at q; cases q; exact new
  · rw [upd_ne hb] at q
    by_cases hbe : b = e
    · have q' : H b = some (.own x) := by
        rcases he with z | z
        · exact absurd (hbe.trans z) hb
        · rw [hbe]; exact z
      rw [q] at q'; cases q'
      obtain ⟨v, hv⟩ := heo
      exact ⟨v, by rw [hbe]; exact hv⟩
    · refine (ok b u q).stay (fun c v hc r => k c v ?_ r) (fun c r => by rw [upd_ne (nown c b r)]; exact r) fun c xs r => by rw [upd_ne (ntup c xs r)]; exact r
      rcases hc with rfl | hc
      · exact hbe
      · rintro rfl
        rcases he with z | z
        · exact nown c b hc z
        · rw [hc] at z; cases z; exact hb rfl
end
structure Un (fs ex : List Addr) (H H' : Hp) (h h' : Heap) : Prop where
  keep : ∀ b o, h.get? b = some o → H b = none → b ∉ fs → b ∉ ex → h'.get? b = some o
  slot : ∀ b o, h.get? b = some o → H b = none → b ∈ fs → b ∉ ex → ∃ sl, h'.get? b = some { o with slots := sl }
  free : ∀ b o, h.get? b = some o → H b = none → b ∉ ex → H' b = none
  there : ∀ b o, h.get? b = some o → b ∉ ex → ∃ o', h'.get? b = some o'
  tups : ∀ b xs, H b = some (.tup xs) → H' b = some (.tup xs)
  frzs : ∀ b o u, H b = some (.frz o u) → H' b = some (.frz o u)
  tbls : ∀ b ps, H b = some (.tbl ps) → ∃ more, H' b = some (.tbl (ps ++ more))
section
variable {fs fs' ex ex' : List Addr} {H H1 H2 : Hp} {h h1 h2 h' : Heap} {a x e : Addr} {o : HO}
theorem Un.any (u : Un fs ex H H1 h h1) {b : Addr} {ob : Obj} (q : h.get? b = some ob) (n : H b = none) (hx : b ∉ ex) : ∃ sl, h1.get? b = some { ob with slots := sl } := by
  by_cases hb : b ∈ fs
  · exact u.slot b ob q n hb hx
  · exact ⟨ob.slots, u.keep b ob q n hb hx⟩
theorem Un.kept (k : ∀ b u, h.get? b = some u → h'.get? b = some u) : Un fs ex H H h h' :=
  ⟨fun b ob q _ _ _ => k b ob q, fun b ob q _ _ _ => ⟨ob.slots, k b ob q⟩, fun _ _ _ n _ => n, fun b ob q _ => ⟨ob, k b ob q⟩, fun _ _ q => q, fun _ _ _ q => q, fun _ ps q => ⟨#[], by rw [q]; simp⟩⟩
theorem Un.refl : Un fs ex H H h h := Un.kept fun _ _ q => q
theorem Un.laid (k : ∀ b u, h.get? b = some u → h'.get? b = some u) (hp : h.objs.size ≤ a) (hn : H a = none) : Un fs ex H (upd H a o) h h' where
  keep := fun b u q _ _ _ => k b u q
  slot := fun b u q _ _ _ => ⟨u.slots, k b u q⟩
  free := fun b u q n _ => by rw [upd_ne (Nat.ne_of_lt (Nat.lt_of_lt_of_le (Heap.lt_size q) hp))]; exact n
  there := fun b u q _ => ⟨u, k b u q⟩
  tups := fun b xs q => by rw [upd_ne (ne_of_none q hn)]; exact q
  frzs := fun b u xs q => by rw [upd_ne (ne_of_none q hn)]; exact q
  tbls := fun b ps q => ⟨#[], by rw [upd_ne (ne_of_none q hn), q]; simp⟩
theorem Un.write (mu : Mut (H x)) (he : e = x ∨ H e = some (.own x)) (k : ∀ b u, b ≠ e → h.get? b = some u → h'.get? b = some u) (heo : ∃ u, h'.get? e = some u) : Un fs ex H (upd H x o) h h' := by
  have hx : ∀ b, H b = none → b ≠ x := fun b n z => by subst z; rw [n] at mu; exact mu
  have hb : ∀ b, H b = none → b ≠ e := fun b n z => by
    subst z
    rcases he with r | r
    · exact hx b n r
    · rw [n] at r; cases r
  have hm : ∀ b u, H b = some u → ¬ Mut (some u) → b ≠ x := fun b u q nm z => by subst z; rw [q] at mu; exact nm mu
  refine ⟨fun b u q n _ _ => k b u (hb b n) q, fun b u q n _ _ => ⟨u.slots, k b u (hb b n) q⟩, fun b u q n _ => by rw [upd_ne (hx b n)]; exact n, fun b u q _ => ?_,
    fun b xs q => by rw [upd_ne (hm b _ q fun z => z)]; exact q, fun b u xs q => by rw [upd_ne (hm b _ q fun z => z)]; exact q, fun b ps q => ⟨#[], by rw [upd_ne (hm b _ q fun z => z), q]; simp⟩⟩
  by_cases hbe : b = e
  · subst hbe; exact heo
  · exact ⟨u, k b u hbe q⟩
end
def trk (h : Heap) (H : Hp) : List Addr := (List.range h.objs.size).filter fun a => (H a).isSome
def hidT (h : Heap) (H : Hp) : Heap := PySem.W.hideAll h (trk h H)
theorem hidT_size (h : Heap) (H : Hp) : (hidT h H).objs.size = h.objs.size := PySem.W.hideAll_size _ _
theorem hidT_get {h : Heap} {H : Hp} {b : Addr} {o : Obj} (e : h.get? b = some o) (n : H b = none) : (hidT h H).get? b = some o :=
  PySem.W.hideAll_get _ e fun hm => by
    have q : (H b).isSome = true := (List.mem_filter.mp hm).2
    rw [n] at q; simp at q
theorem of_hidT {h : Heap} {H : Hp} {b : Addr} {o : Obj} (e : (hidT h H).get? b = some o) : h.get? b = some o ∧ H b = none := by
  have e' : h.get? b = some o := PySem.W.of_hideAll (trk h H) e
  refine ⟨e', ?_⟩
  cases q : H b with
  | none => rfl
  | some x =>
    have hm : b ∈ trk h H := List.mem_filter.mpr ⟨List.mem_range.mpr (Heap.lt_size e'), by simp [q]⟩
    have z : (hidT h H).get? b = none := PySem.W.hideAll_none (trk h H) hm
    rw [z] at e; cases e
def allNews (g h : Heap) (L : Addr) : List (Addr × Obj) := (List.range h.objs.size).filterMap fun a => if a = L ∨ (g.get? a).isSome = true then none else (h.get? a).map fun o => (a, o)
def rest (g h : Heap) (L d : Addr) : List (Addr × Obj) := (allNews g h L).filter fun p => decide (p.1 ≠ d)
end L2
namespace L2
open PySem PySem.Spec PyProof.Rows
structure Mod (K : PySem.W.Frag) (mg : Str → Option Value) (base : Heap) : Prop where
  kin : K.In base
  glob : base.Ns mainGlobals mg
  blt : ∃ mb, base.Ns builtinsNs mb ∧ ∀ x : Str, x ≠ "__name__" → mb x = bootBuiltins x
  nolimit : base.NoLimit
structure Cx where
  prog : Program
  w : World
  K : PySem.W.Frag
  mg : Str → Option Value
  base : Heap
  A : Around
  N : List Str
  s₀ : Shared
  H₀ : Hp
  env : Env
  outer : List Env
  stack : List Env
  ex : List Addr
  fn : Str → Bool
  calm : Bool
  pn : List (Addr × Obj)
  xe : Value → Shared → Prop
def frs (l : List Env) : List Addr := l.filterMap (·.frame)
abbrev Cx.fs (X : Cx) : List Addr := frs X.outer
def Vis (sc : Scope) (x : Str) : Prop := sc.names.lookup x = some .local ∨ sc.names.lookup x = some .cell ∨ sc.names.lookup x = some .free
def Loc (sc : Scope) (x : Str) : Prop := sc.names.lookup x = some .local ∨ sc.names.lookup x = some .cell
def Look (env : Env) (h : Heap) (m : Str → Option Value) (x : Str) (u : Value) : Prop :=
  (env.kindOf x = some .local ∧ m x = some u) ∨ ((env.kindOf x = some .cell ∨ env.kindOf x = some .free) ∧ ∃ c, env.cells.lookup x = some c ∧ h.IsCell c (some u))
structure Cx.Ok (X : Cx) : Prop where
  mod : Mod X.K X.mg X.base
  kind : X.env.scope.kind = .function
  glob : X.env.globals = mainGlobals
  blt : X.env.builtins = builtinsNs
  above : X.s₀.heap.objs.size ≤ X.env.locals
  inj : ∀ x y c, X.env.cells.lookup x = some c → X.env.cells.lookup y = some c → x = y
  has : ∀ x, (X.env.kindOf x = some .cell ∨ X.env.kindOf x = some .free) → ∃ c, X.env.cells.lookup x = some c
  cab : ∀ x c, X.fn x = true → X.env.cells.lookup x = some c → X.s₀.heap.objs.size ≤ c
  hd : X.calm = true → X.A.handled = none
  frames : X.A.frames = some X.stack
  stk : X.stack = X.outer ∨ (X.stack = X.env :: X.outer ∧ X.env.frame = some X.env.locals)
  exf : ∀ b ∈ X.ex, b ≠ X.env.locals ∧ ∀ x c, X.env.cells.lookup x = some c → c ≠ b
  bs : ∀ b o, X.base.get? b = some o → X.s₀.heap.get? b = some o ∧ X.H₀ b = none
  bsz : X.base.objs.size ≤ X.s₀.heap.objs.size
  noex : ∀ b o, X.base.get? b = some o → b ∉ X.ex
  exfs : ∀ b ∈ X.ex, b ∉ X.fs
  funs : X.s₀.heap.FunFrames X.base X.outer
  frf : ∀ b ∈ X.fs, X.H₀ b = none
structure Inv (X : Cx) (pins : List (Addr × Obj)) (σ : List (Option V)) (H : Hp) (s : Shared) : Prop where
  ok : X.Ok
  os : s.os = X.s₀.os
  bare : AllBare s.gens
  base : Un X.fs X.ex X.H₀ H X.s₀.heap s.heap
  loc : ∃ m, s.heap.Ns X.env.locals m ∧ ∀ (i : Nat) (x : Str) (v : V), X.N[i]? = some x → σ[i]? = some (some v) → Vis X.env.scope x → ∃ u, RelV v u ∧ Look X.env s.heap m x u
  cell : ∀ x c, X.env.cells.lookup x = some c → ∃ v, s.heap.IsCell c v
  free : H X.env.locals = none
  freeC : ∀ x c, X.env.cells.lookup x = some c → H c = none
  pin : ∀ p ∈ X.pn ++ pins, s.heap.get? p.1 = some p.2 ∧ H p.1 = none ∧ p.1 ≠ X.env.locals ∧ p.1 ∉ X.fs ∧ ∀ v, p.2.data ≠ .cell v
  hok : HOk X.prog X.w H s.heap
  len : σ.length = X.N.length
section
variable {X : Cx} {pins : List (Addr × Obj)} {σ : List (Option V)} {H H' : Hp} {s : Shared} {h' : Heap}
theorem Cx.Ok.nofr (ok : X.Ok) {b : Addr} {o : Obj} (e : X.base.get? b = some o) : b ∉ X.fs := fun hb => by
  have := (ok.funs.mem hb).1
  rw [e] at this; cases this
theorem Inv.bs (I : Inv X pins σ H s) : ∀ b o, X.base.get? b = some o → s.heap.get? b = some o ∧ H b = none := fun b o e =>
  ⟨I.base.keep b o (I.ok.bs b o e).1 (I.ok.bs b o e).2 (I.ok.nofr e) (I.ok.noex b o e), I.base.free b o (I.ok.bs b o e).1 (I.ok.bs b o e).2 (I.ok.noex b o e)⟩
theorem Inv.bk (I : Inv X pins σ H s) : ∀ b o, X.base.get? b = some o → s.heap.get? b = some o := fun b o e => (I.bs b o e).1
theorem Inv.mod (I : Inv X pins σ H s) : Mod X.K X.mg X.base := I.ok.mod
theorem Inv.kIn (I : Inv X pins σ H s) : X.K.In s.heap := I.ok.mod.kin.keeps I.bk
theorem Inv.lt (I : Inv X pins σ H s) : X.env.locals < s.heap.objs.size := let ⟨_, hn, _⟩ := I.loc; hn.lt
theorem Inv.sz (I : Inv X pins σ H s) : X.s₀.heap.objs.size ≤ s.heap.objs.size := Nat.le_trans I.ok.above (Nat.le_of_lt I.lt)
theorem Inv.nofs (I : Inv X pins σ H s) {a : Addr} (h : s.heap.objs.size ≤ a) : a ∉ X.fs := fun hb => by
  obtain ⟨_, o, ho, _⟩ := I.ok.funs.mem hb
  exact absurd (Nat.lt_of_lt_of_le (Heap.lt_size ho) (Nat.le_trans I.sz h)) (Nat.lt_irrefl _)
theorem Inv.cne (I : Inv X pins σ H s) : ∀ x c, X.env.cells.lookup x = some c → c ≠ X.env.locals := fun x c e z => by
  obtain ⟨v, o, ho, hd⟩ := I.cell x c e
  obtain ⟨m, ⟨o', es, ep, ho', hd', _⟩, _⟩ := I.loc
  rw [z, ho'] at ho; cases ho; rw [hd'] at hd; cases hd
theorem Inv.funs (I : Inv X pins σ H s) : s.heap.FunFrames X.base X.outer := by
  have all : ∀ (l : List Env), (∀ b ∈ frs l, b ∈ X.fs) → X.s₀.heap.FunFrames X.base l → s.heap.FunFrames X.base l := by
    intro l
    induction l with
    | nil => intro _ _; trivial
    | cons env r ih =>
      intro hs hl
      obtain ⟨hk, ⟨L, o, hf, hn, ho, hd⟩, hr⟩ := hl
      have hL : L ∈ X.fs := hs L (by unfold frs; rw [List.filterMap_cons, hf]; exact List.mem_cons_self)
      obtain ⟨sl, e⟩ := I.base.slot L o ho (I.ok.frf L hL) hL fun z => I.ok.exfs L z hL
      exact ⟨hk, ⟨L, _, hf, hn, e, hd⟩, ih (fun b hb => hs b (by unfold frs; rw [List.filterMap_cons, hf]; exact List.mem_cons_of_mem _ hb)) hr⟩
  exact all X.outer (fun _ hb => hb) I.ok.funs
theorem Inv.stack (I : Inv X pins σ H s) : s.heap.FunFrames X.base X.stack := by
  rcases I.ok.stk with e | ⟨e, hf⟩
  · rw [e]; exact I.funs
  · rw [e]
    obtain ⟨m, hn, _⟩ := I.loc
    refine .cons (by rw [I.ok.kind]; decide) hf hn ?_ I.funs
    exact Heap.get?_none_of_le (Nat.le_trans I.ok.bsz I.ok.above)
theorem Inv.stkSub (I : Inv X pins σ H s) : ∀ b ∈ frs X.stack, b ∈ X.env.locals :: X.fs := fun b hb => by
  rcases I.ok.stk with e | ⟨e, hf⟩
  · rw [e] at hb; exact List.mem_cons_of_mem _ hb
  · rw [e] at hb
    unfold frs at hb
    rw [List.filterMap_cons, hf] at hb
    exact hb
theorem Inv.stkFree (I : Inv X pins σ H s) : ∀ b ∈ frs X.stack, H b = none := fun b hb => by
  rcases List.mem_cons.mp (I.stkSub b hb) with e | hb
  · rw [e]; exact I.free
  · obtain ⟨_, o, ho, _⟩ := I.ok.funs.mem hb
    exact I.base.free b o ho (I.ok.frf b hb) fun z => I.ok.exfs b z hb
theorem Inv.step {g' : Array GenState} {t' : Nat} {d' : Drawn} {ch : List Addr} (I : Inv X pins σ H s)
    (hch : ∀ b ∈ ch, (b ∈ X.ex ∨ X.s₀.heap.objs.size ≤ b) ∧ b ≠ X.env.locals ∧ (∀ x c, X.env.cells.lookup x = some c → c ≠ b) ∧ ∀ p ∈ X.pn ++ pins, p.1 ≠ b)
    (keep : ∀ b o, b ≠ X.env.locals → b ∉ X.fs → b ∉ ch → s.heap.get? b = some o → H b = none → h'.get? b = some o)
    (slot : ∀ b o, b ≠ X.env.locals → b ∈ X.fs → b ∉ ch → s.heap.get? b = some o → H b = none → ∃ sl, h'.get? b = some { o with slots := sl }) (free : ∀ b o, b ∉ ch → s.heap.get? b = some o → H b = none → H' b = none)
    (there : ∀ b o, b ∉ ch → s.heap.get? b = some o → ∃ o', h'.get? b = some o')
    (tups : ∀ b xs, H b = some (.tup xs) → H' b = some (.tup xs)) (frzs : ∀ b o u, H b = some (.frz o u) → H' b = some (.frz o u)) (tbls : ∀ b ps, H b = some (.tbl ps) → ∃ more, H' b = some (.tbl (ps ++ more)))
    (ns : ∀ m, s.heap.Ns X.env.locals m → h'.Ns X.env.locals m) (hok : HOk X.prog X.w H' h') (hg : AllBare g') :
    Inv X pins σ H' { s with heap := h', gens := g', drawn := d', toks := t' } := by
  have neL : ∀ b o, X.s₀.heap.get? b = some o → b ≠ X.env.locals := fun b o e => Nat.ne_of_lt (Nat.lt_of_lt_of_le (Heap.lt_size e) I.ok.above)
  have neC : ∀ b o, X.s₀.heap.get? b = some o → b ∉ X.ex → b ∉ ch := fun b o e hx hb => by
    rcases (hch b hb).1 with z | z
    · exact hx z
    · exact absurd (Nat.lt_of_lt_of_le (Heap.lt_size e) z) (Nat.lt_irrefl _)
  have cellK : ∀ x c, X.env.cells.lookup x = some c → ∀ v, s.heap.IsCell c v → h'.IsCell c v := fun x c e v ⟨o, ho, hd⟩ => by
    have nch : c ∉ ch := fun z => (hch c z).2.2.1 x c e rfl
    by_cases hc : c ∈ X.fs
    · obtain ⟨sl, q⟩ := slot c o (I.cne x c e) hc nch ho (I.freeC x c e)
      exact ⟨_, q, hd⟩
    · exact ⟨o, keep c o (I.cne x c e) hc nch ho (I.freeC x c e), hd⟩
  refine ⟨I.ok, I.os, hg, ⟨fun b o e n hb hx => ?_, fun b o e n hb hx => ?_, fun b o e n hx => ?_, fun b o e hx => ?_, fun b xs e => tups b xs (I.base.tups b xs e), fun b o xs e => frzs b o xs (I.base.frzs b o xs e), fun b ps e => ?_⟩, ?_, fun x c e => ?_, ?_, fun x c e => ?_, fun p hp => ?_, hok, I.len⟩
  · exact keep b o (neL b o e) hb (neC b o e hx) (I.base.keep b o e n hb hx) (I.base.free b o e n hx)
  · obtain ⟨sl, e1⟩ := I.base.slot b o e n hb hx
    obtain ⟨sl', e2⟩ := slot b _ (neL b o e) hb (neC b o e hx) e1 (I.base.free b o e n hx)
    exact ⟨sl', e2⟩
  · obtain ⟨o', e1⟩ := I.base.there b o e hx
    exact free b o' (neC b o e hx) e1 (I.base.free b o e n hx)
  · obtain ⟨o', e1⟩ := I.base.there b o e hx
    exact there b o' (neC b o e hx) e1
  · obtain ⟨m1, e1⟩ := I.base.tbls b ps e
    obtain ⟨m2, e2⟩ := tbls b _ e1
    exact ⟨m1 ++ m2, by rw [e2, Array.append_assoc]⟩
  · obtain ⟨m, hn, hl⟩ := I.loc
    refine ⟨m, ns m hn, fun i x v e1 e2 e3 => ?_⟩
    obtain ⟨u, r, l⟩ := hl i x v e1 e2 e3
    refine ⟨u, r, ?_⟩
    rcases l with l | ⟨k, c, e, z⟩
    · exact .inl l
    · exact .inr ⟨k, c, e, cellK x c e _ z⟩
  · obtain ⟨v, z⟩ := I.cell x c e
    exact ⟨v, cellK x c e v z⟩
  · obtain ⟨m, ⟨o, _, _, ho, _⟩, _⟩ := I.loc
    exact free _ o (fun z => (hch _ z).2.1 rfl) ho I.free
  · obtain ⟨v, o, ho, hd⟩ := I.cell x c e
    exact free c o (fun z => (hch c z).2.2.1 x c e rfl) ho (I.freeC x c e)
  · obtain ⟨e, n, ne, nf, d⟩ := I.pin p hp
    have nch : p.1 ∉ ch := fun z => (hch p.1 z).2.2.2 p hp rfl
    exact ⟨keep p.1 p.2 ne nf nch e n, free p.1 p.2 nch e n, ne, nf, d⟩
theorem Inv.un {t' : Nat} (I : Inv X pins σ H s) (u : Un X.fs [] H H' s.heap h') (hok : HOk X.prog X.w H' h') : Inv X pins σ H' { s with heap := h', toks := t' } := by
  obtain ⟨m, ⟨o, es, ep, ho, r⟩, _⟩ := id I.loc
  obtain ⟨sl, hL⟩ := u.any ho I.free (by simp)
  exact I.step (g' := s.gens) (d' := s.drawn) (ch := []) (fun _ z => nomatch z) (fun b o _ hb _ e n => u.keep b o e n hb (by simp)) (fun b o _ hb _ e n => u.slot b o e n hb (by simp)) (fun b o _ e n => u.free b o e n (by simp)) (fun b o _ e => u.there b o e (by simp)) u.tups u.frzs u.tbls (fun m' hm => by
    obtain ⟨o', es', ep', ho', r'⟩ := hm
    rw [ho] at ho'; cases ho'
    exact ⟨_, es', ep', hL, r'⟩) hok I.bare
theorem Inv.call {g' : Array GenState} {t' : Nat} {d' : Drawn} {ch : List Addr} (I : Inv X pins σ H s) (u : Un (frs X.stack) ch H H' s.heap h') (hok : HOk X.prog X.w H' h') (hg : AllBare g')
    (hch : ∀ b ∈ ch, (b ∈ X.ex ∨ X.s₀.heap.objs.size ≤ b) ∧ b ≠ X.env.locals ∧ (∀ x c, X.env.cells.lookup x = some c → c ≠ b) ∧ ∀ p ∈ X.pn ++ pins, p.1 ≠ b) :
    Inv X pins σ H' { s with heap := h', gens := g', drawn := d', toks := t' } := by
  obtain ⟨m, ⟨o, es, ep, ho, r⟩, _⟩ := id I.loc
  obtain ⟨sl, hL⟩ := u.any ho I.free fun z => (hch _ z).2.1 rfl
  exact I.step (ch := ch) hch (fun b o hL hb hc e n => u.keep b o e n (fun z => (List.mem_cons.mp (I.stkSub b z)).elim hL hb) hc) (fun b o _ _ hc e n => u.any e n hc) (fun b o hc e n => u.free b o e n hc) (fun b o hc e => u.there b o e hc) u.tups u.frzs u.tbls (fun m' hm => by
    obtain ⟨o', es', ep', ho', r'⟩ := hm
    rw [ho] at ho'; cases ho'
    exact ⟨_, es', ep', hL, r'⟩) hok hg
theorem Inv.turned {t' : Nat} {it : Addr} (I : Inv X pins σ H s) (k : ∀ b o, b ≠ it → s.heap.get? b = some o → h'.get? b = some o) (hn : H it = none) (hL : it ≠ X.env.locals)
    (h1 : it ∈ X.ex ∨ X.s₀.heap.objs.size ≤ it) (h2 : ∀ x c, X.env.cells.lookup x = some c → c ≠ it) (h3 : ∀ p ∈ X.pn ++ pins, p.1 ≠ it) : Inv X pins σ H { s with heap := h', toks := t' } := by
  have nit : ∀ b u, H b = some u → b ≠ it := fun b u e z => by rw [z, hn] at e; cases e
  refine I.step (g' := s.gens) (d' := s.drawn) (ch := [it]) (fun b hb => ?_) (fun b o _ _ hc e _ => k b o (fun z => hc (by simp [z])) e) (fun b o _ _ hc e _ => ⟨o.slots, k b o (fun z => hc (by simp [z])) e⟩) (fun _ _ _ _ n => n)
    (fun b o hc e => ⟨o, k b o (fun z => hc (by simp [z])) e⟩) (fun _ _ e => e) (fun _ _ _ e => e) (fun b ps e => ⟨#[], by rw [e]; simp⟩) (fun m hm => ?_) (fun b u e => ?_) I.bare
  · have e : b = it := by simpa using hb
    subst e
    exact ⟨h1, hL, h2, h3⟩
  · obtain ⟨o, es, ep, ho, r⟩ := hm
    exact ⟨o, es, ep, k _ o (Ne.symm hL) ho, r⟩
  · refine (I.hok b u e).stay (fun c v hc q => k c v ?_ q) (fun _ q => q) fun _ _ q => q
    rcases hc with z | z
    · rw [z]; exact nit b u e
    · exact nit c _ z
theorem Inv.tok (I : Inv X pins σ H s) (t : Nat) : Inv X pins σ H { s with toks := t } := I.un (h' := s.heap) (t' := t) Un.refl I.hok
theorem Inv.kept {t' : Nat} (I : Inv X pins σ H s) (k : ∀ b u, s.heap.get? b = some u → h'.get? b = some u) : Inv X pins σ H { s with heap := h', toks := t' } := I.un (Un.kept k) (I.hok.kept k)
theorem Inv.laid {a : Addr} {o : HO} {t' : Nat} (I : Inv X pins σ H s) (k : ∀ b u, s.heap.get? b = some u → h'.get? b = some u) (hp : s.heap.objs.size ≤ a) (new : ObjOk X.prog X.w (upd H a o) h' a o) :
    Inv X pins σ (upd H a o) { s with heap := h', toks := t' } := I.un (Un.laid k hp (I.hok.fresh hp)) (I.hok.laid k hp new)
theorem Inv.write {x e : Addr} {o : HO} {t' : Nat} (I : Inv X pins σ H s) (mu : Mut (H x)) (he : e = x ∨ H e = some (.own x)) (k : ∀ b u, b ≠ e → s.heap.get? b = some u → h'.get? b = some u) (heo : ∃ u, h'.get? e = some u)
    (new : ObjOk X.prog X.w (upd H x o) h' x o) : Inv X pins σ (upd H x o) { s with heap := h', toks := t' } := I.un (Un.write mu he k heo) (I.hok.write mu he k heo new)
theorem Inv.weak {σ' : List (Option V)} (I : Inv X pins σ H s) (hl : σ'.length = σ.length) (w : ∀ (i : Nat) v, σ'[i]? = some (some v) → σ[i]? = some (some v)) : Inv X pins σ' H s :=
  ⟨I.ok, I.os, I.bare, I.base, let ⟨m, hn, hl'⟩ := I.loc; ⟨m, hn, fun i x v e1 e2 e3 => hl' i x v e1 (w i v e2) e3⟩, I.cell, I.free, I.freeC, I.pin, I.hok, hl.trans I.len⟩
theorem Inv.pins_of {pins' : List (Addr × Obj)} (I : Inv X pins σ H s) (h : ∀ p ∈ pins', s.heap.get? p.1 = some p.2 ∧ H p.1 = none ∧ p.1 ≠ X.env.locals ∧ p.1 ∉ X.fs ∧ ∀ v, p.2.data ≠ .cell v) : Inv X pins' σ H s :=
  ⟨I.ok, I.os, I.bare, I.base, I.loc, I.cell, I.free, I.freeC, fun p hp => (List.mem_append.mp hp).elim (fun z => I.pin p (List.mem_append_left _ z)) (h p), I.hok, I.len⟩
theorem nodup_ix {N : List Str} (hN : N.Nodup) {i j : Nat} {x : Str} (a : N[i]? = some x) (b : N[j]? = some x) : i = j := by
  obtain ⟨h1, e1⟩ := List.getElem?_eq_some_iff.mp a
  obtain ⟨h2, e2⟩ := List.getElem?_eq_some_iff.mp b
  exact (List.getElem_inj hN).mp (e1.trans e2.symm)
theorem store_ok2 {M : Model} {A : Around} {E : Value → Shared → Prop} {i : Nat} {x : Str} {v : V} {u : Value} {Q : Unit → Shared → Prop} (I : Inv X pins σ H s) (hN : X.N.Nodup) (hi : X.N[i]? = some x) (hx : Loc X.env.scope x) (r : RelV v u)
    (h : ∀ s', Inv X pins (σ.set i (some v)) H s' → (∃ a, Heap.SameBut a s.heap s'.heap ∧ (a = X.env.locals ∨ X.env.cells.lookup x = some a)) → Q () s') (hf : X.fn x = true ∨ X.env.scope.names.lookup x = some .local := by first | exact .inl rfl | exact .inr rfl | assumption) : wpAny M A (storeName X.env x u) Q E s := by
  obtain ⟨m, hn, hl⟩ := id I.loc
  have hcls : (X.env.scope.kind == .class || (X.env.scope.kind == .module && X.env.locals != X.env.globals)) = false := by rw [I.ok.kind]; rfl
  have hiσ : i < σ.length := by rw [I.len]; exact (List.getElem?_eq_some_iff.mp hi).1
  have cne := I.cne
  have tracked : ∀ {a : Addr} {h' : Heap}, (∃ o, s.heap.get? a = some o ∧ H a = none) → Heap.SameBut a s.heap h' → HOk X.prog X.w H h' := fun {a h'} ha hs b ob e => by
    obtain ⟨_, _, hfree⟩ := ha
    refine (I.hok b ob e).stay (fun c w' hc q => (hs.2 c ?_).trans q) (fun _ q => q) fun _ _ q => q
    rintro rfl
    rcases hc with rfl | hc
    · rw [hfree] at e; cases e
    · rw [hfree] at hc; cases hc
  rcases hx with hk | hk
  · refine wpAny_storeName_local hk hn (fun h' hn' hs => ?_) hcls
    obtain ⟨oL, _, _, hoL, _⟩ := id hn
    refine h _ ⟨I.ok, I.os, I.bare, ⟨fun b o e n hb hx => ?_, fun b o e n hb hx => ?_, I.base.free, fun b o e hx => ?_, I.base.tups, I.base.frzs, I.base.tbls⟩, ⟨_, hn', fun j y v' e1 e2 e3 => ?_⟩, fun y c e => ?_, I.free, I.freeC, fun p hp => ?_, tracked ⟨oL, hoL, I.free⟩ hs, by simpa using I.len⟩ ⟨_, hs, .inl rfl⟩
    · exact (hs.2 b (Nat.ne_of_lt (Nat.lt_of_lt_of_le (Heap.lt_size e) I.ok.above))).trans (I.base.keep b o e n hb hx)
    · obtain ⟨sl, e1⟩ := I.base.slot b o e n hb hx
      exact ⟨sl, (hs.2 b (Nat.ne_of_lt (Nat.lt_of_lt_of_le (Heap.lt_size e) I.ok.above))).trans e1⟩
    · obtain ⟨o', e1⟩ := I.base.there b o e hx
      exact ⟨o', (hs.2 b (Nat.ne_of_lt (Nat.lt_of_lt_of_le (Heap.lt_size e) I.ok.above))).trans e1⟩
    · by_cases hj : j = i
      · subst hj
        rw [hi] at e1; cases e1
        rw [List.getElem?_set_self hiσ] at e2
        cases e2
        exact ⟨u, r, .inl ⟨hk, by simp⟩⟩
      · rw [List.getElem?_set_ne (Ne.symm hj)] at e2
        obtain ⟨u', r', q⟩ := hl j y v' e1 e2 e3
        refine ⟨u', r', ?_⟩
        rcases q with ⟨k, e⟩ | ⟨k, c, e, z⟩
        · refine .inl ⟨k, ?_⟩
          have : y ≠ x := fun e => hj (nodup_ix hN e1 (e ▸ hi))
          simp [this, e]
        · exact .inr ⟨k, c, e, z.sameBut hs (cne y c e)⟩
    · obtain ⟨w', z⟩ := I.cell y c e
      exact ⟨w', z.sameBut hs (cne y c e)⟩
    · obtain ⟨e, n, ne, nf, d⟩ := I.pin p hp
      exact ⟨(hs.2 p.1 ne).trans e, n, ne, nf, d⟩
  · have hfn : X.fn x = true := by
      rcases hf with z | z
      · exact z
      · rw [z] at hk; cases hk
    obtain ⟨c, hc⟩ := I.ok.has x (.inl hk)
    obtain ⟨w', z⟩ := I.cell x c hc
    refine wpAny_storeName_cell I.ok.kind hk hc z (fun h' hc' hs => ?_)
    obtain ⟨oc, hoc, hocd⟩ := id z
    refine h { s with heap := h' } ⟨I.ok, I.os, I.bare, ⟨fun b o e n hb hx => ?_, fun b o e n hb hx => ?_, I.base.free, fun b o e hx => ?_, I.base.tups, I.base.frzs, I.base.tbls⟩, ⟨m, hn.sameBut hs (Ne.symm (cne x c hc)), fun j y v' e1 e2 e3 => ?_⟩, fun y c' e => ?_, I.free, I.freeC, fun p hp => ?_, tracked ⟨oc, hoc, I.freeC x c hc⟩ hs, by simpa using I.len⟩ ⟨c, hs, .inr hc⟩
    · exact (hs.2 b (Nat.ne_of_lt (Nat.lt_of_lt_of_le (Heap.lt_size e) (I.ok.cab x c hfn hc)))).trans (I.base.keep b o e n hb hx)
    · obtain ⟨sl, e1⟩ := I.base.slot b o e n hb hx
      exact ⟨sl, (hs.2 b (Nat.ne_of_lt (Nat.lt_of_lt_of_le (Heap.lt_size e) (I.ok.cab x c hfn hc)))).trans e1⟩
    · obtain ⟨o', e1⟩ := I.base.there b o e hx
      exact ⟨o', (hs.2 b (Nat.ne_of_lt (Nat.lt_of_lt_of_le (Heap.lt_size e) (I.ok.cab x c hfn hc)))).trans e1⟩
    · by_cases hj : j = i
      · subst hj
        rw [hi] at e1; cases e1
        rw [List.getElem?_set_self hiσ] at e2
        cases e2
        exact ⟨u, r, .inr ⟨.inl hk, c, hc, hc'⟩⟩
      · rw [List.getElem?_set_ne (Ne.symm hj)] at e2
        obtain ⟨u', r', q⟩ := hl j y v' e1 e2 e3
        refine ⟨u', r', ?_⟩
        rcases q with q | ⟨k, c', e, z'⟩
        · exact .inl q
        · refine .inr ⟨k, c', e, z'.sameBut hs ?_⟩
          rintro rfl
          exact hj (nodup_ix hN e1 (I.ok.inj _ _ _ e hc ▸ hi))
    · by_cases hcc : c' = c
      · subst hcc; exact ⟨_, hc'⟩
      · obtain ⟨w2, z2⟩ := I.cell y c' e
        exact ⟨w2, z2.sameBut hs hcc⟩
    · obtain ⟨e, n, ne, nf, d⟩ := I.pin p hp
      refine ⟨(hs.2 p.1 ?_).trans e, n, ne, nf, d⟩
      intro q
      rw [q, hoc] at e
      have q' : oc = p.2 := Option.some.inj e
      exact d w' (by rw [← q']; exact hocd)
theorem store_ok {M : Model} {A : Around} {E : Value → Shared → Prop} {i : Nat} {x : Str} {v : V} {u : Value} {Q : Unit → Shared → Prop} (I : Inv X pins σ H s) (hN : X.N.Nodup) (hi : X.N[i]? = some x) (hx : Loc X.env.scope x) (r : RelV v u)
    (h : ∀ s', Inv X pins (σ.set i (some v)) H s' → Q () s') (hf : X.fn x = true ∨ X.env.scope.names.lookup x = some .local := by first | exact .inl rfl | exact .inr rfl | assumption) : wpAny M A (storeName X.env x u) Q E s :=
  store_ok2 I hN hi hx r (fun s' I' _ => h s' I') hf
theorem Inv.call' {s' : Shared} {ch : List Addr} (I : Inv X pins σ H s) (ho : s'.os = s.os) (u : Un (frs X.stack) ch H H' s.heap s'.heap) (hok : HOk X.prog X.w H' s'.heap) (hg : AllBare s'.gens)
    (hch : ∀ b ∈ ch, (b ∈ X.ex ∨ X.s₀.heap.objs.size ≤ b) ∧ b ≠ X.env.locals ∧ (∀ x c, X.env.cells.lookup x = some c → c ≠ b) ∧ ∀ p ∈ X.pn ++ pins, p.1 ≠ b) : Inv X pins σ H' s' := by
  obtain ⟨h', g', d', t', o'⟩ := s'
  have e : o' = s.os := ho
  subst e
  exact I.call (g' := g') (t' := t') (d' := d') u hok hg hch
end
abbrev XK := Value → Option Addr → Hp → Prop
abbrev St := List (Option V)
abbrev VK := V → Hp → Prop
abbrev TE := St → Hp → VK → Prop
abbrev TT := St → Hp → (Bool → Hp → Prop) → Prop
abbrev TA := St → Hp → (List V → Hp → Prop) → Prop
structure Ends where
  nx : St → Hp → Prop
  rt : VK
  bk : St → Hp → Prop := fun _ _ => False
  ct : St → Hp → Prop := fun _ _ => False
abbrev TS := Ends → St → Hp → Prop
def EP (X : Cx) (pins : List (Addr × Obj)) (σ : St) (Q : VK) (u : Value) (s' : Shared) : Prop := ∃ v H', Inv X pins σ H' s' ∧ RelV v u ∧ Q v H'
def TP (X : Cx) (pins : List (Addr × Obj)) (σ : St) (Q : Bool → Hp → Prop) (b : Bool) (s' : Shared) : Prop := ∃ H', Inv X pins σ H' s' ∧ Q b H'
def AP (X : Cx) (pins : List (Addr × Obj)) (σ : St) (Q : List V → Hp → Prop) (us : List Value) (s' : Shared) : Prop := ∃ vs H', Inv X pins σ H' s' ∧ Vals vs us ∧ Q vs H'
def SP (X : Cx) (pins : List (Addr × Obj)) (D : Ends) (f : Flow) (s' : Shared) : Prop :=
  match f with
  | .next => ∃ σ' H', Inv X pins σ' H' s' ∧ D.nx σ' H'
  | .brk => ∃ σ' H', Inv X pins σ' H' s' ∧ D.bk σ' H'
  | .cont => ∃ σ' H', Inv X pins σ' H' s' ∧ D.ct σ' H'
  | .ret u => ∃ v σ' H', Inv X pins σ' H' s' ∧ RelV v u ∧ D.rt v H'
def PE (X : Cx) (e : Expr) (t : TE) : Prop :=
  ∀ (pins : List (Addr × Obj)) (s : Shared) (σ : St) (H : Hp) (Q : VK), Inv X pins σ H s → t σ H Q → wpAny (model X.prog X.w) X.A (eval e X.env) (EP X pins σ Q) X.xe s
def PT (X : Cx) (e : Expr) (t : TT) : Prop :=
  ∀ (pins : List (Addr × Obj)) (s : Shared) (σ : St) (H : Hp) (Q : Bool → Hp → Prop), Inv X pins σ H s → t σ H Q → wpAny (model X.prog X.w) X.A (isTrue e X.env (eval e X.env)) (TP X pins σ Q) X.xe s
def PW (X : Cx) (e : Expr) (t : TT) : Prop :=
  ∀ (whole : Sem Value) (pins : List (Addr × Obj)) (s : Shared) (σ : St) (H : Hp) (Q : Bool → Hp → Prop), Inv X pins σ H s → t σ H Q → wpAny (model X.prog X.w) X.A (isTrue e X.env whole) (TP X pins σ Q) X.xe s
theorem PW.pt {X : Cx} {e : Expr} {t : TT} (h : PW X e t) : PT X e t := h _
def PA (X : Cx) (es : List Expr) (t : TA) : Prop :=
  ∀ (pos : Pos) (pins : List (Addr × Obj)) (s : Shared) (σ : St) (H : Hp) (Q : List V → Hp → Prop), Inv X pins σ H s → t σ H Q → wpAny (model X.prog X.w) X.A (spliced (backTo pos (starEach es X.env))) (AP X pins σ Q) X.xe s
def PS (X : Cx) (st : Stmt) (t : TS) : Prop :=
  ∀ (pins : List (Addr × Obj)) (s : Shared) (σ : St) (H : Hp) (D : Ends), Inv X pins σ H s → t D σ H → wpAny (model X.prog X.w) X.A (exec st X.env) (SP X pins D) X.xe s
def PSs (X : Cx) (st : List Stmt) (t : TS) : Prop :=
  ∀ (pins : List (Addr × Obj)) (s : Shared) (σ : St) (H : Hp) (D : Ends), Inv X pins σ H s → t D σ H → wpAny (model X.prog X.w) X.A (execs st X.env) (SP X pins D) X.xe s
theorem thn {α : Type} {t : Sem α} {Q Q' : α → Shared → Prop} {M : Model} {A : Around} {E : Value → Shared → Prop} {s : Shared} (h : wpAny M A t Q E s) (hQ : ∀ a s, Q a s → Q' a s) : wpAny M A t Q' E s := wpAny_mono h hQ fun _ _ x => x
end L2
namespace L2
open PySem PySem.Spec PyProof.Rows
section
variable {X : Cx}
def tVar (i : Nat) : TE := fun σ H Q => ∃ v, σ[i]? = some (some v) ∧ Q v H
def tC (v : V) : TE := fun _ H Q => Q v H
theorem pe_var {i : Nat} {x : Str} {pos : Pos} (hN : X.N[i]? = some x) (hv : Vis X.env.scope x) (hd : (x == ("__debug__" : Str)) = false := by decide) (hcd : (x == ("__classdict__" : Str)) = false := by decide) : PE X (.Name x pos) (tVar i) := by
  intro pins s σ H Q I h
  obtain ⟨v, e, h⟩ := h
  obtain ⟨m, hn, hl⟩ := I.loc
  obtain ⟨u, r, l⟩ := hl i x v hN e hv
  have fin : EP X pins σ Q u s := ⟨v, H, I, r, h⟩
  rcases l with ⟨hk, hm⟩ | ⟨hk, c, hc, hcell⟩
  · exact wpAny_Name (wpAny_loadName_local I.ok.kind hk hn hm fin) hd
  · rcases hk with hk | hk
    · exact wpAny_Name (wpAny_loadName_cell I.ok.kind hk hc hcell fin) hd
    · exact wpAny_Name (wpAny_loadName_free I.ok.kind hk hc hcell fin hcd) hd
theorem pe_int {i j pos} : PE X (.Constant (.int i) j pos) (tC (.int i)) := fun _ _ _ H _ I h => wpAny_Constant_int ⟨.int i, H, I.tok _, ⟨_, rfl⟩, h⟩
theorem pe_bl {b j pos} : PE X (.Constant (.bool b) j pos) (tC (.bl b)) := fun _ _ _ H _ I h => Constant_bool ⟨.bl b, H, I, rfl, h⟩
theorem pe_str {x j pos} : PE X (.Constant (.str x) j pos) (tC (.str x)) := fun _ _ _ H _ I h => Calls.Constant_str ⟨.str x, H, I.tok _, ⟨_, rfl⟩, h⟩
def Gl (X : Cx) (x : Str) : Prop := X.env.kindOf x = some .globalImplicit
theorem ld_glob {E : Value → Shared → Prop} {pins : List (Addr × Obj)} {s : Shared} {σ : St} {H : Hp} {x : Str} {u : Value} {pos : Pos} {Q : Value → Shared → Prop} (I : Inv X pins σ H s) (hg : Gl X x) (hm : X.mg x = some u) (h : Q u s)
    (hd : (x == ("__debug__" : Str)) = false := by decide) : wpAny (model X.prog X.w) X.A (eval (.Name x pos) X.env) Q E s :=
  Calls.Name_function_global I.ok.kind hg (Calls.loadGlobal_global (by rw [I.ok.glob]; exact I.mod.glob.keeps I.bk) hm h) hd
theorem ld_blt {E : Value → Shared → Prop} {pins : List (Addr × Obj)} {s : Shared} {σ : St} {H : Hp} {x : Str} {u : Value} {pos : Pos} {Q : Value → Shared → Prop} (I : Inv X pins σ H s) (hg : Gl X x) (hm : X.mg x = none) (hv : bootBuiltins x = some u) (h : Q u s)
    (hn : x ≠ "__name__" := by decide) (hd : (x == ("__debug__" : Str)) = false := by decide) : wpAny (model X.prog X.w) X.A (eval (.Name x pos) X.env) Q E s := by
  obtain ⟨mb, h1, h2⟩ := I.mod.blt
  exact Calls.Name_function_global I.ok.kind hg (Calls.loadGlobal_builtin (by rw [I.ok.glob]; exact I.mod.glob.keeps I.bk) hm (by rw [I.ok.blt]; exact h1.keeps I.bk) ((h2 x hn).trans hv) h) hd
theorem pe_glob {x : Str} {v : V} {u : Value} {pos : Pos} (hg : Gl X x) (hm : X.mg x = some u) (r : RelV v u) (hd : (x == ("__debug__" : Str)) = false := by decide) : PE X (.Name x pos) (tC v) :=
  fun _ _ _ H _ I h => ld_glob I hg hm ⟨v, H, I, r, h⟩ hd
theorem pe_bltn {x : Str} {v : V} {u : Value} {pos : Pos} (hg : Gl X x) (hm : X.mg x = none) (hv : bootBuiltins x = some u) (r : RelV v u) (hn : x ≠ "__name__" := by decide) (hd : (x == ("__debug__" : Str)) = false := by decide) : PE X (.Name x pos) (tC v) :=
  fun _ _ _ H _ I h => ld_blt I hg hm hv ⟨v, H, I, r, h⟩ hn hd
def t2I (ta tb : TE) (k : Int → Int → Hp → Prop) : St → Hp → Prop := fun σ H => ta σ H fun x H1 => tb σ H1 fun y H2 => ∃ i j, x = .int i ∧ y = .int j ∧ k i j H2
def tAdd (ta tb : TE) : TE := fun σ H Q => t2I ta tb (fun i j H2 => Q (.int (i + j)) H2) σ H
def tSub (ta tb : TE) : TE := fun σ H Q => t2I ta tb (fun i j H2 => Q (.int (i - j)) H2) σ H
def tMul (ta tb : TE) : TE := fun σ H Q => t2I ta tb (fun i j H2 => (-(2 ^ 64) < i ∧ i < 2 ^ 64) ∧ Q (.int (i * j)) H2) σ H
variable {a b : Expr} {ta tb : TE} {pos : Pos}
def PC (X : Cx) (op : CmpOp) (a b : Expr) (t : TE) : Prop :=
  ∀ (pins : List (Addr × Obj)) (s : Shared) (σ : St) (H : Hp) (Q : VK), Inv X pins σ H s → t σ H Q →
    wpAny (model X.prog X.w) X.A (eval a X.env) (fun v s₁ => wpAny (model X.prog X.w) X.A (eval b X.env) (fun u s₂ => wpAny (model X.prog X.w) X.A (compareOp op v u) (EP X pins σ Q) X.xe s₂) X.xe s₁) X.xe s
def tCmp (p : Int → Int → Bool) (ta tb : TE) : TE := fun σ H Q => t2I ta tb (fun i j H2 => Q (.bl (p i j)) H2) σ H
abbrev tLt : TE → TE → TE := tCmp fun i j => decide (i < j)
abbrev tLe : TE → TE → TE := tCmp fun i j => decide (i ≤ j)
abbrev tGt : TE → TE → TE := tCmp fun i j => decide (j < i)
abbrev tGe : TE → TE → TE := tCmp fun i j => decide (j ≤ i)
abbrev tEqI : TE → TE → TE := tCmp fun i j => decide (i = j)
abbrev tNeI : TE → TE → TE := tCmp fun i j => !decide (i = j)
def tIsN (ta : TE) : TE := fun σ H Q => ta σ H fun x H1 => Q (.bl (decide (x = .non))) H1
def tNotN (ta : TE) : TE := fun σ H Q => ta σ H fun x H1 => Q (.bl (!decide (x = .non))) H1
def tB (t : TE) : TT := fun σ H Q => t σ H fun x H1 => ∃ c, x = .bl c ∧ Q c H1
theorem pt_val {e : Expr} {t : TE} (h : PE X e t) (he : ∀ whole, isTrue e X.env whole = (do let v ← whole; standAt e.pos; holding [v] (truthy v)) := by intro _; rfl) : PT X e (tB t) := by
  intro pins s σ H Q I hw
  refine isTrue_plain (thn (h pins s σ H _ I hw) fun v s1 ⟨x, H1, I1, r1, q1⟩ => ?_) (he _)
  obtain ⟨d, rfl, q⟩ := q1
  cases r1
  exact wpAny_truthy_bool ⟨H1, I1, q⟩
variable {tA tB' : TT} {rest : List Expr}
def tAnd (t u : TT) : TT := fun σ H Q => t σ H fun c H1 => if c = true then u σ H1 Q else Q false H1
def tOr (t u : TT) : TT := fun σ H Q => t σ H fun c H1 => if c = true then Q true H1 else u σ H1 Q
def tNot (t : TT) : TT := fun σ H Q => t σ H fun c H1 => Q (!c) H1
theorem pw_and1 (ha : PT X a tA) : PW X (.BoolOp .And [a] pos) tA := by
  intro wh pins s σ H Q I h
  refine isTrue_and (thn (ha pins s σ H Q I h) fun c s1 e => ?_)
  cases c with
  | true => exact isTrue_and_nil e
  | false => exact e
theorem pw_or1 (ha : PT X a tA) : PW X (.BoolOp .Or [a] pos) tA := by
  intro wh pins s σ H Q I h
  refine isTrue_or (thn (ha pins s σ H Q I h) fun c s1 e => ?_)
  cases c with
  | false => exact isTrue_or_nil e
  | true => exact e
theorem pw_and (ha : PT X a tA) (hb : PW X (.BoolOp .And (b :: rest) pos) tB') : PW X (.BoolOp .And (a :: b :: rest) pos) (tAnd tA tB') := by
  intro wh pins s σ H Q I h
  refine isTrue_and (thn (ha pins s σ H _ I h) fun c s1 ⟨H1, I1, q1⟩ => ?_)
  cases c with
  | true => exact hb wh pins s1 σ H1 Q I1 q1
  | false => exact ⟨H1, I1, q1⟩
theorem pw_or (ha : PT X a tA) (hb : PW X (.BoolOp .Or (b :: rest) pos) tB') : PW X (.BoolOp .Or (a :: b :: rest) pos) (tOr tA tB') := by
  intro wh pins s σ H Q I h
  refine isTrue_or (thn (ha pins s σ H _ I h) fun c s1 ⟨H1, I1, q1⟩ => ?_)
  cases c with
  | true => exact ⟨H1, I1, q1⟩
  | false => exact hb wh pins s1 σ H1 Q I1 q1
theorem pt_not (ha : PT X a tA) : PT X (.UnaryOp .Not a pos) (tNot tA) := by
  intro pins s σ H Q I h
  exact isTrue_not (ha pins s σ H (fun c H1 => Q (!c) H1) I h)
def tAndV (ta tb : TE) : TE := fun σ H Q => ta σ H fun x H1 => ∃ c, x = .bl c ∧ if c = true then tb σ H1 Q else Q (.bl false) H1
def tOrV (ta tb : TE) : TE := fun σ H Q => ta σ H fun x H1 => ∃ c, x = .bl c ∧ if c = true then Q (.bl true) H1 else tb σ H1 Q
def tNotV (ta : TE) : TE := fun σ H Q => ta σ H fun x H1 => ∃ c, x = .bl c ∧ Q (.bl (!c)) H1
theorem pe_one {op} {t : TE} (h : PE X a t) : PE X (.BoolOp op [a] pos) t := fun pins s σ H Q I hw => BoolOp_one (h pins s σ H Q I hw)
theorem pe_and (ha : PE X a ta) (hb : PE X (.BoolOp .And (b :: rest) pos) tb) : PE X (.BoolOp .And (a :: b :: rest) pos) (tAndV ta tb) := by
  intro pins s σ H Q I h
  refine BoolOp_and (thn (ha pins s σ H _ I h) fun v s1 ⟨x, H1, I1, r1, q1⟩ => ?_)
  obtain ⟨c, rfl, q1⟩ := q1
  cases r1
  refine wpAny_truthy_bool ?_
  cases c with
  | true => exact hb pins s1 σ H1 Q I1 q1
  | false => exact ⟨.bl false, H1, I1, rfl, q1⟩
theorem pe_or (ha : PE X a ta) (hb : PE X (.BoolOp .Or (b :: rest) pos) tb) : PE X (.BoolOp .Or (a :: b :: rest) pos) (tOrV ta tb) := by
  intro pins s σ H Q I h
  refine BoolOp_or (thn (ha pins s σ H _ I h) fun v s1 ⟨x, H1, I1, r1, q1⟩ => ?_)
  obtain ⟨c, rfl, q1⟩ := q1
  cases r1
  refine wpAny_truthy_bool ?_
  cases c with
  | false => exact hb pins s1 σ H1 Q I1 q1
  | true => exact ⟨.bl true, H1, I1, rfl, q1⟩
def tIf (t : TT) (ta tb : TE) : TE := fun σ H Q => t σ H fun c H1 => if c = true then ta σ H1 Q else tb σ H1 Q
end
end L2
namespace L2
open PySem PySem.Spec PyProof.Rows
def SqL (K : PySem.W.Frag) (H : Hp) (a : Addr) (xs : List V) : Prop :=
  Rd H a (.lst xs) ∨
    ∃ (o : Obj) (its : Array Value) (n : Nat), K.lookup a = some o ∧ o.cls = .type "list" ∧ o.dict = none ∧ o.data = .seq its n ∧ its.size ≤ sizeLine ∧ Vals xs its.toList
def SqT (K : PySem.W.Frag) (H : Hp) (a : Addr) (xs : List V) : Prop :=
  Rd H a (.tup xs) ∨
    ∃ (o : Obj) (its : Array Value) (n : Nat), K.lookup a = some o ∧ o.cls = .type "tuple" ∧ o.data = .seq its n ∧ its.size ≤ sizeLine ∧ Vals xs its.toList
def absV : Value → Option V
  | .none => some .non
  | .bool b => some (.bl b)
  | .int i _ => some (.int i)
  | .str x _ => some (.str x)
  | .bytes b _ => some (.byt b)
  | .float b _ => some (.flt b)
  | .ref a => some (.ref a)
  | .type n => some (.ty n)
  | _ => none
theorem RelV.abs {x : V} {u : Value} (r : RelV x u) : absV u = some x := by
  cases x with
  | non => cases r; rfl
  | bl _ => cases r; rfl
  | int _ => obtain ⟨t, rfl⟩ := r; rfl
  | str _ => obtain ⟨t, rfl⟩ := r; rfl
  | byt _ => obtain ⟨t, rfl⟩ := r; rfl
  | flt _ => obtain ⟨t, rfl⟩ := r; rfl
  | ref _ => cases r; rfl
  | ty _ => cases r; rfl
theorem RelV.inj {x y : V} {u : Value} (r : RelV x u) (q : RelV y u) : x = y := Option.some.inj (r.abs.symm.trans q.abs)
theorem Vals.inj : ∀ {xs ys : List V} {us : List Value}, Vals xs us → Vals ys us → xs = ys
  | _, _, _, .nil, .nil => rfl
  | _, _, _, .cons r t, .cons r' t' => by rw [r.inj r', Vals.inj t t']
section
variable {X : Cx} {pins : List (Addr × Obj)} {σ : St} {H : Hp} {s : Shared} {a : Addr} {xs ys : List V}
theorem SqL.of {K : PySem.W.Frag} (h : H a = some (.lst xs)) : SqL K H a xs := .inl (.inl h)
theorem SqT.of {K : PySem.W.Frag} (h : H a = some (.tup xs)) : SqT K H a xs := .inl (.inl h)
theorem Inv.list (I : Inv X pins σ H s) (h : SqL X.K H a xs) : ∃ its : List Value, Vals xs its ∧ PlainL s.heap a its.toArray ∧ xs.length ≤ sizeLine := by
  rcases h with h | ⟨o, its, n, hk, hc, hd, hs, hz, r⟩
  · obtain ⟨z, its, n, r, e⟩ := h.ok I.hok
    exact ⟨its, r, ⟨_, n, e, rfl, rfl, rfl⟩, z⟩
  · refine ⟨its.toList, r, ⟨o, n, I.kIn a o hk, hc, hd, by simpa using hs⟩, ?_⟩
    have e := r.length
    simp only [Array.length_toList] at e
    omega
theorem Inv.tuple (I : Inv X pins σ H s) (h : SqT X.K H a xs) : ∃ its : List Value, Vals xs its ∧ IsTup s.heap a its.toArray ∧ xs.length ≤ sizeLine := by
  rcases h with h | ⟨o, its, n, hk, hc, hs, hz, r⟩
  · obtain ⟨z, its, r, p⟩ := h.ok I.hok
    exact ⟨its, r, p, z⟩
  · refine ⟨its.toList, r, ⟨o, I.kIn a o hk, hc, n, by simpa using hs⟩, ?_⟩
    have e := r.length
    simp only [Array.length_toList] at e
    omega
theorem Inv.list_inj (I : Inv X pins σ H s) (h : SqL X.K H a xs) (h' : SqL X.K H a ys) : xs = ys := by
  obtain ⟨its, r, ⟨o, n, e, _, _, d⟩, _⟩ := I.list h
  obtain ⟨its', r', ⟨o', n', e', _, _, d'⟩, _⟩ := I.list h'
  rw [e] at e'; cases e'
  rw [d] at d'
  injection d' with d1 _
  have : its = its' := by simpa using congrArg Array.toList d1
  subst this
  exact r.inj r'
theorem Inv.tuple_inj (I : Inv X pins σ H s) (h : SqT X.K H a xs) (h' : SqT X.K H a ys) : xs = ys := by
  obtain ⟨its, r, ⟨o, e, _, n, d⟩, _⟩ := I.tuple h
  obtain ⟨its', r', ⟨o', e', _, n', d'⟩, _⟩ := I.tuple h'
  rw [e] at e'; cases e'
  rw [d] at d'
  injection d' with d1 _
  have : its = its' := by simpa using congrArg Array.toList d1
  subst this
  exact r.inj r'
end
abbrev Cx.wish (X : Cx) (E : Value → Shared → Prop) : Cx := { X with xe := E }
abbrev Cx.nox (X : Cx) : Cx := X.wish fun _ _ => False
theorem Cx.Ok.wish {X : Cx} (ok : X.Ok) (E : Value → Shared → Prop) : (X.wish E).Ok :=
  ⟨ok.mod, ok.kind, ok.glob, ok.blt, ok.above, ok.inj, ok.has, ok.cab, ok.hd, ok.frames, ok.stk, ok.exf, ok.bs, ok.bsz, ok.noex, ok.exfs, ok.funs, ok.frf⟩
theorem Cx.Ok.unwish {X : Cx} {E : Value → Shared → Prop} (ok : (X.wish E).Ok) : X.Ok :=
  ⟨ok.mod, ok.kind, ok.glob, ok.blt, ok.above, ok.inj, ok.has, ok.cab, ok.hd, ok.frames, ok.stk, ok.exf, ok.bs, ok.bsz, ok.noex, ok.exfs, ok.funs, ok.frf⟩
section
variable {X : Cx} {pins : List (Addr × Obj)} {σ : St} {H : Hp} {s : Shared} {E : Value → Shared → Prop}
theorem Inv.wish (I : Inv X pins σ H s) (E : Value → Shared → Prop) : Inv (X.wish E) pins σ H s := ⟨I.ok.wish E, I.os, I.bare, I.base, I.loc, I.cell, I.free, I.freeC, I.pin, I.hok, I.len⟩
theorem Inv.unwish (I : Inv (X.wish E) pins σ H s) : Inv X pins σ H s := ⟨I.ok.unwish, I.os, I.bare, I.base, I.loc, I.cell, I.free, I.freeC, I.pin, I.hok, I.len⟩
theorem SP.unwish {D : Ends} {f : Flow} {s' : Shared} (h : SP (X.wish E) pins D f s') : SP X pins D f s' := by
  cases f with
  | next => obtain ⟨σ', H', I, q⟩ := h; exact ⟨σ', H', I.unwish, q⟩
  | brk => obtain ⟨σ', H', I, q⟩ := h; exact ⟨σ', H', I.unwish, q⟩
  | cont => obtain ⟨σ', H', I, q⟩ := h; exact ⟨σ', H', I.unwish, q⟩
  | ret u => obtain ⟨v, σ', H', I, r, q⟩ := h; exact ⟨v, σ', H', I.unwish, r, q⟩
theorem PSs.nox {st : List Stmt} {t : TS} (h : PSs X.nox st t) : PSs X st t := fun pins s σ H D I hw =>
  wpAny_mono (h pins s σ H D (I.wish _) hw) (fun _ _ q => q.unwish) fun _ _ z => False.elim z
end
section
variable {X : Cx} {st : Stmt} {rest : List Stmt} {t u : TS} {e : Expr} {te : TE} {pos : Pos}
def tNext : TS := fun D σ H => D.nx σ H
def tSeq (t u : TS) : TS := fun D σ H => t { D with nx := u D } σ H
theorem pss_nil : PSs X [] tNext := fun _ _ σ H _ I h => wpAny_execs_nil ⟨σ, H, I, h⟩
theorem pss_cons (h1 : PS X st t) (h2 : PSs X rest u) : PSs X (st :: rest) (tSeq t u) := by
  intro pins s σ H D I h
  refine wpAny_execs_cons (thn (h1 pins s σ H { D with nx := u D } I h) fun f s1 q => ?_)
  cases f with
  | next =>
    obtain ⟨σ', H', I', q⟩ := q
    exact h2 pins s1 σ' H' D I' q
  | ret v => exact q
  | brk => exact q
  | cont => exact q
theorem pss_one (h1 : PS X st t) : PSs X [st] t := by
  intro pins s σ H D I h
  refine wpAny_execs_cons (thn (h1 pins s σ H D I h) fun f s1 q => ?_)
  cases f with
  | next => exact wpAny_execs_nil q
  | ret v => exact q
  | brk => exact q
  | cont => exact q
def tBreak : TS := fun D σ H => D.bk σ H
def tCont : TS := fun D σ H => D.ct σ H
theorem Inv.quiet {pins : List (Addr × Obj)} {σ : St} {H : Hp} {s : Shared} (I : Inv X pins σ H s) : interactive X.env = false := by simp [interactive, I.ok.kind]
def tDrop (te : TE) : TS := fun D σ H => te σ H fun _ H1 => D.nx σ H1
theorem ps_expr (he : PE X e te) (hs : swapsWith e none pos.line X.env = pure false := by rfl) : PS X (.Expr e pos) (tDrop te) := by
  intro pins s σ H D I h
  exact wpAny_Expr_any (thn (he pins s σ H _ I h) fun v s1 ⟨x, H1, I1, r1, q1⟩ => ⟨σ, H1, I1, q1⟩) I.quiet hs
def tRet (te : TE) : TS := fun D σ H => te σ H D.rt
theorem ps_ret (he : PE X e te) : PS X (.Return (some e) pos) (tRet te) := by
  intro pins s σ H D I h
  exact wpAny_Return_some (thn (he pins s σ H _ I h) fun v s1 ⟨x, H1, I1, r1, q1⟩ => ⟨x, σ, H1, I1, r1, q1⟩)
def tRetN : TS := fun D _ H => D.rt .non H
def tIfS (c : TT) (t u : TS) : TS := fun D σ H => c σ H fun b H1 => if b = true then t D σ H1 else u D σ H1
theorem ps_if {c : Expr} {a b : List Stmt} {tc : TT} (hc : PT X c tc) (ha : PSs X a t) (hb : PSs X b u) : PS X (.If c a b pos) (tIfS tc t u) := by
  intro pins s σ H D I h
  refine wpAny_If (thn (hc pins s σ H _ I h) fun d s1 ⟨H1, I1, q1⟩ => ?_)
  cases d with
  | true => exact ha pins s1 σ H1 D I1 q1
  | false => exact hb pins s1 σ H1 D I1 q1
def tNever : TS := fun _ _ _ => False
end
abbrev TG := V → St → Hp → (St → Hp → Prop) → Prop
abbrev TGs := List V → St → Hp → (St → Hp → Prop) → Prop
def PG (X : Cx) (target : Expr) (t : TG) : Prop :=
  ∀ (pins : List (Addr × Obj)) (s : Shared) (σ : St) (H : Hp) (v : V) (u : Value) (Q : St → Hp → Prop), Inv X pins σ H s → RelV v u → t v σ H Q →
    wpAny (model X.prog X.w) X.A (assign target X.env u) (fun _ s' => ∃ σ' H', Inv X pins σ' H' s' ∧ Q σ' H') X.xe s
def PGs (X : Cx) (ts : List Expr) (t : TGs) : Prop :=
  ∀ (pins : List (Addr × Obj)) (s : Shared) (σ : St) (H : Hp) (vs : List V) (us : List Value) (Q : St → Hp → Prop), Inv X pins σ H s → Vals vs us → t vs σ H Q →
    wpAny (model X.prog X.w) X.A (assignInOrder ((assignEach ts X.env).map (·.2)) us) (fun _ s' => ∃ σ' H', Inv X pins σ' H' s' ∧ Q σ' H') X.xe s
abbrev TSet := V → V → V → Hp → (Hp → Prop) → Prop
def PSet (X : Cx) (t : TSet) : Prop :=
  ∀ (pins : List (Addr × Obj)) (s : Shared) (σ : St) (H : Hp) (o i v : V) (ov iv u : Value) (Q : Hp → Prop), Inv X pins σ H s → RelV o ov → RelV i iv → RelV v u → t o i v H Q →
    wpAny (model X.prog X.w) X.A (setItem ov iv u) (fun _ s' => ∃ H', Inv X pins σ H' s' ∧ Q H') X.xe s
abbrev TIp := V → V → Hp → VK → Prop
def PIp (X : Cx) (op : Operator) (t : TIp) : Prop :=
  ∀ (pins : List (Addr × Obj)) (s : Shared) (σ : St) (H : Hp) (x y : V) (v u : Value) (Q : VK), Inv X pins σ H s → RelV x v → RelV y u → t x y H Q →
    wpAny (model X.prog X.w) X.A (inplaceOp op v u) (EP X pins σ Q) X.xe s
section
variable {X : Cx} {pos : Pos}
def gName (i : Nat) : TG := fun v σ H Q => Q (σ.set i (some v)) H
theorem pg_name {i : Nat} {x : Str} (hN : X.N.Nodup) (hi : X.N[i]? = some x) (hx : Loc X.env.scope x) (hf : X.fn x = true ∨ X.env.scope.names.lookup x = some .local := by first | exact .inl rfl | exact .inr rfl | assumption) : PG X (.Name x pos) (gName i) := by
  intro pins s σ H v u Q I r h
  exact wpAny_assign_Name (store_ok I hN hi hx r (fun s' I' => ⟨_, H, I', h⟩) hf)
def gNil : TGs := fun vs σ H Q => vs = [] ∧ Q σ H
def gCons (t : TG) (u : TGs) : TGs := fun vs σ H Q => ∃ v r, vs = v :: r ∧ t v σ H fun σ' H' => u r σ' H' Q
theorem pgs_nil : PGs X [] gNil := by
  intro pins s σ H vs us Q I r h
  obtain ⟨e, h⟩ := h
  subst e
  cases r
  exact assignInOrder_nil ⟨σ, H, I, h⟩
theorem pgs_cons {e : Expr} {es : List Expr} {t : TG} {u : TGs} (h1 : PG X e t) (h2 : PGs X es u)
    (hs : (assignEach (e :: es) X.env).map (·.2) = assign e X.env :: (assignEach es X.env).map (·.2) := by rfl) : PGs X (e :: es) (gCons t u) := by
  intro pins s σ H vs us Q I r h
  obtain ⟨v, vr, e1, h⟩ := h
  subst e1
  cases r with
  | cons r rr =>
    rw [hs]
    refine assignInOrder_cons (thn (h1 pins s σ H _ _ _ I r h) fun _ s1 ⟨σ1, H1, I1, q1⟩ => ?_)
    exact h2 pins s1 σ1 H1 _ _ Q I1 rr q1
def gTup (K : PySem.W.Frag) (n : Nat) (t : TGs) : TG := fun v σ H Q => ∃ a xs, v = .ref a ∧ SqT K H a xs ∧ xs.length = n ∧ t xs σ H Q
theorem pg_tup {es : List Expr} {k : Nat} {t : TGs} {n : Nat} (hc : X.calm = true) (h : PGs X es t)
    (hn : (assignEach es X.env).length = n := by rfl) (hst : (assignEach es X.env).findIdx? (·.1) = none := by rfl) : PG X (.Tuple es k pos) (gTup X.K n t) := by
  intro pins s σ H v u Q I r hw
  obtain ⟨a, xs, e1, hq, hl, hw⟩ := hw
  subst e1
  cases r
  obtain ⟨its, rv, ht, hz⟩ := I.tuple hq
  refine assign_Tuple_tuple (I.ok.hd hc) ht (by simp [hn, ← hl, rv.length]) hst fun h' hx => ?_
  have I1 : Inv X pins σ H { s with heap := h' } := I.kept (t' := s.toks) fun b o e => hx b o (Nat.ne_of_lt (Heap.lt_size e)) e
  exact h pins _ σ H xs _ Q I1 (by simpa using rv) hw
def gSub (to ti : TE) (t : TSet) : TG := fun v σ H Q => to σ H fun o H1 => ti σ H1 fun i H2 => t o i v H2 fun H3 => Q σ H3
def tAsg (te : TE) (g : TG) : TS := fun D σ H => te σ H fun x H1 => g x σ H1 D.nx
theorem ps_set {i : Nat} {x : Str} {e : Expr} {te : TE} {pos' : Pos} (hN : X.N.Nodup) (hi : X.N[i]? = some x) (hx : Loc X.env.scope x) (he : PE X e te) (hs : swapsWith e (some (.Name x pos')) pos.line X.env = pure false := by rfl) (hf : X.fn x = true ∨ X.env.scope.names.lookup x = some .local := by first | exact .inl rfl | exact .inr rfl | assumption) :
    PS X (.Assign [.Name x pos'] e pos) (tAsg te (gName i)) := by
  intro pins s σ H D I h
  refine wpAny_Assign_Name (thn (he pins s σ H _ I h) fun v s1 ⟨y, H1, I1, r1, q1⟩ => ?_) hs
  exact store_ok I1 hN hi hx r1 (fun s2 I2 => ⟨_, H1, I2, q1⟩) hf
def tPar (i j : Nat) (ta : TA) : TS := fun D σ H => ta σ H fun vs H1 => ∃ v w, vs = [v, w] ∧ D.nx ((σ.set i (some v)).set j (some w)) H1
def tAug (i : Nat) (te : TE) (ti : TIp) : TS := fun D σ H => ∃ x, σ[i]? = some (some x) ∧ te σ H fun y H1 => ti x y H1 fun z H2 => D.nx (σ.set i (some z)) H2
def tAugS (to ti te : TE) (tget : V → V → Hp → VK → Prop) (tip : TIp) (tset : TSet) : TS := fun D σ H => to σ H fun o H1 => ti σ H1 fun i H2 => tget o i H2 fun x H3 => te σ H3 fun y H4 => tip x y H4 fun z H5 => tset o i z H5 fun H6 => D.nx σ H6
def PGet (X : Cx) (t : V → V → Hp → VK → Prop) : Prop :=
  ∀ (pins : List (Addr × Obj)) (s : Shared) (σ : St) (H : Hp) (o i : V) (ov iv : Value) (Q : VK), Inv X pins σ H s → RelV o ov → RelV i iv → t o i H Q →
    wpAny (model X.prog X.w) X.A (getItem ov iv) (EP X pins σ Q) X.xe s
def ipI (f : Int → Int → Int) : TIp := fun x y H Q => ∃ i j, x = .int i ∧ y = .int j ∧ Q (.int (f i j)) H
end
section
variable {X : Cx} {pos : Pos}
def tWhile (c : TT) (tb : TS) : TS := fun D σ H => ∃ W : Nat → St → Hp → Prop, (∃ m, W m σ H) ∧ ∀ m σ H, W m σ H →
  c σ H fun b H1 => if b = true then ∃ N : St → Hp → Prop, (∀ σ' H', N σ' H' → ∃ m', m' < m ∧ W m' σ' H') ∧ tb { D with nx := N, ct := N, bk := D.nx } σ H1 else D.nx σ H1
theorem ps_while {c : Expr} {body : List Stmt} {tc : TT} {tb : TS} (hp : PassesOwn (model X.prog X.w) X.A X.env X.xe) (hc : PT X c tc) (hb : PSs X body tb) : PS X (.While c body [] pos) (tWhile tc tb) := by
  intro pins s σ H D I h
  obtain ⟨W, ⟨m0, w0⟩, turn⟩ := h
  refine wpAny_While (codeAny_whileLoop (fun n s' => ∃ σ' H', Inv X pins σ' H' s' ∧ W n σ' H') ?_ m0 ⟨σ, H, I, w0⟩)
  rintro n s1 ⟨σ1, H1, I1, w1⟩
  refine wpAny_passesOwn hp (thn (hc pins s1 σ1 H1 _ I1 (turn n σ1 H1 w1)) fun b s2 ⟨H2, I2, q2⟩ => ?_)
  cases b with
  | true =>
    obtain ⟨N, hN, q2⟩ := q2
    rw [if_pos rfl]
    refine wpAny_passesOwn hp (thn (hb pins s2 σ1 H2 _ I2 q2) fun f s3 q3 => ?_)
    cases f with
    | next =>
      obtain ⟨σ3, H3, I3, n3⟩ := q3
      obtain ⟨m', hm, w3⟩ := hN σ3 H3 n3
      exact ⟨m', hm, σ3, H3, I3, w3⟩
    | cont =>
      obtain ⟨σ3, H3, I3, n3⟩ := q3
      obtain ⟨m', hm, w3⟩ := hN σ3 H3 n3
      exact ⟨m', hm, σ3, H3, I3, w3⟩
    | brk => exact q3
    | ret v => exact q3
  | false =>
    rw [if_neg Bool.false_ne_true]
    exact wpAny_execs_nil ⟨σ1, H2, I2, q2⟩
end
structure It where
  go : Nat → Hp → Prop
  yld : Nat → Hp → V → Hp → Prop
  stop : Nat → Hp → Prop
def FpOk (X : Cx) (pins : List (Addr × Obj)) (H : Hp) (b : Addr) : Prop :=
  H b = none ∧ b ≠ X.env.locals ∧ b ∉ X.fs ∧ (b ∈ X.ex ∨ X.s₀.heap.objs.size ≤ b) ∧ (∀ x c, X.env.cells.lookup x = some c → c ≠ b) ∧ ∀ p ∈ X.pn ++ pins, p.1 ≠ b
theorem Inv.fpOk {X : Cx} {pins : List (Addr × Obj)} {σ : St} {H H' : Hp} {s : Shared} {b : Addr} (I : Inv X pins σ H s) (hb : s.heap.objs.size ≤ b) (hn : H' b = none) : FpOk X pins H' b := by
  refine ⟨hn, Nat.ne_of_gt (Nat.lt_of_lt_of_le I.lt hb), I.nofs hb, .inr (Nat.le_trans I.sz hb), fun x c e z => ?_, fun p hp z => ?_⟩
  · obtain ⟨v, q⟩ := I.cell x c e
    exact absurd (Nat.lt_of_lt_of_le q.lt (by rw [z]; exact hb)) (Nat.lt_irrefl _)
  · exact absurd (Nat.lt_of_lt_of_le (Heap.lt_size (I.pin p hp).1) (by rw [z]; exact hb)) (Nat.lt_irrefl _)
structure Turn (P : Program) (w : World) (K : PySem.W.Frag) (tg : Expr) (J : It) (fp : List Addr) (it : Addr) (tn : Nat → Heap → Prop) : Prop where
  mem : it ∈ fp
  obj : ∀ i h, tn i h → ∀ b ∈ fp, ∃ o, h.get? b = some o ∧ ∀ v, o.data ≠ .cell v
  keep : ∀ i h h', tn i h → (∀ b ∈ fp, ∀ o, h.get? b = some o → h'.get? b = some o) → tn i h'
  item : ∀ (X : Cx), X.prog = P → X.w = w → X.K = K → X.calm = true → ∀ (i : Nat) (pins : List (Addr × Obj)) (s : Shared) (σ : St) (H : Hp) (E : Value → Shared → Prop), Inv X pins σ H s → (∀ b ∈ fp, FpOk X pins H b) → tn i s.heap → J.go i H →
    wpAny (model P w) X.A (pyNext (.ref it)) (fun r s1 => ∃ u, r = some u ∧
      wpAny (model P w) X.A (letOwnedTupleGo tg (.ref it) u) (fun _ s2 => ∃ x H', Inv X pins σ H' s2 ∧ RelV x u ∧ J.yld i H x H' ∧ tn (i + 1) s2.heap ∧ ∀ b ∈ fp, H' b = none) E s1) E s
  done : ∀ (X : Cx), X.prog = P → X.w = w → X.K = K → X.calm = true → ∀ (i : Nat) (pins : List (Addr × Obj)) (s : Shared) (σ : St) (H : Hp) (E : Value → Shared → Prop), Inv X pins σ H s → (∀ b ∈ fp, FpOk X pins H b) → tn i s.heap → J.stop i H →
    wpAny (model P w) X.A (pyNext (.ref it)) (fun r s1 => r = none ∧ Inv X pins σ H s1) E s
  self : ∀ (A : Around) (i : Nat) (s : Shared) (Q : Value → Shared → Prop) (E : Value → Shared → Prop), tn i s.heap → Q (.ref it) s → wpAny (model P w) A (pyIter (.ref it)) Q E s
abbrev TI := St → Hp → (It → Hp → Prop) → Prop
def PIE (X : Cx) (pins : List (Addr × Obj)) (σ : St) (tg : Expr) (R : It → Hp → Prop) (itv : Value) (s2 : Shared) : Prop :=
  ∃ (it : Addr) (fp : List Addr) (tn : Nat → Heap → Prop) (J : It) (H' : Hp), itv = .ref it ∧ Inv X pins σ H' s2 ∧ Turn X.prog X.w X.K tg J fp it tn ∧ tn 0 s2.heap ∧ (∀ b ∈ fp, FpOk X pins H' b) ∧ R J H'
def PI (X : Cx) (tg iter : Expr) (wi : TI) : Prop :=
  ∀ (pins : List (Addr × Obj)) (s : Shared) (σ : St) (H : Hp) (R : It → Hp → Prop), Inv X pins σ H s → wi σ H R →
    wpAny (model X.prog X.w) X.A (eval iter X.env) (fun v s1 => wpAny (model X.prog X.w) X.A (pyIter v) (PIE X pins σ tg R) X.xe s1) X.xe s
theorem go_of {M : Model} {A : Around} {E : Value → Shared → Prop} {s : Shared} {tg : Expr} {it : Addr} {u : Value} {o : Obj} {n : String} {vs : Array Value} {Q : Unit → Shared → Prop} (ho : s.heap.get? it = some o) (hc : o.cls = .type n) (hd : o.data = .fields vs)
    (hn : ["enumerate", "zip", "dict_itemiterator", "dict_reverseitemiterator", "odict_iterator", "itertools.zip_longest", "itertools.pairwise"].contains n = false) (hQ : Q () s) : wpAny M A (letOwnedTupleGo tg (.ref it) u) Q E s := by
  unfold letOwnedTupleGo
  cases tg <;> first
    | exact wpAny_pure hQ
    | (cases u <;> first
        | exact wpAny_pure hQ
        | (refine wpAny_bind (wpAny_load ho ?_)
           rw [hc, hd]
           show wpAny M A (if (["enumerate", "zip", "dict_itemiterator", "dict_reverseitemiterator", "odict_iterator", "itertools.zip_longest", "itertools.pairwise"].contains n && vs[0]? == some (rawInt _)) = true then _ else _) Q E s
           rw [if_neg (by intro h; rw [hn, Bool.false_and] at h; cases h)]
           exact wpAny_pure hQ))
def Itl (K : PySem.W.Frag) (a : Addr) : It :=
  ⟨fun i H => ∃ xs x, SqL K H a xs ∧ xs[i]? = some x, fun i H x H' => H' = H ∧ ∀ xs, SqL K H a xs → xs[i]? = some x, fun i H => ∃ xs, SqL K H a xs ∧ xs.length ≤ i⟩
def Itt (K : PySem.W.Frag) (a : Addr) : It :=
  ⟨fun i H => ∃ xs x, SqT K H a xs ∧ xs[i]? = some x, fun i H x H' => H' = H ∧ ∀ xs, SqT K H a xs → xs[i]? = some x, fun i H => ∃ xs, SqT K H a xs ∧ xs.length ≤ i⟩
def Itr (lo : Int) (n : Nat) : It := ⟨fun i _ => i < n, fun i H x H' => H' = H ∧ x = .int (lo + i), fun i _ => n ≤ i⟩
theorem turn_list {P : Program} {w : World} {K : PySem.W.Frag} {tg : Expr} (a it : Addr) : Turn P w K tg (Itl K a) [it] it (fun i h => h.IsListIter it a i) where
  mem := by simp
  obj := fun i h st b hb => by
    have e : b = it := by simpa using hb
    subst e
    obtain ⟨o, e, c, d⟩ := st
    exact ⟨o, e, fun v z => by rw [d] at z; cases z⟩
  keep := fun i h h' st k => st.at fun o e => k it (by simp) o e
  item := by
    intro X hP hw hK hc i pins s σ H E I hf st hg
    subst hP hw hK
    obtain ⟨xs, x, hq, hx⟩ := hg
    obtain ⟨its, rv, p, hz⟩ := I.list hq
    obtain ⟨u, hu, ru⟩ := rv.get hx
    obtain ⟨f0, f1, f2, f3, f4, f5⟩ := hf it (by simp)
    refine wpAny_pyNext_list_item st p.isList (x := u) (by simpa using hu) fun h' st' sb => ?_
    have I1 : Inv X pins σ H { s with heap := h' } := I.turned (t' := s.toks) (fun b o hb e => (sb.2 b hb).trans e) f0 f1 f3 f4 f5
    obtain ⟨o, e, c, d⟩ := id st'
    exact ⟨u, rfl, go_of (s := { s with heap := h' }) e c d (by decide) ⟨x, H, I1, ru, ⟨rfl, fun ys hy => by rw [I.list_inj hy hq]; exact hx⟩, st', fun b hb => (hf b hb).1⟩⟩
  done := by
    intro X hP hw hK hc i pins s σ H E I hf st hg
    subst hP hw hK
    obtain ⟨xs, hq, hx⟩ := hg
    obtain ⟨its, rv, p, hz⟩ := I.list hq
    obtain ⟨f0, f1, f2, f3, f4, f5⟩ := hf it (by simp)
    have hl := rv.length
    exact wpAny_pyNext_list_end (I.ok.hd hc) st p.isList (by simp; omega) fun h' eb => ⟨rfl, I.turned (t' := s.toks) (fun b o hb e => eb b o hb e) f0 f1 f3 f4 f5⟩
  self := fun _ _ _ _ _ st h => wpAny_pyIter_listiter st h
theorem turn_tuple {P : Program} {w : World} {K : PySem.W.Frag} {tg : Expr} (a it : Addr) : Turn P w K tg (Itt K a) [it] it (fun i h => h.IsTupleIter it a i) where
  mem := by simp
  obj := fun i h st b hb => by
    have e : b = it := by simpa using hb
    subst e
    obtain ⟨o, e, c, d⟩ := st
    exact ⟨o, e, fun v z => by rw [d] at z; cases z⟩
  keep := fun i h h' st k => st.at fun o e => k it (by simp) o e
  item := by
    intro X hP hw hK hc i pins s σ H E I hf st hg
    subst hP hw hK
    obtain ⟨xs, x, hq, hx⟩ := hg
    obtain ⟨its, rv, p, hz⟩ := I.tuple hq
    obtain ⟨u, hu, ru⟩ := rv.get hx
    obtain ⟨f0, f1, f2, f3, f4, f5⟩ := hf it (by simp)
    refine wpAny_pyNext_tuple_item st (show s.heap.IsTuple a its.toArray from p) (x := u) (by simpa using hu) fun h' st' sb => ?_
    have I1 : Inv X pins σ H { s with heap := h' } := I.turned (t' := s.toks) (fun b o hb e => (sb.2 b hb).trans e) f0 f1 f3 f4 f5
    obtain ⟨o, e, c, d⟩ := id st'
    exact ⟨u, rfl, go_of (s := { s with heap := h' }) e c d (by decide) ⟨x, H, I1, ru, ⟨rfl, fun ys hy => by rw [I.tuple_inj hy hq]; exact hx⟩, st', fun b hb => (hf b hb).1⟩⟩
  done := by
    intro X hP hw hK hc i pins s σ H E I hf st hg
    subst hP hw hK
    obtain ⟨xs, hq, hx⟩ := hg
    obtain ⟨its, rv, p, hz⟩ := I.tuple hq
    obtain ⟨f0, f1, f2, f3, f4, f5⟩ := hf it (by simp)
    have hl := rv.length
    exact wpAny_pyNext_tuple_end (I.ok.hd hc) st (show s.heap.IsTuple a its.toArray from p) (by simp; omega) fun h' eb => ⟨rfl, I.turned (t' := s.toks) (fun b o hb e => eb b o hb e) f0 f1 f3 f4 f5⟩
  self := fun _ _ _ _ _ st h => wpAny_pyIter_tupleiter st h
theorem turn_range {P : Program} {w : World} {K : PySem.W.Frag} {tg : Expr} (it : Addr) (lo : Int) (n : Nat) : Turn P w K tg (Itr lo n) [it] it (fun i h => IsRangeIter h it (lo + (i : Nat) * 1) ((n : Int) - (i : Nat)) 1) where
  mem := by simp
  obj := fun i h st b hb => by
    have e : b = it := by simpa using hb
    subst e
    exact ⟨_, st, fun v z => by
      have z' : Data.fields _ = Data.cell v := z
      cases z'⟩
  keep := fun i h h' st k => k it (by simp) _ st
  item := by
    intro X hP hw hK hc i pins s σ H E I hf st hg
    subst hP hw hK
    obtain ⟨f0, f1, f2, f3, f4, f5⟩ := hf it (by simp)
    have W := Walks.range (prog := X.prog) (w := X.w) (I.ok.hd hc) it lo 1 n
    refine W.item i s _ _ hg st fun v h' tk hv st' kk => ?_
    obtain ⟨t, rfl⟩ := hv
    have I1 : Inv X pins σ H { s with heap := h', toks := tk } := I.turned (fun b o hb e => kk b o (by simpa using hb) e) f0 f1 f3 f4 f5
    refine ⟨_, rfl, go_of (s := { s with heap := h', toks := tk }) (n := "range_iterator") st' rfl rfl (by decide) ⟨.int (lo + i), H, I1, ⟨t, ?_⟩, ⟨rfl, rfl⟩, st', fun b hb => (hf b hb).1⟩⟩
    rw [Int.mul_one]
  done := by
    intro X hP hw hK hc i pins s σ H E I hf st hg
    subst hP hw hK
    obtain ⟨f0, f1, f2, f3, f4, f5⟩ := hf it (by simp)
    exact wpAny_pyNext_range_end (I.ok.hd hc) st (by have : n ≤ i := hg; omega) fun h' eb => ⟨rfl, I.turned (t' := s.toks) (fun b o hb e => eb b o hb e) f0 f1 f3 f4 f5⟩
  self := fun _ _ _ _ _ st h => wpAny_pyIter_rangeiter st h
end L2
namespace L2
open PySem PySem.Spec PyProof.Rows
section
variable {X : Cx} {tg : Expr}
def iList (K : PySem.W.Frag) (tl : TE) : TI := fun σ H R => tl σ H fun x H1 => ∃ a, x = .ref a ∧ (∃ xs, SqL K H1 a xs) ∧ R (Itl K a) H1
def iTup (K : PySem.W.Frag) (tl : TE) : TI := fun σ H R => tl σ H fun x H1 => ∃ a, x = .ref a ∧ (∃ xs, SqT K H1 a xs) ∧ R (Itt K a) H1
theorem pi_list {l : Expr} {tl : TE} (hl : PE X l tl) : PI X tg l (iList X.K tl) := by
  intro pins s σ H R I h
  refine thn (hl pins s σ H _ I h) fun v s1 ⟨x, H1, I1, r1, q1⟩ => ?_
  obtain ⟨a, e, ⟨xs, hq⟩, q⟩ := q1
  subst e
  cases r1
  obtain ⟨its, rv, p, hz⟩ := I1.list hq
  refine wpAny_pyIter_list p.isList ?_
  refine ⟨s1.heap.objs.size, [s1.heap.objs.size], _, _, H1, rfl, I1.kept (t' := s1.toks) fun b o e => Heap.get?_push_of_some _ e, turn_list a _, ⟨_, Heap.get?_push_size _ rfl, rfl, rfl⟩, fun b hb => ?_, q⟩
  have e : b = s1.heap.objs.size := by simpa using hb
  subst e
  exact I1.fpOk (Nat.le_refl _) (I1.hok.fresh (Nat.le_refl _))
theorem pi_tup {l : Expr} {tl : TE} (hl : PE X l tl) : PI X tg l (iTup X.K tl) := by
  intro pins s σ H R I h
  refine thn (hl pins s σ H _ I h) fun v s1 ⟨x, H1, I1, r1, q1⟩ => ?_
  obtain ⟨a, e, ⟨xs, hq⟩, q⟩ := q1
  subst e
  cases r1
  obtain ⟨its, rv, p, hz⟩ := I1.tuple hq
  refine wpAny_pyIter_tuple (show s1.heap.IsTuple a its.toArray from p) ?_
  refine ⟨s1.heap.objs.size, [s1.heap.objs.size], _, _, H1, rfl, I1.kept (t' := s1.toks) fun b o e => Heap.get?_push_of_some _ e, turn_tuple a _, ⟨_, Heap.get?_push_size _ rfl, rfl, rfl⟩, fun b hb => ?_, q⟩
  have e : b = s1.heap.objs.size := by simpa using hb
  subst e
  exact I1.fpOk (Nat.le_refl _) (I1.hok.fresh (Nat.le_refl _))
theorem range_it {pins : List (Addr × Obj)} {σ : St} {H : Hp} {s : Shared} {R : It → Hp → Prop} {E : Value → Shared → Prop} {lo hi : Int} {t u v : Tok} {tk : Nat} (I : Inv X pins σ H s) (h1 : -(2 ^ 62) ≤ lo) (h2 : lo < 2 ^ 62) (h3 : -(2 ^ 62) ≤ hi) (h4 : hi < 2 ^ 62)
    (q : R (Itr lo (hi - lo).toNat) H) : wpAny (model X.prog X.w) X.A (pyIter (.ref s.heap.objs.size)) (PIE X pins σ tg R) E { s with heap := s.heap.push { cls := .type "range", data := .fields #[.int lo t, .int hi u, .int 1 v] }, toks := tk } := by
  refine wpAny_pyIter_range (IsRange.new ..) (small_one h1 h2 h3 h4) ?_
  have I1 : Inv X pins σ H { s with heap := s.heap.push { cls := .type "range", data := .fields #[.int lo t, .int hi u, .int 1 v] }, toks := tk } := I.kept fun b o e => Heap.get?_push_of_some _ e
  refine ⟨(s.heap.push { cls := .type "range", data := .fields #[.int lo t, .int hi u, .int 1 v] }).objs.size, [(s.heap.push { cls := .type "range", data := .fields #[.int lo t, .int hi u, .int 1 v] }).objs.size], _, _, H, rfl,
    I1.kept (t' := tk) fun b o e => Heap.get?_push_of_some _ e, turn_range _ lo (hi - lo).toNat, ?_, fun b hb => ?_, q⟩
  · have e1 : lo + ((0 : Nat) : Int) * 1 = lo := by simp
    have e2 : (((hi - lo).toNat : Nat) : Int) - ((0 : Nat) : Int) = Builtin.Range.rangeSize lo hi 1 := by rw [rangeSize_one]; split <;> omega
    show IsRangeIter _ _ (lo + ((0 : Nat) : Int) * 1) ((((hi - lo).toNat : Nat) : Int) - ((0 : Nat) : Int)) 1
    rw [e1, e2]
    exact Heap.get?_push_size _ rfl
  · have e : b = (s.heap.push { cls := .type "range", data := .fields #[.int lo t, .int hi u, .int 1 v] }).objs.size := by simpa using hb
    subst e
    exact I1.fpOk (Nat.le_refl _) (I1.hok.fresh (Nat.le_refl _))
def iRng1 (ta : TA) : TI := fun σ H R => ta σ H fun vs H1 => ∃ j : Int, vs = [.int j] ∧ -(2 ^ 62) ≤ j ∧ j < 2 ^ 62 ∧ R (Itr 0 j.toNat) H1
def iRng2 (ta : TA) : TI := fun σ H R => ta σ H fun vs H1 => ∃ i j : Int, vs = [.int i, .int j] ∧ (-(2 ^ 62) ≤ i ∧ i < 2 ^ 62 ∧ -(2 ^ 62) ≤ j ∧ j < 2 ^ 62) ∧ R (Itr i (j - i).toNat) H1
theorem pi_range1 {a : Expr} {ta : TA} {p pos : Pos} (hg : Gl X "range") (hm : X.mg "range" = none) (ha : PA X [a] ta) (hs : starEach [a] X.env = [(false, eval a X.env)] := by rfl) : PI X tg (.Call (.Name "range" p) [a] [] pos) (iRng1 ta) := by
  intro pins s σ H R I h
  refine Call_ (ld_blt I hg hm boot_range (PyProof.Rows.callWith_type1 (thn (ha pos pins s σ H _ I h) fun us s1 ⟨vs, H1, I1, r1, q1⟩ => ?_) hs rfl))
  obtain ⟨j, e, q1, q2, q⟩ := q1
  subst e
  cases r1 with
  | cons r rr =>
    cases rr
    obtain ⟨t, rfl⟩ := r
    exact call_range_1 (range_it I1 (by omega) (by omega) q1 q2 (by simpa using q))
def tFor (wi : TI) (g : TG) (tb : TS) : TS := fun D σ H => wi σ H fun J H1 => ∃ W : Nat → Nat → St → Hp → Prop, (∃ m, W 0 m σ H1) ∧ ∀ i m σ H, W i m σ H →
  (J.stop i H ∧ D.nx σ H) ∨ (J.go i H ∧ ∃ N : St → Hp → Prop, (∀ σ' H', N σ' H' → ∃ m', m' < m ∧ W (i + 1) m' σ' H') ∧ ∀ x H', J.yld i H x H' → g x σ H' fun σ2 H2 => tb { D with nx := N, ct := N, bk := D.nx } σ2 H2)
def pinsAt (fp : List Addr) (h : Heap) : List (Addr × Obj) := fp.filterMap fun b => (h.get? b).map fun o => (b, o)
theorem mem_pinsAt {fp : List Addr} {h : Heap} {b : Addr} {o : Obj} (hb : b ∈ fp) (e : h.get? b = some o) : (b, o) ∈ pinsAt fp h := List.mem_filterMap.mpr ⟨b, hb, by rw [e]; rfl⟩
theorem of_pinsAt {fp : List Addr} {h : Heap} {p : Addr × Obj} (hp : p ∈ pinsAt fp h) : p.1 ∈ fp ∧ h.get? p.1 = some p.2 := by
  obtain ⟨b, hb, e⟩ := List.mem_filterMap.mp hp
  cases q : h.get? b with
  | none => rw [q] at e; cases e
  | some o =>
    rw [q] at e
    have e' : (b, o) = p := Option.some.inj e
    subst e'
    exact ⟨hb, q⟩
theorem Inv.pinned {pins : List (Addr × Obj)} {σ : St} {H : Hp} {s : Shared} {fp : List Addr} (I : Inv X pins σ H s) (hf : ∀ b ∈ fp, FpOk X pins H b) (ho : ∀ b ∈ fp, ∃ o, s.heap.get? b = some o ∧ ∀ v, o.data ≠ .cell v) : Inv X (pins ++ pinsAt fp s.heap) σ H s :=
  I.pins_of fun p hp => (List.mem_append.mp hp).elim (fun z => I.pin p (List.mem_append_right _ z)) fun z => by
    obtain ⟨hb, e⟩ := of_pinsAt z
    obtain ⟨f0, f1, f2, _⟩ := hf p.1 hb
    obtain ⟨o, e', d⟩ := ho p.1 hb
    rw [e] at e'; cases e'
    exact ⟨e, f0, f1, f2, d⟩
theorem Inv.unpinned {pins pl : List (Addr × Obj)} {σ : St} {H : Hp} {s : Shared} (I : Inv X (pins ++ pl) σ H s) : Inv X pins σ H s := I.pins_of fun p hp => I.pin p (List.mem_append_right _ (List.mem_append_left _ hp))
theorem ps_for {iter : Expr} {body : List Stmt} {wi : TI} {g : TG} {tb : TS} {pos : Pos} (hp : PassesOwn (model X.prog X.w) X.A X.env X.xe) (hc : X.calm = true) (hi : PI X tg iter wi) (hg : PG X tg g) (hb : PSs X body tb)
    (hs : ∀ x, foldedSetIterable iter X.env x = pure x := by intro _; rfl) : PS X (.For tg iter body [] pos) (tFor wi g tb) := by
  intro pins s σ H D I h
  refine wpAny_For (thn (hi pins s σ H _ I h) fun v s1 h1 => thn h1 fun itv s2 h2 => ?_) hs
  obtain ⟨it, fp, tn, J, H2, e, I2, T, st2, f2, W, ⟨m0, w0⟩, turn⟩ := h2
  subst e
  have stat : ∀ {H' : Hp}, (∀ b ∈ fp, H' b = none) → ∀ b ∈ fp, FpOk X pins H' b := fun hn b hb => ⟨hn b hb, (f2 b hb).2⟩
  refine codeAny_forLoop_any (fun n s' => ∃ i σ' H', Inv X pins σ' H' s' ∧ tn i s'.heap ∧ (∀ b ∈ fp, H' b = none) ∧ W i n σ' H') ?_ m0 ⟨0, σ, H2, I2, st2, fun b hb => (f2 b hb).1, w0⟩
  rintro n s3 ⟨i, σ3, H3, I3, st3, fr3, w3⟩
  rcases turn i n σ3 H3 w3 with ⟨stop, qn⟩ | ⟨go, N, hN, step⟩
  · refine wpAny_passesOwn hp (thn (T.done X rfl rfl rfl hc i pins s3 σ3 H3 X.xe I3 (stat fr3) st3 stop) fun r s4 ⟨hr, I4⟩ => ?_)
    subst hr
    exact wpAny_execs_nil ⟨σ3, H3, I4, qn⟩
  · refine wpAny_passesOwn hp (thn (T.item X rfl rfl rfl hc i pins s3 σ3 H3 X.xe I3 (stat fr3) st3 go) fun r s4 ⟨u, hr, h4⟩ => ?_)
    subst hr
    refine wpAny_passesOwn hp (thn h4 fun _ s5 ⟨x, H5, I5, r5, y5, st5, fr5⟩ => ?_)
    have I5' := I5.pinned (stat fr5) (T.obj _ _ st5)
    refine wpAny_passesOwn hp (thn (hg _ s5 σ3 H5 x u _ I5' r5 (step x H5 y5)) fun _ s6 ⟨σ6, H6, I6, q6⟩ => ?_)
    refine wpAny_passesOwn hp (thn (hb _ s6 σ6 H6 _ I6 q6) fun f s7 q7 => ?_)
    have again : ∀ {σ7 : St} {H7 : Hp}, Inv X (pins ++ pinsAt fp s5.heap) σ7 H7 s7 → N σ7 H7 → ∃ m, m < n ∧ ∃ i σ' H', Inv X pins σ' H' s7 ∧ tn i s7.heap ∧ (∀ b ∈ fp, H' b = none) ∧ W i m σ' H' := fun {σ7 H7} I7 n7 => by
      obtain ⟨m', hm, w7⟩ := hN σ7 H7 n7
      refine ⟨m', hm, i + 1, σ7, H7, I7.unpinned, T.keep _ _ _ st5 fun b hb o e => (I7.pin (b, o) (List.mem_append_right _ (List.mem_append_right _ (mem_pinsAt hb e)))).1, fun b hb => ?_, w7⟩
      obtain ⟨o, e, d⟩ := T.obj _ _ st5 b hb
      exact (I7.pin (b, o) (List.mem_append_right _ (List.mem_append_right _ (mem_pinsAt hb e)))).2.1
    cases f with
    | next => obtain ⟨σ7, H7, I7, n7⟩ := q7; exact again I7 n7
    | cont => obtain ⟨σ7, H7, I7, n7⟩ := q7; exact again I7 n7
    | brk => obtain ⟨σ7, H7, I7, q7⟩ := q7; exact ⟨σ7, H7, I7.unpinned, q7⟩
    | ret v => obtain ⟨x7, σ7, H7, I7, r7, q7⟩ := q7; exact ⟨x7, σ7, H7, I7.unpinned, r7, q7⟩
end
theorem for_list {K : PySem.W.Frag} {a : Addr} {xs : List V} {g : TG} {tb : TS} {D : Ends} {σ : St} {H : Hp} (Pv : Nat → St → Hp → Prop) (h0 : Pv 0 σ H) (hl : ∀ i σ H, i ≤ xs.length → Pv i σ H → SqL K H a xs)
    (hs : ∀ i x σ H, xs[i]? = some x → Pv i σ H → g x σ H fun σ2 H2 => tb { D with nx := Pv (i + 1), ct := Pv (i + 1), bk := D.nx } σ2 H2) (hd : ∀ σ H, Pv xs.length σ H → D.nx σ H) :
    ∃ W : Nat → Nat → St → Hp → Prop, (∃ m, W 0 m σ H) ∧ ∀ i m σ H, W i m σ H →
      ((Itl K a).stop i H ∧ D.nx σ H) ∨ ((Itl K a).go i H ∧ ∃ N : St → Hp → Prop, (∀ σ' H', N σ' H' → ∃ m', m' < m ∧ W (i + 1) m' σ' H') ∧ ∀ x H', (Itl K a).yld i H x H' → g x σ H' fun σ2 H2 => tb { D with nx := N, ct := N, bk := D.nx } σ2 H2) := by
  refine ⟨fun i m σ H => m = xs.length - i ∧ i ≤ xs.length ∧ Pv i σ H, ⟨xs.length, by simp, Nat.zero_le _, h0⟩, ?_⟩
  rintro i m σ H ⟨rfl, hi, p⟩
  have q := hl i σ H hi p
  by_cases hlt : i < xs.length
  · refine .inr ⟨⟨xs, xs[i], q, by simp [hlt]⟩, Pv (i + 1), fun σ' H' p' => ⟨xs.length - (i + 1), by omega, rfl, hlt, p'⟩, fun x H' y => ?_⟩
    obtain ⟨e, y⟩ := y
    subst e
    exact hs i x σ _ (y xs q) p
  · have e : i = xs.length := by omega
    subst e
    exact .inl ⟨⟨xs, q, Nat.le_refl _⟩, hd σ H p⟩
theorem for_range {lo : Int} {n : Nat} {g : TG} {tb : TS} {D : Ends} {σ : St} {H : Hp} (Pv : Nat → St → Hp → Prop) (h0 : Pv 0 σ H)
    (hs : ∀ i σ H, i < n → Pv i σ H → g (.int (lo + i)) σ H fun σ2 H2 => tb { D with nx := Pv (i + 1), ct := Pv (i + 1), bk := D.nx } σ2 H2) (hd : ∀ σ H, Pv n σ H → D.nx σ H) :
    ∃ W : Nat → Nat → St → Hp → Prop, (∃ m, W 0 m σ H) ∧ ∀ i m σ H, W i m σ H →
      ((Itr lo n).stop i H ∧ D.nx σ H) ∨ ((Itr lo n).go i H ∧ ∃ N : St → Hp → Prop, (∀ σ' H', N σ' H' → ∃ m', m' < m ∧ W (i + 1) m' σ' H') ∧ ∀ x H', (Itr lo n).yld i H x H' → g x σ H' fun σ2 H2 => tb { D with nx := N, ct := N, bk := D.nx } σ2 H2) := by
  refine ⟨fun i m σ H => m = n - i ∧ i ≤ n ∧ Pv i σ H, ⟨n, by simp, Nat.zero_le _, h0⟩, ?_⟩
  rintro i m σ H ⟨rfl, hi, p⟩
  by_cases hlt : i < n
  · refine .inr ⟨hlt, Pv (i + 1), fun σ' H' p' => ⟨n - (i + 1), by omega, rfl, hlt, p'⟩, fun x H' y => ?_⟩
    obtain ⟨e, y⟩ := y
    subst e y
    exact hs i σ _ hlt p
  · have e : i = n := by omega
    subst e
    exact .inl ⟨Nat.le_refl _, hd σ H p⟩
end L2
namespace L2
open PySem PySem.Spec PyProof.Rows
abbrev R2 := V → V → Hp → VK → Prop
def OpR (X : Cx) (f : Value → Value → Sem Value) (r : R2) : Prop :=
  ∀ (pins : List (Addr × Obj)) (s : Shared) (σ : St) (H : Hp) (x y : V) (v u : Value) (Q : VK), Inv X pins σ H s → RelV x v → RelV y u → r x y H Q →
    wpAny (model X.prog X.w) X.A (f v u) (EP X pins σ Q) X.xe s
def UnR (X : Cx) (f : Value → Sem Value) (r : V → Hp → VK → Prop) : Prop :=
  ∀ (pins : List (Addr × Obj)) (s : Shared) (σ : St) (H : Hp) (x : V) (v : Value) (Q : VK), Inv X pins σ H s → RelV x v → r x H Q →
    wpAny (model X.prog X.w) X.A (f v) (EP X pins σ Q) X.xe s
def CallR (X : Cx) (f : Value) (r : List V → Hp → VK → Prop) : Prop :=
  ∀ (pins : List (Addr × Obj)) (s : Shared) (σ : St) (H : Hp) (xs : List V) (us : List Value) (Q : VK), Inv X pins σ H s → Vals xs us → r xs H Q →
    wpAny (model X.prog X.w) X.A (call f us) (EP X pins σ Q) X.xe s
def TruR (X : Cx) (r : V → Hp → (Bool → Hp → Prop) → Prop) : Prop :=
  ∀ (pins : List (Addr × Obj)) (s : Shared) (σ : St) (H : Hp) (x : V) (v : Value) (Q : Bool → Hp → Prop), Inv X pins σ H s → RelV x v → r x H Q →
    wpAny (model X.prog X.w) X.A (truthy v) (TP X pins σ Q) X.xe s
def tOp (r : R2) (ta tb : TE) : TE := fun σ H Q => ta σ H fun x H1 => tb σ H1 fun y H2 => r x y H2 Q
def tUn (r : V → Hp → VK → Prop) (ta : TE) : TE := fun σ H Q => ta σ H fun x H1 => r x H1 Q
def rI (C : Int → Int → Prop) (g : Int → Int → V) : R2 := fun x y H Q => ∃ i j, x = .int i ∧ y = .int j ∧ C i j ∧ Q (g i j) H
def rI0 (g : Int → Int → V) : R2 := fun x y H Q => ∃ i j, x = .int i ∧ y = .int j ∧ Q (g i j) H
def rU (g : Int → V) : V → Hp → VK → Prop := fun x H Q => ∃ i, x = .int i ∧ Q (g i) H
section
variable {X : Cx} {a b c : Expr} {ta tb tc : TE} {pos : Pos}
theorem binT (ha : PE X a ta) (hb : PE X b tb) {pins : List (Addr × Obj)} {s : Shared} {σ : St} {H : Hp} {R : V → V → Hp → Prop} (I : Inv X pins σ H s)
    (h : ta σ H fun x H1 => tb σ H1 fun y H2 => R x y H2) {Q : Value → Shared → Prop} {f : Value → Value → Sem Value}
    (hf : ∀ v u s2 x y H2, Inv X pins σ H2 s2 → RelV x v → RelV y u → R x y H2 → wpAny (model X.prog X.w) X.A (f v u) Q X.xe s2) :
    wpAny (model X.prog X.w) X.A (eval a X.env) (fun v s₁ => wpAny (model X.prog X.w) X.A (eval b X.env) (fun u s₂ => wpAny (model X.prog X.w) X.A (f v u) Q X.xe s₂) X.xe s₁) X.xe s := by
  refine thn (ha pins s σ H _ I h) fun v s1 ⟨x, H1, I1, r1, q1⟩ => ?_
  refine thn (hb pins s1 σ H1 _ I1 q1) fun u s2 ⟨y, H2, I2, r2, q2⟩ => ?_
  exact hf v u s2 x y H2 I2 r1 r2 q2
theorem pe_op {op : Operator} {r : R2} (ho : OpR X (binaryOp op) r) (ha : PE X a ta) (hb : PE X b tb) : PE X (.BinOp a op b pos) (tOp r ta tb) := by
  intro pins s σ H Q I h
  exact wpAny_BinOp (binT ha hb I h fun v u s2 x y H2 I2 rx ry q => ho pins s2 σ H2 x y v u Q I2 rx ry q)
theorem pe_un {op : UnaryOp} {r : V → Hp → VK → Prop} (ho : UnR X (unaryOp op) r) (ha : PE X a ta) : PE X (.UnaryOp op a pos) (tUn r ta) := by
  intro pins s σ H Q I h
  exact UnaryOp_ (thn (ha pins s σ H _ I h) fun v s1 ⟨x, H1, I1, r1, q1⟩ => ho pins s1 σ H1 x v Q I1 r1 q1)
theorem opI {f : Value → Value → Sem Value} {C : Int → Int → Prop} {g : Int → Int → Int}
    (rule : ∀ (i j : Int) (t u : Tok) (s : Shared) (Q : Value → Shared → Prop) (E : Value → Shared → Prop), C i j → Q (.int (g i j) s.toks) { s with toks := s.toks + 1 } → wpAny (model X.prog X.w) X.A (f (.int i t) (.int j u)) Q E s) :
    OpR X f (rI C fun i j => .int (g i j)) := by
  intro pins s σ H x y v u Q I rx ry h
  obtain ⟨i, j, rfl, rfl, hc, q⟩ := h
  obtain ⟨t, rfl⟩ := rx
  obtain ⟨t', rfl⟩ := ry
  exact rule i j t t' s _ _ hc ⟨.int (g i j), H, I.tok _, ⟨_, rfl⟩, q⟩
theorem opI0 {f : Value → Value → Sem Value} {g : Int → Int → Int}
    (rule : ∀ (i j : Int) (t u : Tok) (s : Shared) (Q : Value → Shared → Prop) (E : Value → Shared → Prop), Q (.int (g i j) s.toks) { s with toks := s.toks + 1 } → wpAny (model X.prog X.w) X.A (f (.int i t) (.int j u)) Q E s) :
    OpR X f (rI0 fun i j => .int (g i j)) := by
  intro pins s σ H x y v u Q I rx ry h
  obtain ⟨i, j, rfl, rfl, q⟩ := h
  obtain ⟨t, rfl⟩ := rx
  obtain ⟨t', rfl⟩ := ry
  exact rule i j t t' s _ _ ⟨.int (g i j), H, I.tok _, ⟨_, rfl⟩, q⟩
theorem opB0 {f : Value → Value → Sem Value} {g : Int → Int → Bool}
    (rule : ∀ (i j : Int) (t u : Tok) (s : Shared) (Q : Value → Shared → Prop) (E : Value → Shared → Prop), Q (.bool (g i j)) s → wpAny (model X.prog X.w) X.A (f (.int i t) (.int j u)) Q E s) :
    OpR X f (rI0 fun i j => .bl (g i j)) := by
  intro pins s σ H x y v u Q I rx ry h
  obtain ⟨i, j, rfl, rfl, q⟩ := h
  obtain ⟨t, rfl⟩ := rx
  obtain ⟨t', rfl⟩ := ry
  exact rule i j t t' s _ _ ⟨.bl (g i j), H, I, rfl, q⟩
def CDiv (i j : Int) : Prop := 0 < j ∧ j < 1073741824
def CDivN (i j : Int) : Prop := j ≠ 0 ∧ j.natAbs < 1073741824
def CPow (i j : Int) : Prop := 0 ≤ j ∧ j ≤ 1000000 ∧ i.natAbs < 2 ^ 64
def CMul (i j : Int) : Prop := (-(2 ^ 64) < i ∧ i < 2 ^ 64) ∨ (-(2 ^ 64) < j ∧ j < 2 ^ 64)
theorem CMul.ok {i j : Int} (h : CMul i j) : IntMulOk i j := by
  rcases h with ⟨h1, h2⟩ | ⟨h1, h2⟩
  · exact .of_left (intBits_le_64 h1 h2)
  · exact .of_right (intBits_le_64 h1 h2)
theorem op_add : OpR X (binaryOp .Add) (rI0 fun i j => .int (i + j)) := opI0 fun _ _ _ _ _ _ _ q => add_int q
theorem op_sub : OpR X (binaryOp .Sub) (rI0 fun i j => .int (i - j)) := opI0 fun _ _ _ _ _ _ _ q => sub_int q
theorem op_mul : OpR X (binaryOp .Mult) (rI CMul fun i j => .int (i * j)) := opI fun _ _ _ _ _ _ _ hc q => mul_int q hc.ok
theorem op_fdiv : OpR X (binaryOp .FloorDiv) (rI CDiv fun i j => .int (i / j)) := opI fun i j _ _ _ _ _ hc q => by
  have h1 : (0 : Int) < j := hc.1
  have h2 : j < 1073741824 := hc.2
  exact floordiv_int (by omega) (by rw [Int.fdiv_eq_ediv_of_nonneg i (by omega)]; exact q) (.inl (PyProof.noPylong_small (by omega)))
theorem op_mod : OpR X (binaryOp .Mod) (rI (fun _ j => 0 < j) fun i j => .int (i % j)) := opI fun i j _ _ _ _ _ hc q => by
  have h1 : (0 : Int) < j := hc
  exact mod_int' (by omega) (by rw [Int.fmod_eq_emod_of_nonneg i (by omega)]; exact q)
theorem op_pow : OpR X (binaryOp .Pow) (rI CPow fun i j => .int (i ^ j.toNat)) := opI fun _ _ _ _ _ _ _ hc q => pow_int_small hc.1 hc.2.1 hc.2.2 q
theorem unI {f : Value → Sem Value} {g : Int → Int}
    (rule : ∀ (i : Int) (t : Tok) (s : Shared) (Q : Value → Shared → Prop) (E : Value → Shared → Prop), Q (.int (g i) s.toks) { s with toks := s.toks + 1 } → wpAny (model X.prog X.w) X.A (f (.int i t)) Q E s) :
    UnR X f (rU fun i => .int (g i)) := by
  intro pins s σ H x v Q I rx h
  obtain ⟨i, rfl, q⟩ := h
  obtain ⟨t, rfl⟩ := rx
  exact rule i t s _ _ ⟨.int (g i), H, I.tok _, ⟨_, rfl⟩, q⟩
theorem un_neg : UnR X (unaryOp .USub) (rU fun i => .int (-i)) := unI fun _ _ _ _ _ q => neg_int q
end
def scal : V → V → Bool
  | .non, .non => true | .non, .int _ => true | .int _, .non => true | .non, .bl _ => true | .bl _, .non => true | .non, .str _ => true | .str _, .non => true
  | .int _, .int _ => true | .bl _, .bl _ => true | .str _, .str _ => true | .byt _, .byt _ => true
  | .int _, .str _ => true | .str _, .int _ => true | .bl _, .str _ => true | .str _, .bl _ => true
  | _, _ => false
def rEq : R2 := fun x y H Q => scal x y = true ∧ Q (.bl (decide (x = y))) H
def rNe : R2 := fun x y H Q => scal x y = true ∧ Q (.bl (!decide (x = y))) H
theorem dec_int {i j : Int} : decide (V.int i = V.int j) = (i == j) := by
  rw [Bool.eq_iff_iff]
  simp
theorem dec_bl {i j : Bool} : decide (V.bl i = V.bl j) = (i == j) := by
  rw [Bool.eq_iff_iff]
  simp
theorem dec_str {i j : Str} : decide (V.str i = V.str j) = (i == j) := by
  rw [Bool.eq_iff_iff]
  simp
theorem dec_byt {i j : Array UInt8} : decide (V.byt i = V.byt j) = (i.toList == j.toList) := by
  rw [Bool.eq_iff_iff]
  cases i
  cases j
  simp
section
variable {X : Cx} {a b c : Expr} {ta tb tc : TE} {pos : Pos}
theorem fin_bl {pins : List (Addr × Obj)} {σ : St} {H : Hp} {s : Shared} {Q : VK} {k k' : Bool} (I : Inv X pins σ H s) (q : Q (.bl k) H) (e : k = k') : EP X pins σ Q (.bool k') s := by
  subst e
  exact ⟨.bl k, H, I, rfl, q⟩
theorem op_eq : OpR X (compareOp .Eq) rEq := by
  intro pins s σ H x y v u Q I rx ry h
  obtain ⟨hs, q⟩ := h
  cases x with
  | non =>
    cases rx
    cases y with
    | non => cases ry; exact PySem.EqNone.eq_none_none (fin_bl I q (by simp))
    | bl j => cases ry; exact PySem.EqNone.eq_none_bool (fin_bl I q (by simp))
    | int j => obtain ⟨t', rfl⟩ := ry; exact PySem.EqNone.eq_none_int (fin_bl I q (by simp))
    | str j => obtain ⟨t', rfl⟩ := ry; exact PySem.EqNone.eq_none_str (fin_bl I q (by simp))
    | _ => exact absurd (show false = true from hs) Bool.false_ne_true
  | bl i =>
    cases rx
    cases y with
    | non => cases ry; exact PySem.EqNone.eq_bool_none (fin_bl I q (by simp))
    | bl j => cases ry; exact eq_bool (fin_bl I q dec_bl)
    | str j => obtain ⟨t', rfl⟩ := ry; exact PySem.EqMixed.eq_bool_str (fin_bl I q (by simp))
    | _ => exact absurd (show false = true from hs) Bool.false_ne_true
  | int i =>
    obtain ⟨t, rfl⟩ := rx
    cases y with
    | non => cases ry; exact PySem.EqNone.eq_int_none (fin_bl I q (by simp))
    | int j => obtain ⟨t', rfl⟩ := ry; exact eq_int (fin_bl I q dec_int)
    | str j => obtain ⟨t', rfl⟩ := ry; exact PySem.EqMixed.eq_int_str (fin_bl I q (by simp))
    | _ => exact absurd (show false = true from hs) Bool.false_ne_true
  | str i =>
    obtain ⟨t, rfl⟩ := rx
    cases y with
    | non => cases ry; exact PySem.EqNone.eq_str_none (fin_bl I q (by simp))
    | bl j => cases ry; exact PySem.EqMixed.eq_str_bool (fin_bl I q (by simp))
    | int j => obtain ⟨t', rfl⟩ := ry; exact PySem.EqMixed.eq_str_int (fin_bl I q (by simp))
    | str j => obtain ⟨t', rfl⟩ := ry; exact eq_str (fin_bl I q dec_str)
    | _ => exact absurd (show false = true from hs) Bool.false_ne_true
  | byt i =>
    obtain ⟨t, rfl⟩ := rx
    cases y with
    | byt j => obtain ⟨t', rfl⟩ := ry; exact PySem.W.eq_bytes (fin_bl I q dec_byt)
    | _ => exact absurd (show false = true from hs) Bool.false_ne_true
  | _ => cases y <;> exact absurd (show false = true from hs) Bool.false_ne_true
theorem op_ne : OpR X (compareOp .NotEq) rNe := by
  intro pins s σ H x y v u Q I rx ry h
  obtain ⟨hs, q⟩ := h
  cases x with
  | non =>
    cases rx
    cases y with
    | non => cases ry; exact PySem.EqNone.ne_none_none (fin_bl I q (by simp))
    | bl j => cases ry; exact PySem.EqNone.ne_none_bool (fin_bl I q (by simp))
    | int j => obtain ⟨t', rfl⟩ := ry; exact PySem.EqNone.ne_none_int (fin_bl I q (by simp))
    | str j => obtain ⟨t', rfl⟩ := ry; exact PySem.EqNone.ne_none_str (fin_bl I q (by simp))
    | _ => exact absurd (show false = true from hs) Bool.false_ne_true
  | bl i =>
    cases rx
    cases y with
    | non => cases ry; exact PySem.EqNone.ne_bool_none (fin_bl I q (by simp))
    | bl j => cases ry; exact ne_bool (fin_bl I q (congrArg not dec_bl))
    | str j => obtain ⟨t', rfl⟩ := ry; exact PySem.EqMixed.ne_bool_str (fin_bl I q (by simp))
    | _ => exact absurd (show false = true from hs) Bool.false_ne_true
  | int i =>
    obtain ⟨t, rfl⟩ := rx
    cases y with
    | non => cases ry; exact PySem.EqNone.ne_int_none (fin_bl I q (by simp))
    | int j => obtain ⟨t', rfl⟩ := ry; exact ne_int (fin_bl I q (congrArg not dec_int))
    | str j => obtain ⟨t', rfl⟩ := ry; exact PySem.EqMixed.ne_int_str (fin_bl I q (by simp))
    | _ => exact absurd (show false = true from hs) Bool.false_ne_true
  | str i =>
    obtain ⟨t, rfl⟩ := rx
    cases y with
    | non => cases ry; exact PySem.EqNone.ne_str_none (fin_bl I q (by simp))
    | bl j => cases ry; exact PySem.EqMixed.ne_str_bool (fin_bl I q (by simp))
    | int j => obtain ⟨t', rfl⟩ := ry; exact PySem.EqMixed.ne_str_int (fin_bl I q (by simp))
    | str j => obtain ⟨t', rfl⟩ := ry; exact ne_str (fin_bl I q (congrArg not dec_str))
    | _ => exact absurd (show false = true from hs) Bool.false_ne_true
  | byt i =>
    obtain ⟨t, rfl⟩ := rx
    cases y with
    | byt j => obtain ⟨t', rfl⟩ := ry; exact PySem.W.ne_bytes (fin_bl I q (congrArg not dec_byt))
    | _ => exact absurd (show false = true from hs) Bool.false_ne_true
  | _ => cases y <;> exact absurd (show false = true from hs) Bool.false_ne_true
theorem op_lt : OpR X (compareOp .Lt) (rI0 fun i j => .bl (decide (i < j))) := opB0 fun _ _ _ _ _ _ _ q => lt_int q
theorem op_gt : OpR X (compareOp .Gt) (rI0 fun i j => .bl (decide (j < i))) := opB0 fun _ _ _ _ _ _ _ q => gt_int q
def isObj : HO → Bool
  | .lst _ => true
  | .ins _ _ _ => true
  | _ => false
theorem nomark (b : Expr) {op : CmpOp} (h : op ≠ .In := by decide) (h2 : op ≠ .NotIn := by decide) : behindInMarks op b = false := by
  have e1 : (op == CmpOp.In) = false := by cases op <;> first | rfl | exact absurd rfl h
  have e2 : (op == CmpOp.NotIn) = false := by cases op <;> first | rfl | exact absurd rfl h2
  cases b <;> simp [behindInMarks, e1, e2]
theorem pe_cmpR {op : CmpOp} {r : R2} (ho : OpR X (compareOp op) r) (ha : PE X a ta) (hb : PE X b tb) (hm : behindInMarks op b = false) : PE X (.Compare a [op] [b] pos) (tOp r ta tb) := by
  intro pins s σ H Q I h
  exact wpAny_Compare1 (binT ha hb I h fun v u s2 x y H2 I2 rx ry q => ho pins s2 σ H2 x y v u Q I2 rx ry q) hm
def tTest (t : TE) : TT := fun σ H Q => t σ H fun x H' => ∃ k, x = .bl k ∧ Q k H'
theorem pt_cmpR {op : CmpOp} {r : R2} (ho : OpR X (compareOp op) r) (ha : PE X a ta) (hb : PE X b tb) (hm : behindInMarks op b = false) : PT X (.Compare a [op] [b] pos) (tTest (tOp r ta tb)) := by
  intro pins s σ H Q I h
  refine wpAny_isTrue_Compare1 (thn (ha pins s σ H _ I h) fun v s1 ⟨x, H1, I1, r1, q1⟩ => thn (hb pins s1 σ H1 _ I1 q1) fun u s2 ⟨y, H2, I2, r2, q2⟩ =>
    thn (ho pins s2 σ H2 x y v u _ I2 r1 r2 q2) fun c s3 ⟨z, H3, I3, r3, k, e, q3⟩ => ?_) hm
  subst e
  cases r3
  exact wpAny_truthy_bool ⟨H3, I3, q3⟩
def tChain (r r' : R2) (ta tb tc : TE) : TE := fun σ H Q => ta σ H fun x H1 => tb σ H1 fun y H2 => r x y H2 fun z H3 => ∃ k, z = .bl k ∧
  (if k = true then tc σ H3 fun w' H4 => r' y w' H4 Q else Q (.bl false) H3)
def TruV (K : PySem.W.Frag) (x : V) (H : Hp) (k : Bool) : Prop :=
  match x with
  | .non => k = false
  | .bl b => k = b
  | .int i => k = (i != 0)
  | .str y => y.length ≤ sizeLine ∧ k = ((y.length : Int) != 0)
  | .byt y => y.size ≤ sizeLine ∧ k = ((y.size : Int) != 0)
  | .ref p => (∃ xs, SqL K H p xs ∧ k = !xs.isEmpty) ∨ (∃ xs, SqT K H p xs ∧ k = !xs.isEmpty) ∨ ∃ kvs, H p = some (.dK kvs) ∧ k = !kvs.isEmpty
  | _ => False
theorem isEmpty_kv {κ : Type} {kvs : List (κ × V)} {vs : List (κ × Value)} (r : KV kvs vs) : (!vs.isEmpty) = !kvs.isEmpty := by
  cases r <;> rfl
theorem isEmpty_of {xs : List V} {its : List Value} (r : Vals xs its) : (!its.toArray.isEmpty) = !xs.isEmpty := by
  cases r <;> simp
theorem line63 : (sizeLine : Nat) < 2 ^ 63 := by rw [sizeLine_eq]; decide
theorem tru_ok : TruR X (fun x H Q => ∃ k, TruV X.K x H k ∧ Q k H) := by
  intro pins s σ H x v Q I rx h
  obtain ⟨k, e, q⟩ := h
  have hl := line63
  have hs : sizeLine = 16777216 := sizeLine_eq
  cases x with
  | non =>
    cases rx
    have e' : k = false := e
    subst e'
    exact truthy_none ⟨H, I, q⟩
  | bl b =>
    cases rx
    have e' : k = b := e
    subst e'
    exact wpAny_truthy_bool ⟨H, I, q⟩
  | int i =>
    obtain ⟨t, rfl⟩ := rx
    have e' : k = (i != 0) := e
    subst e'
    exact PySem.P.truthy_int ⟨H, I, q⟩
  | str y =>
    obtain ⟨t, rfl⟩ := rx
    obtain ⟨hy, e'⟩ : y.length ≤ sizeLine ∧ k = ((y.length : Int) != 0) := e
    subst e'
    exact PySem.P.truthy_str (by omega) ⟨H, I.tok _, q⟩
  | byt y =>
    obtain ⟨t, rfl⟩ := rx
    obtain ⟨hy, e'⟩ : y.size ≤ sizeLine ∧ k = ((y.size : Int) != 0) := e
    subst e'
    exact PySem.W.truthy_bytes (by omega) ⟨H, I.tok _, q⟩
  | ref p =>
    cases rx
    have e' : (∃ xs, SqL X.K H p xs ∧ k = !xs.isEmpty) ∨ (∃ xs, SqT X.K H p xs ∧ k = !xs.isEmpty) ∨ ∃ kvs, H p = some (.dK kvs) ∧ k = !kvs.isEmpty := e
    rcases e' with ⟨xs, hx, e'⟩ | ⟨xs, hx, e'⟩ | ⟨kvs, hx, e'⟩
    · subst e'
      obtain ⟨its, r, pl, hz⟩ := I.list hx
      have hlen := r.length
      exact wpAny_truthy_list pl.isList (by simp only [List.size_toArray]; omega) ⟨H, I.tok _, by rw [isEmpty_of r]; exact q⟩
    · subst e'
      obtain ⟨its, r, pl, hz⟩ := I.tuple hx
      have hlen := r.length
      exact truthy_tuple pl (by simp only [List.size_toArray]; omega) ⟨H, I.tok _, by rw [isEmpty_of r]; exact q⟩
    · subst e'
      obtain ⟨hz, hS, vs, r, m⟩ : kvs.length ≤ sizeLine ∧ (p == sysModules) = false ∧ ∃ vs, KV kvs vs ∧ s.heap.DictOf (mixKind X.prog X.w) p vs := I.hok p _ hx
      have hlen : kvs.length = vs.length := Paired.length r
      exact wpAny_truthy_dict hS m (by omega) ⟨H, I.tok _, by rw [isEmpty_kv r]; exact q⟩
  | _ => exact (show False from e).elim
theorem pt_truth (ha : PE X a ta) (he : ∀ whole, isTrue a X.env whole = (do let v ← whole; standAt a.pos; holding [v] (truthy v))) :
    PT X a (fun σ H Q => ta σ H fun x H' => ∃ k, TruV X.K x H' k ∧ Q k H') := by
  intro pins s σ H Q I h
  exact isTrue_plain (thn (ha pins s σ H _ I h) fun v s1 ⟨x, H1, I1, r1, q1⟩ => tru_ok pins s1 σ H1 x v Q I1 r1 q1) (he _)
theorem op_add_str : OpR X (binaryOp .Add) (fun x y H Q => ∃ i j, x = .str i ∧ y = .str j ∧ i.length + j.length ≤ sizeLine ∧ Q (.str (i ++ j)) H) := by
  intro pins s σ H x y v u Q I rx ry h
  obtain ⟨i, j, rfl, rfl, hz, q⟩ := h
  obtain ⟨t, rfl⟩ := rx
  obtain ⟨t', rfl⟩ := ry
  exact add_str (fun t' tk => ⟨.str (i ++ j), H, I.tok _, ⟨_, rfl⟩, q⟩) hz
def PlainIxT (b : Expr) : Prop := ∀ o i, subscripted b false o i = operate [o, i] (getItem o i)
theorem vals1 {x : V} {us : List Value} (r : Vals [x] us) : ∃ u, us = [u] ∧ RelV x u := by
  cases r with
  | cons r1 r2 => cases r2; exact ⟨_, rfl, r1⟩
theorem vals2 {x y : V} {us : List Value} (r : Vals [x, y] us) : ∃ u w', us = [u, w'] ∧ RelV x u ∧ RelV y w' := by
  cases r with
  | cons r1 r2 =>
    cases r2 with
    | cons r3 r4 => cases r4; exact ⟨_, _, rfl, r1, r3⟩
def LenV (K : PySem.W.Frag) (x : V) (H : Hp) (n : Nat) : Prop :=
  match x with
  | .str y => y.length ≤ sizeLine ∧ n = y.length
  | .byt y => y.size ≤ sizeLine ∧ n = y.size
  | .ref p => (∃ xs, SqL K H p xs ∧ n = xs.length) ∨ ∃ xs, SqT K H p xs ∧ n = xs.length
  | _ => False
end
end L2
namespace L2
open PySem PySem.Spec PyProof.Rows
structure ObjM (h : Heap) (x dx C : Addr) (mA : Str → Option Value) : Prop where
  obj : h.get? x = some (PySem.W.instObj C dx)
  ns : h.Ns1 dx mA
  ne : dx ≠ x
theorem lookIn_ns {h : Heap} {dx : Addr} {mA : Str → Option Value} (n : h.Ns1 dx mA) : ∃ od, h.get? dx = some od ∧ ∀ name, PySem.W.lookIn name od = some (mA name) := by
  obtain ⟨o, es, ep, ho, hd, hk, _, hm⟩ := n
  refine ⟨o, ho, fun name => ?_⟩
  have e := hm name
  unfold nsFind findBy at e
  rw [← Array.find?_toList] at e
  unfold PySem.W.lookIn
  rw [hd]
  dsimp only
  split
  · rename_i y q
    rw [q] at e
    exact congrArg some e
  · rename_i q
    rw [q] at e
    have a : es.toList.any (·.refKey) = false := by
      rw [List.any_eq_false]
      intro y hy
      obtain ⟨z, t, hkey⟩ := hk y (Array.mem_toList_iff.mp hy)
      simp [DictEntry.refKey, hkey]
    have a' : ¬ es.toList.any (·.refKey) = true := by rw [a]; exact Bool.false_ne_true
    rw [if_neg a']
    exact congrArg some e
theorem ObjM.look {h : Heap} {x dx C : Addr} {mA : Str → Option Value} (I : ObjM h x dx C mA) : ∃ od, PySem.W.InstAt h x (PySem.W.instObj C dx) C (some od) ∧ ∀ name, PySem.W.lookIn name od = some (mA name) :=
  let ⟨od, ho, hl⟩ := lookIn_ns I.ns
  ⟨od, ⟨I.obj, rfl, rfl, ho⟩, hl⟩
section
variable {prog : Program} {w : World} {A : Around} {E : Value → Shared → Prop} {s : Shared} {K : PySem.W.Frag} {x dx C f : Addr} {mA : Str → Option Value} {name : Str} {v : Value}
end
def putF (f : Str) (v : V) : List (Str × V) → List (Str × V)
  | [] => [(f, v)]
  | (g, x) :: r => if g = f then (g, v) :: r else (g, x) :: putF f v r
theorem RelO.some_of {v : V} {o : Option Value} (r : RelO (some v) o) : ∃ u, o = some u ∧ RelV v u := by
  cases o with
  | none => exact (show False from r).elim
  | some u => exact ⟨u, rfl, r⟩
section
variable {P : Program} {w : World} {H H' : Hp} {h h' : Heap} {a C dx : Addr} {fs fs' : List (Str × V)}
theorem ins_get (hok : HOk P w H h) (e : H a = some (.ins C dx fs)) : ∃ mA, ObjM h a dx C mA ∧ (∀ f, RelO (fs.lookup f) (mA f)) ∧ PySem.Within mA (fs.map (·.1)) ∧ fs.length ≤ 1000 ∧ H dx = some (.own a) := by
  obtain ⟨d, z, ne, ob, mA, n, r, q⟩ := (show ObjOk P w H h a (.ins C dx fs) from hok a _ e)
  exact ⟨mA, ⟨ob, n, ne⟩, r, q, z, d⟩
end
structure Cls (K : PySem.W.Frag) (C : Addr) : Prop where
  pg : PySem.W.plainGet K C Str.empty = true
  hd : PySem.W.hasDictIn K C = true
  po : PySem.W.plainOver K C = true
  sa : PySem.W.findIn K (.ref C) "__setattr__" = some (some (.builtin "object.__setattr__"))
theorem Cls.get {K : PySem.W.Frag} {C : Addr} (c : Cls K C) (f : Str) : PySem.W.plainGet K C f = true := c.pg
def NoAttr (K : PySem.W.Frag) (C : Addr) (f : Str) : Prop := PySem.W.findIn K (.ref C) f = some none
structure Con (K : PySem.W.Frag) (C : Addr) (f : Str) (v : V) (u : Value) : Prop where
  at_ : PySem.W.findIn K (.ref C) f = some (some u)
  rel : RelV v u
  get : PySem.W.specialIn K u "__get__" = some none
  cp : PySem.W.copiedNames.contains f = false
structure Meth (K : PySem.W.Frag) (C : Addr) (m : Str) (f : Addr) : Prop where
  at_ : PySem.W.findIn K (.ref C) m = some (some (.ref f))
  fn : PySem.W.isFn K (.ref f) = true
  kp : PySem.W.keepIn K (.ref f) = true
section
variable {X : Cx} {pins : List (Addr × Obj)} {σ : St} {H : Hp} {s : Shared} {a C dx : Addr} {fs : List (Str × V)} {f : Str} {v : V} {A : Around} {E : Value → Shared → Prop}
end
def tFld (K : PySem.W.Frag) (ta : TE) (f : Str) : TE := fun σ H Q => ta σ H fun x H1 => ∃ a C dx fs v, x = .ref a ∧ H1 a = some (.ins C dx fs) ∧ Cls K C ∧ NoAttr K C f ∧ fs.lookup f = some v ∧ Q v H1
def tCon (K : PySem.W.Frag) (ta : TE) (f : Str) : TE := fun σ H Q => ta σ H fun x H1 => ∃ a C dx fs v u, x = .ref a ∧ H1 a = some (.ins C dx fs) ∧ Cls K C ∧ Con K C f v u ∧ fs.lookup f = none ∧ Q v H1
def sFld (K : PySem.W.Frag) (ta tv : TE) (f : Str) : TS := fun D σ H => tv σ H fun y H1 => ta σ H1 fun x H2 => ∃ a C dx fs, x = .ref a ∧ H2 a = some (.ins C dx fs) ∧ Cls K C ∧ NoAttr K C f ∧ fs.length < 1000 ∧
  D.nx σ (upd H2 a (.ins C dx (putF f y fs)))
def InOp (X : Cx) (op : Operator) (rd : V → V → Hp → VK → Prop) : Prop :=
  ∀ (pins : List (Addr × Obj)) (s : Shared) (σ : St) (H : Hp) (x y : V) (u v : Value) (Q : VK), Inv X pins σ H s → RelV x u → RelV y v → rd x y H Q → wpAny (model X.prog X.w) X.A (inplaceOp op u v) (EP X pins σ Q) X.xe s
def sFldAug (K : PySem.W.Frag) (ta tv : TE) (rd : V → V → Hp → VK → Prop) (f : Str) : TS := fun D σ H => ta σ H fun x H1 => ∃ a C dx fs v, x = .ref a ∧ H1 a = some (.ins C dx fs) ∧ Cls K C ∧ NoAttr K C f ∧ fs.lookup f = some v ∧
  tv σ H1 fun y H2 => rd v y H2 fun z H3 => ∃ dx' fs', H3 a = some (.ins C dx' fs') ∧ fs'.length < 1000 ∧ D.nx σ (upd H3 a (.ins C dx' (putF f z fs')))
section
variable {X : Cx} {o e value : Expr} {f : Str} {pos pos' tpos : Pos} {ta tv : TE}
def rAdd : V → V → Hp → VK → Prop := fun x y H Q => ∃ i j, x = .int i ∧ y = .int j ∧ Q (.int (i + j)) H
def rSub : V → V → Hp → VK → Prop := fun x y H Q => ∃ i j, x = .int i ∧ y = .int j ∧ Q (.int (i - j)) H
end
section
variable {X : Cx} {pins : List (Addr × Obj)} {σ : St} {H : Hp} {s : Shared} {A : Around} {E : Value → Shared → Prop} {Q : Value → Shared → Prop} {c : Value} {b : Bool}
inductive TyOf (K : PySem.W.Frag) (H : Hp) : V → Value → Prop where
  | non : TyOf K H .non (.type "NoneType")
  | bl (x : Bool) : TyOf K H (.bl x) (.type "bool")
  | int (i : Int) : TyOf K H (.int i) (.type "int")
  | str (x : Str) : TyOf K H (.str x) (.type "str")
  | flt (x : UInt64) : TyOf K H (.flt x) (.type "float")
  | lst {a : Addr} {xs : List V} (e : H a = some (.lst xs)) : TyOf K H (.ref a) (.type "list")
  | frz {a : Addr} {o : Obj} {xs : List V} (e : H a = some (.frz o (.lst xs))) : TyOf K H (.ref a) (.type "list")
  | tup {a : Addr} {xs : List V} (e : H a = some (.tup xs)) : TyOf K H (.ref a) (.type "tuple")
  | dK {a : Addr} {kvs : List (Key × V)} (e : H a = some (.dK kvs)) : TyOf K H (.ref a) (.type "dict")
  | dT {a : Addr} {kvs : List (List Key × V)} (e : H a = some (.dT kvs)) : TyOf K H (.ref a) (.type "dict")
  | ins {a C dx : Addr} {fs : List (Str × V)} (e : H a = some (.ins C dx fs)) (cl : Cls K C) (ha : PySem.W.findIn K (.ref C) "__class__" = some (some (.builtin "object.__class__")))
      (hn : PySem.W.specialIn K (.builtin "object.__class__") "__get__" = some (some (.builtin "getset_descriptor.__get__"))) (htk : PySem.W.takesIn K (.builtin "object.__class__") = some true)
      (hm : PySem.W.mroIn K C (.type "object") = some true) : TyOf K H (.ref a) (.ref C)
theorem isinst_ok {x : V} {u t : Value} (I : Inv X pins σ H s) (rx : RelV x u) (ty : TyOf X.K H x t) (e : PySem.W.kitOne X.K t c = some b) (h : ∀ tk, Q (.bool b) { s with toks := tk }) :
    wpAny (model X.prog X.w) A (call (.builtin "isinstance") [u, c]) Q E s := by
  cases ty with
  | non => cases (show u = Value.none from rx); exact PySem.W.kia_one PySem.W.kitx_none I.kIn True.intro e (fun z => nomatch z) h
  | bl y => cases (show u = Value.bool y from rx); exact PySem.W.kia_one PySem.W.kitx_bool I.kIn True.intro e (fun z => nomatch z) h
  | int i => obtain ⟨t, q⟩ := (show ∃ t, u = Value.int i t from rx); cases q; exact PySem.W.kia_one PySem.W.kitx_int I.kIn True.intro e (fun z => nomatch z) h
  | str y => obtain ⟨t, q⟩ := (show ∃ t, u = Value.str y t from rx); cases q; exact PySem.W.kia_one PySem.W.kitx_str I.kIn True.intro e (fun z => nomatch z) h
  | flt y => obtain ⟨t, q⟩ := (show ∃ t, u = Value.float y t from rx); cases q; exact PySem.W.kia_one PySem.W.kitx_float I.kIn True.intro e (fun z => nomatch z) h
  | @lst a xs ea =>
    cases (show u = Value.ref a from rx)
    obtain ⟨_, _, n, _, h1⟩ := (show ObjOk X.prog X.w H s.heap a (.lst xs) from I.hok a _ ea)
    exact PySem.W.kia_one PySem.W.kitx_list I.kIn ⟨_, h1, rfl⟩ e (fun z => nomatch z) h
  | @frz a ob xs ea =>
    cases (show u = Value.ref a from rx)
    obtain ⟨_, _, _, n, _, h1⟩ := (show ObjOk X.prog X.w H s.heap a (.frz ob (.lst xs)) from I.hok a _ ea)
    exact PySem.W.kia_one PySem.W.kitx_list I.kIn ⟨_, h1, rfl⟩ e (fun z => nomatch z) h
  | @tup a xs ea =>
    cases (show u = Value.ref a from rx)
    obtain ⟨_, _, _, p⟩ := (show ObjOk X.prog X.w H s.heap a (.tup xs) from I.hok a _ ea)
    obtain ⟨o, h1, h2, _⟩ := p
    exact PySem.W.kia_one PySem.W.kitx_tuple I.kIn ⟨o, h1, h2⟩ e (fun z => nomatch z) h
  | @dK a kvs ea =>
    cases (show u = Value.ref a from rx)
    obtain ⟨_, _, vs, _, p⟩ := (show ObjOk X.prog X.w H s.heap a (.dK kvs) from I.hok a _ ea)
    obtain ⟨o, es, ep, h1, h2, _⟩ := p
    exact PySem.W.kia_one PySem.W.kitx_dict I.kIn ⟨o, h1, h2.1⟩ e (fun z => nomatch z) h
  | @dT a kvs ea =>
    cases (show u = Value.ref a from rx)
    obtain ⟨_, _, xs, _, o, es, ep, h1, h2, _⟩ := (show ObjOk X.prog X.w H s.heap a (.dT kvs) from I.hok a _ ea)
    exact PySem.W.kia_one PySem.W.kitx_dict I.kIn ⟨o, h1, h2.1⟩ e (fun z => nomatch z) h
  | @ins a C dx fs ea cl ha hn htk hm =>
    cases (show u = Value.ref a from rx)
    obtain ⟨mA, O, _⟩ := ins_get I.hok ea
    obtain ⟨od, J, _⟩ := O.look
    exact PySem.W.kia_one (PySem.W.kitx_own (cl.get _) cl.hd ha hn htk hm) I.kIn J e (fun z => nomatch z) h
end
end L2
namespace L2
open PySem PySem.Spec PyProof.Rows
structure Room (k : Nat) (A : Around) : Prop where
  hd : A.handled = none
  dp : A.depth + 3 * k + 5 < recursionLimit
  un : A.units + 16 * k + 200 < cLine
theorem Room.mono {j k : Nat} {A : Around} (r : Room k A) (h : j ≤ k) : Room j A := ⟨r.hd, by have := r.dp; omega, by have := r.un; omega⟩
theorem Room.deeper {k : Nat} {A : Around} (r : Room (k + 1) A) (env : Env) : Room k (A.deeper env) :=
  ⟨r.hd, by have := r.dp; show A.depth + 1 + 3 * k + 5 < _; omega, by have := r.un; show A.units + 3 + 16 * k + 200 < _; omega⟩
theorem Room.depth {k : Nat} {A : Around} (r : Room k A) : A.depth < recursionLimit := by have := r.dp; omega
theorem Room.units {k : Nat} {A : Around} (r : Room k A) : A.units + 64 < cLine := by have := r.un; omega
def tNil : TA := fun _ H Q => Q [] H
def tCons (ta : TE) (tr : TA) : TA := fun σ H Q => ta σ H fun x H1 => tr σ H1 fun xs H2 => Q (x :: xs) H2
section
variable {X : Cx} {e : Expr} {es : List Expr} {te : TE} {t : TA} {pos : Pos}
theorem pa_nil : PA X [] tNil := fun _ _ _ _ H Q I h => Calls.spliced_nil ⟨[], H, I, .nil, h⟩
theorem pa_cons (ha : PE X e te) (hr : PA X es t) (hs : starEach (e :: es) X.env = (false, eval e X.env) :: starEach es X.env := by rfl) : PA X (e :: es) (tCons te t) := by
  intro pos pins s σ H Q I h
  rw [hs]
  show wpAny _ _ (spliced ((false, eval e X.env) :: backTo pos (starEach es X.env))) _ _ s
  refine Calls.spliced_cons (thn (ha pins s σ H _ I h) fun u s1 ⟨x, H1, I1, r1, q1⟩ => ?_)
  exact thn (hr pos pins s1 σ H1 _ I1 q1) fun us s2 ⟨xs, H2, I2, r2, q2⟩ => ⟨x :: xs, H2, I2, .cons r1 r2, q2⟩
def tTup (t : TA) : TE := fun σ H Q => t σ H fun xs H1 => xs.length ≤ sizeLine ∧ ∀ p, H1 p = none → Q (.ref p) (upd H1 p (.tup xs))
def tLst (t : TA) : TE := fun σ H Q => t σ H fun xs H1 => xs.length ≤ sizeLine ∧ ∀ p, H1 p = none → Q (.ref p) (upd H1 p (.lst xs))
theorem pe_tup {x1} (h : PA X es t) : PE X (.Tuple es x1 pos) (tTup t) := by
  intro pins s σ H Q I hq
  refine wpAny_Tuple_spliced (thn (h pos pins s σ H _ I hq) fun us s1 ⟨xs, H1, I1, r, z, q⟩ => ⟨by rw [← r.length]; exact z, ?_⟩)
  have hf : H1 s1.heap.objs.size = none := I1.hok.fresh (Nat.le_refl _)
  refine ⟨.ref s1.heap.objs.size, upd H1 s1.heap.objs.size (.tup xs), I1.laid (t' := s1.toks) (fun b u e => Heap.get?_push_of_some _ e) (Nat.le_refl _) ?_, rfl, q _ hf⟩
  exact ⟨z, us, r, ⟨_, Heap.get?_push_size _ rfl, rfl, _, rfl⟩⟩
theorem pe_lst (h : PA X es t) : PE X (.List es pos) (tLst t) := by
  intro pins s σ H Q I hq
  refine wpAny_List_spliced (thn (h pos pins s σ H _ I hq) fun us s1 ⟨xs, H1, I1, r, z, q⟩ => ⟨by rw [← r.length]; exact z, ?_⟩)
  have hf : H1 s1.heap.objs.size = none := I1.hok.fresh (Nat.le_refl _)
  refine ⟨.ref s1.heap.objs.size, upd H1 s1.heap.objs.size (.lst xs), I1.laid (t' := s1.toks) (fun b u e => Heap.get?_push_of_some _ e) (Nat.le_refl _) ?_, rfl, q _ hf⟩
  exact ⟨z, us, 0, r, Heap.get?_push_size _ rfl⟩
end
abbrev Sp := List V → Hp → VK → XK → Prop
abbrev CXT := List Env → Hp → Shared → XK → Value → Shared → Prop
structure Env0 (P : Program) (w : World) (K : PySem.W.Frag) (mg : Str → Option Value) (base : Heap) (A : Around) (outer : List Env) (s : Shared) (H : Hp) : Prop where
  frames : A.frames = some outer
  mod : Mod K mg base
  bs : ∀ b o, base.get? b = some o → s.heap.get? b = some o ∧ H b = none
  bsz : base.objs.size ≤ s.heap.objs.size
  funs : s.heap.FunFrames base outer
  frf : ∀ b ∈ frs outer, H b = none
  hok : HOk P w H s.heap
  bare : AllBare s.gens
def CE (outer : List Env) (P : Program) (w : World) (H : Hp) (s : Shared) (Q : VK) (u : Value) (s' : Shared) : Prop :=
  ∃ v H', s'.os = s.os ∧ AllBare s'.gens ∧ Un (frs outer) [] H H' s.heap s'.heap ∧ HOk P w H' s'.heap ∧ RelV v u ∧ Q v H'
def CR (CX : CXT) (outer : List Env) (P : Program) (w : World) (H : Hp) (s : Shared) (Q : VK) (E : XK) (r : Result) (s' : Shared) : Prop :=
  match r with
  | .ok (.ret u) => CE outer P w H s Q u s'
  | .ok _ => False
  | .error e => CX outer H s E e s'
structure FnOk (P : Program) (w : World) (K : PySem.W.Frag) (mg : Str → Option Value) (base : Heap) (CX : CXT) (k : Nat) (f : Addr) (fd : FuncData) (ps : List Str) (sp : Sp) : Prop where
  len : ∀ vs H Q E, sp vs H Q E → vs.length = ps.length
  run : ∀ (A : Around) (outer : List Env) (s : Shared) (H : Hp) (args : Args) (us : List Value) (vs : List V) (Q : VK) (E : XK), Room k A → Env0 P w K mg base A outer s H → BindsTo s fd args (ps.zip us) → Vals vs us → sp vs H Q E →
    codeAny (model P w) A (.call (.ref f) args) (CR CX outer P w H s Q E) s
theorem FnOk.mono {P : Program} {w : World} {K : PySem.W.Frag} {mg : Str → Option Value} {base : Heap} {CX : CXT} {j k : Nat} {f : Addr} {fd : FuncData} {ps : List Str} {sp : Sp} (F : FnOk P w K mg base CX j f fd ps sp) (h : j ≤ k) :
    FnOk P w K mg base CX k f fd ps sp := ⟨F.len, fun A outer s H args us vs Q E hr => F.run A outer s H args us vs Q E (hr.mono h)⟩
section
variable {X : Cx} {pins : List (Addr × Obj)} {σ : St} {H : Hp} {s s' : Shared}
theorem Inv.env0 (I : Inv X pins σ H s) : Env0 X.prog X.w X.K X.mg X.base X.A X.stack s H :=
  ⟨I.ok.frames, I.ok.mod, I.bs, Nat.le_trans I.ok.bsz I.sz, I.stack, I.stkFree, I.hok, I.bare⟩
theorem Inv.after {Q : VK} {u : Value} (I : Inv X pins σ H s) (h : CE X.stack X.prog X.w H s Q u s') : EP X pins σ Q u s' := by
  obtain ⟨v, H', os, bare, un, hok, r, q⟩ := h
  obtain ⟨hh, g, d, t, os'⟩ := s'
  obtain rfl : os' = s.os := os
  exact ⟨v, H', I.call (h' := hh) (g' := g) (d' := d) (t' := t) (ch := []) un hok bare (fun b z => absurd z (by simp)), r, q⟩
end
def tCall (sp : Sp) (dvs : List V) (E : XK) (t : TA) : TE := fun σ H Q => t σ H fun vs H1 => sp (vs ++ dvs) H1 Q E
def tMeth (C : Addr) (m : Str) (sp : Sp) (dvs : List V) (E : XK) (ta : TE) (t : TA) : TE := fun σ H Q => ta σ H fun x H1 => ∃ a dx fs, x = .ref a ∧ H1 a = some (.ins C dx fs) ∧ fs.lookup m = none ∧
  t σ H1 fun vs H2 => sp (x :: (vs ++ dvs)) H2 Q E
def tMake (C : Addr) (sp : Sp) (dvs : List V) (E : XK) (t : TA) : TE := fun σ H Q => t σ H fun vs H1 => ∀ x dx, H1 x = none → H1 dx = none → dx ≠ x →
  sp (.ref x :: (vs ++ dvs)) (upd (upd H1 dx (.own x)) x (.ins C dx [])) (fun v H2 => v = .non ∧ Q (.ref x) H2) E
def Binds (K : PySem.W.Frag) (fd : FuncData) (ps : List Str) (ds : List Value) : Prop :=
  ∀ (s : Shared) (us : List Value), K.In s.heap → (us ++ ds).length = ps.length → BindsTo s fd ⟨us, []⟩ (ps.zip (us ++ ds))
theorem Binds.all {K : PySem.W.Frag} {fd : FuncData} {ps : List Str} (h : ∀ us : List Value, us.length = ps.length → bindArgs fd ⟨us, []⟩ = pure (ps.zip us)) : Binds K fd ps [] := fun s us _ hl => by
  rw [List.append_nil] at hl ⊢
  exact .of_eq (h us hl)
def Passes (CX : CXT) (X : Cx) (E : XK) : Prop := ∀ (pins : List (Addr × Obj)) (σ : St) (H : Hp) (s : Shared) (e : Value) (s' : Shared), Inv X pins σ H s → CX X.stack H s E e s' → X.xe e s'
section
variable {X : Cx} {CX : CXT} {k : Nat} {f C : Addr} {fd : FuncData} {ps : List Str} {sp : Sp} {dvs : List V} {ds : List Value} {E : XK} {x m : Str} {p pos apos : Pos} {e o : Expr} {es : List Expr} {ta : TE} {t : TA}
theorem run_fn {pins : List (Addr × Obj)} {σ : St} {H : Hp} {s : Shared} {Q : VK} {us : List Value} {vs : List V} (F : FnOk X.prog X.w X.K X.mg X.base CX k f fd ps sp) (hr : Room k X.A) (hb : Binds X.K fd ps ds) (hd : Vals dvs ds) (hx : Passes CX X E)
    (I : Inv X pins σ H s) (r : Vals vs us) (h : sp (vs ++ dvs) H Q E) : wpAny (model X.prog X.w) X.A (call (.ref f) us) (EP X pins σ Q) X.xe s := by
  have r2 : Vals (vs ++ dvs) (us ++ ds) := r.append hd
  have hl : (us ++ ds).length = ps.length := by rw [← r2.length]; exact F.len _ _ _ _ h
  refine wpAny_call (codeAny_mono (F.run X.A X.stack s H ⟨us, []⟩ (us ++ ds) (vs ++ dvs) Q E hr I.env0 (hb s us I.kIn hl) r2 h) fun r s' hq => ?_)
  cases r with
  | error e => exact hx pins σ H s e s' I hq
  | ok fl =>
    cases fl with
    | ret u => exact I.after hq
    | next => exact False.elim hq
    | brk => exact False.elim hq
    | cont => exact False.elim hq
theorem pe_call (F : FnOk X.prog X.w X.K X.mg X.base CX k f fd ps sp) (hr : Room k X.A) (hg : Gl X x) (hm : X.mg x = some (.ref f)) (hk : PySem.W.keepIn X.K (.ref f) = true) (hb : Binds X.K fd ps ds) (hd : Vals dvs ds) (hx : Passes CX X E)
    (ha : PA X (e :: es) t) (hdb : (x == ("__debug__" : Str)) = false := by decide) (he : starEach (e :: es) X.env = (false, eval e X.env) :: starEach es X.env := by rfl) (hpl : (backTo pos (starEach es X.env)).any (·.1) = false := by rfl) :
    PE X (.Call (.Name x p) (e :: es) [] pos) (tCall sp dvs E t) := by
  intro pins s σ H Q I h
  refine wpAny_Call_Name_kw (ld_glob I hg hm ?_ hdb)
  refine PySem.W.callWith_K (h₀ := X.base) I.ok.mod.kin hk (thn (ha pos pins s σ H _ I h) fun us s1 ⟨vs, H1, I1, r, q⟩ => ⟨I1.kIn, ?_⟩) he hpl
  exact run_fn F hr hb hd hx I1 r q
structure Mk (K : PySem.W.Frag) (C f : Addr) : Prop where
  makes : PySem.W.makesIn K C = true
  init : PySem.W.findIn K (.ref C) "__init__" = some (some (.ref f))
  fn : PySem.W.isFn K (.ref f) = true
  kp : PySem.W.keepIn K (.ref C) = true
end
def PK (X : Cx) (kws : List Keyword) (t : TA) : Prop :=
  ∀ (pos : Pos) (pins : List (Addr × Obj)) (s : Shared) (σ : St) (H : Hp) (Q : List V → Hp → Prop), Inv X pins σ H s → t σ H Q → wpAny (model X.prog X.w) X.A (evalAll ((backToKw pos (keywordEach kws X.env)).map (·.2))) (AP X pins σ Q) X.xe s
section
variable {X : Cx} {CX : CXT} {k : Nat} {f C : Addr} {fd : FuncData} {ps ks : List Str} {sp : Sp} {E : XK} {x m : Str} {p pos apos kpos : Pos} {e o : Expr} {es : List Expr} {kws : List Keyword} {te ta : TE} {t tk : TA} {nm : Option Str}
structure KBinds (K : PySem.W.Frag) (fd : FuncData) (ps ks : List Str) (g : List Value → List Value → List Value) (gV : List V → List V → List V) : Prop where
  to : ∀ (s : Shared) (us ws : List Value), K.In s.heap → (g us ws).length = ps.length → BindsTo s fd ⟨us, ks.zip ws⟩ (ps.zip (g us ws))
  rel : ∀ {vs : List V} {us : List Value} {zs : List V} {ws : List Value}, Vals vs us → Vals zs ws → Vals (gV vs zs) (g us ws)
def tCallK (sp : Sp) (gV : List V → List V → List V) (E : XK) (t tk : TA) : TE := fun σ H Q => t σ H fun vs H1 => tk σ H1 fun zs H2 => sp (gV vs zs) H2 Q E
variable {g : List Value → List Value → List Value} {gV : List V → List V → List V}
end
structure FnScope (N P : List Str) (sc : Scope) : Prop where
  kind : sc.kind = .function
  co : sc.isCoroutine = false
  gen : sc.isGenerator = false
  nd : N.Nodup
  pre : N.take P.length = P
  par : ∀ x ∈ P, sc.names.lookup x = some .local ∨ sc.names.lookup x = some .cell
  nofree : ∀ y ∈ sc.names, y.2 ≠ .free
theorem bindL_out {kindOf : Str → Option NameKind} {x : Str} : ∀ {binds : List (Str × Value)} {m : Str → Option Value}, (∀ v, (x, v) ∉ binds) → bindL kindOf binds m x = m x
  | [], _, _ => rfl
  | (n, v) :: r, m, h => by
    unfold bindL
    rw [bindL_out fun w hw => h w (List.mem_cons_of_mem _ hw)]
    split
    · have : x ≠ n := by rintro rfl; exact h v List.mem_cons_self
      simp [this]
    · rfl
theorem bindC_out {kindOf : Str → Option NameKind} {x : Str} : ∀ {binds : List (Str × Value)} {m : Str → Option Value}, (∀ v, (x, v) ∉ binds) → bindC kindOf binds m x = m x
  | [], _, _ => rfl
  | (n, v) :: r, m, h => by
    unfold bindC
    rw [bindC_out fun w hw => h w (List.mem_cons_of_mem _ hw)]
    split
    · rfl
    · have : x ≠ n := by rintro rfl; exact h v List.mem_cons_self
      simp [this]
theorem bindL_get {kindOf : Str → Option NameKind} {x : Str} {v : Value} : ∀ {P : List Str} {vs : List Value} {i : Nat} {m : Str → Option Value}, P.Nodup → P[i]? = some x → vs[i]? = some v → kindOf x = some .local →
    bindL kindOf (P.zip vs) m x = some v
  | [], _, _, _, _, h, _, _ => by simp at h
  | _ :: _, [], _, _, _, _, h, _ => by simp at h
  | p :: P, w :: vs, 0, m, nd, h1, h2, hk => by
    simp at h1 h2; subst h1; subst h2
    show bindL kindOf ((p, w) :: P.zip vs) m p = _
    unfold bindL
    rw [bindL_out fun v hv => (List.nodup_cons.mp nd).1 (List.of_mem_zip hv).1, if_pos hk]
    simp
  | p :: P, w :: vs, i + 1, m, nd, h1, h2, hk => by
    show bindL kindOf ((p, w) :: P.zip vs) m x = _
    unfold bindL
    exact bindL_get (i := i) (List.nodup_cons.mp nd).2 (by simpa using h1) (by simpa using h2) hk
theorem bindC_get {kindOf : Str → Option NameKind} {x : Str} {v : Value} : ∀ {P : List Str} {vs : List Value} {i : Nat} {m : Str → Option Value}, P.Nodup → P[i]? = some x → vs[i]? = some v → kindOf x ≠ some .local →
    bindC kindOf (P.zip vs) m x = some v
  | [], _, _, _, _, h, _, _ => by simp at h
  | _ :: _, [], _, _, _, _, h, _ => by simp at h
  | p :: P, w :: vs, 0, m, nd, h1, h2, hk => by
    simp at h1 h2; subst h1; subst h2
    show bindC kindOf ((p, w) :: P.zip vs) m p = _
    unfold bindC
    rw [bindC_out fun v hv => (List.nodup_cons.mp nd).1 (List.of_mem_zip hv).1, if_neg hk]
    simp
  | p :: P, w :: vs, i + 1, m, nd, h1, h2, hk => by
    show bindC kindOf ((p, w) :: P.zip vs) m x = _
    unfold bindC
    exact bindC_get (i := i) (List.nodup_cons.mp nd).2 (by simpa using h1) (by simpa using h2) hk
def start (N : List Str) (vs : List V) : St := vs.map some ++ List.replicate (N.length - vs.length) none
def cxOf (CX : CXT) (P : Program) (w : World) (K : PySem.W.Frag) (mg : Str → Option Value) (base : Heap) (N : List Str) (qual : Str) (scope : Scope) (f : Addr) (cd : Value) (A : Around) (outer : List Env) (s : Shared) (H : Hp) (E : XK) : Cx where
  prog := P
  w := w
  K := K
  mg := mg
  base := base
  A := A.deeper (envOfC qual scope s.heap.objs.size f cd)
  N := N
  s₀ := s
  H₀ := H
  env := envOfC qual scope s.heap.objs.size f cd
  outer := outer
  stack := envOfC qual scope s.heap.objs.size f cd :: outer
  ex := []
  calm := true
  fn := fun _ => true
  pn := []
  xe := fun e s' => wpAny (model P w) (A.deeper (envOfC qual scope s.heap.objs.size f cd)) (leaving (envOfC qual scope s.heap.objs.size f cd) e) (fun _ s'' => CX outer H s E e s'') (fun e' s'' => CX outer H s E e' s'') s'
theorem cell_has {sc : Scope} {n : Nat} {x : Str} (h : sc.names.lookup x = some .cell) : ∃ c, (cellsFrom n sc.names []).lookup x = some c := by
  have q := PySem.W.cellsFrom_some sc.names n [] (.inl h)
  exact Option.isSome_iff_exists.mp q
theorem inv_start {CX : CXT} {P : Program} {w : World} {K : PySem.W.Frag} {mg : Str → Option Value} {base : Heap} {N ps : List Str} {qual : Str} {scope : Scope} {f : Addr} {cd : Value} {A : Around} {outer : List Env} {s s1 : Shared} {H : Hp} {E : XK} {us : List Value} {vs : List V}
    (S : FnScope N ps scope) (hd : A.handled = none) (e0 : Env0 P w K mg base A outer s H) (hl : vs.length = ps.length) (r : Vals vs us)
    (x : InCallC s s.heap.objs.size (bindL (envOfC qual scope s.heap.objs.size f cd).kindOf (ps.zip us) fun _ => none) (cellsFrom (s.heap.objs.size + 1) scope.names []) (bindC (envOfC qual scope s.heap.objs.size f cd).kindOf (ps.zip us) fun _ => none) s1) :
    Inv (cxOf CX P w K mg base N qual scope f cd A outer s H E) [] (start N vs) H s1 := by
  have hpl : ps.length ≤ N.length := by have := congrArg List.length S.pre; rw [List.length_take] at this; omega
  obtain ⟨h1, tk, rfl, hk⟩ := x.done
  have noA : ∀ b : Addr, b ∉ (cxOf CX P w K mg base N qual scope f cd A outer s H E).ex := fun b z => absurd (show b ∈ ([] : List Addr) from z) (by simp)
  refine ⟨⟨e0.mod, S.kind, rfl, rfl, Nat.le_refl _, fun y z c h1 h2 => ?_, fun y hy => ?_, fun y c _ h => ?_, fun _ => hd, Around.frames_deeper e0.frames, .inr ⟨rfl, rfl⟩, fun b z => absurd z (noA b), e0.bs, e0.bsz, fun b _ _ => noA b, fun b z => absurd z (noA b), e0.funs, e0.frf⟩,
    rfl, e0.bare, Un.kept hk, ⟨_, x.toInCall.ns, fun i y v h1 h2 h3 => ?_⟩, fun y c h => ⟨_, x.cell y c h⟩, e0.hok.fresh (Nat.le_refl _), fun y c h => ?_, fun p hp => absurd (show p ∈ ([] : List (Addr × Obj)) from hp) (by simp), e0.hok.kept hk, ?_⟩
  · exact name_of_addr x.apart (PySem.mem_of_lookup h1) (PySem.mem_of_lookup h2)
  · have hy : scope.names.lookup y = some .cell ∨ scope.names.lookup y = some .free := hy
    rcases hy with hy | hy
    · exact cell_has hy
    · exact absurd rfl (S.nofree _ (PySem.mem_of_lookup hy))
  · exact Nat.le_of_lt (x.above y c (PySem.mem_of_lookup h))
  · have hi : i < vs.length := by
      unfold start at h2
      by_cases hi : i < vs.length
      · exact hi
      · rw [List.getElem?_append_right (by simpa using hi)] at h2
        rw [List.getElem?_replicate] at h2
        split at h2 <;> cases h2
    have ha : vs[i]? = some v := by
      unfold start at h2
      rw [List.getElem?_append_left (by simpa using hi), List.getElem?_map] at h2
      cases e : vs[i]? with
      | none => rw [e] at h2; cases h2
      | some a => rw [e] at h2; cases h2; rfl
    obtain ⟨u, hu, rv⟩ := r.get ha
    have hp : ps[i]? = some y := by
      rw [← S.pre, List.getElem?_take_of_lt (by omega)]; exact h1
    have ndP : ps.Nodup := by rw [← S.pre]; exact S.nd.sublist (List.take_sublist _ _)
    refine ⟨u, rv, ?_⟩
    rcases S.par y (List.mem_of_getElem? hp) with k | k
    · exact .inl ⟨k, bindL_get ndP hp hu k⟩
    · obtain ⟨c, e⟩ := cell_has (n := s.heap.objs.size + 1) k
      refine .inr ⟨.inl k, c, e, ?_⟩
      have q := x.cell y c e
      rw [bindC_get ndP hp hu (by show scope.names.lookup y ≠ _; rw [k]; decide)] at q
      exact q
  · exact e0.hok.fresh (Nat.le_of_lt (x.above y c (PySem.mem_of_lookup h)))
  · unfold start
    show _ = N.length
    rw [List.length_append, List.length_map, List.length_replicate]
    omega
theorem fn_of {CX : CXT} {P : Program} {w : World} {K : PySem.W.Frag} {mg : Str → Option Value} {base : Heap} {k : Nat} {f : Addr} {name qual : Str} {params : Arguments} {body : List Stmt} {scope : Scope} {dV kV doc pm cdv ct oc : Value} {an od : Option Addr}
    {osl : Array (Option Value)} {N ps : List Str} {sp : Sp} (lk : K.lookup f = some ⟨oc, od, .func (PySem.W.fnOf name qual params body scope dV kV doc pm an cdv ct), osl⟩) (hcd : PySem.W.codeIn K cdv qual = true) (S : FnScope N ps scope)
    (len : ∀ vs H Q E, sp vs H Q E → vs.length = ps.length)
    (hbody : ∀ (A : Around) (outer : List Env) (s : Shared) (H : Hp) (vs : List V) (Q : VK) (E : XK), Room k (A.deeper (envOfC qual scope s.heap.objs.size f cdv)) → sp vs H Q E →
      ∃ t, PSs (cxOf CX P w K mg base N qual scope f cdv A outer s H E) body t ∧ t { nx := fun _ H' => Q .non H', rt := Q } (start N vs) H) :
    FnOk P w K mg base CX (k + 1) f (PySem.W.fnOf name qual params body scope dV kV doc pm an cdv ct) ps sp := by
  refine ⟨len, fun A outer s H args us vs Q E hr e0 hb r hsp => ?_⟩
  have hl := len _ _ _ _ hsp
  have KX : K.In s.heap := e0.mod.kin.keeps fun b o e => (e0.bs b o e).1
  have lim : s.heap.NoLimit := e0.mod.nolimit.keeps fun b o e => (e0.bs b o e).1
  have hkind : ∀ y ∈ ps.zip us, scope.names.lookup y.1 = some .local ∨ (scope.names.lookup y.1 = some .cell ∧ ((cellsFrom (s.heap.objs.size + 1) scope.names []).lookup y.1).isSome = true) := fun ⟨n, v⟩ hy => by
    rcases S.par n (List.of_mem_zip hy).1 with q | q
    · exact .inl q
    · exact .inr ⟨q, PySem.W.cellsFrom_some _ _ _ (.inl q)⟩
  refine codeAny_call_function hr.depth (KX _ _ lk) rfl S.co S.gen rfl (PySem.W.codeRec_of KX hcd) (hb _ _ _ _ ?_)
  refine wpAny_newFunctionEnv_cells S.kind hkind fun env he s1 x => ?_
  subst he
  refine ⟨lim.keeps x.toInCall.keep, codeAny_func ?_⟩
  obtain ⟨t, ht, hq⟩ := hbody A outer s H vs Q E (hr.deeper _) hsp
  have I : Inv (cxOf CX P w K mg base N qual scope f cdv A outer s H E) [] (start N vs) H s1 := inv_start S hr.hd e0 hl r x
  refine wpAny_mono (ht [] s1 (start N vs) H _ I hq) (fun fl s' hs => ?_) fun e s' hs => hs
  have fin : ∀ {σ' : St} {H' : Hp} {v : V} {u : Value}, Inv (cxOf CX P w K mg base N qual scope f cdv A outer s H E) [] σ' H' s' → RelV v u → Q v H' → CE outer P w H s Q u s' :=
    fun {σ' H' v u} J rv q => ⟨v, H', J.os, J.bare, J.base, J.hok, rv, q⟩
  cases fl with
  | ret u =>
    obtain ⟨v, σ', H', J, rv, q⟩ := hs
    exact fin J rv q
  | next =>
    obtain ⟨σ', H', J, q⟩ := hs
    exact fin (v := V.non) (u := Value.none) J rfl q
  | brk =>
    obtain ⟨_, _, _, q⟩ := hs
    exact False.elim q
  | cont =>
    obtain ⟨_, _, _, q⟩ := hs
    exact False.elim q
end L2
namespace L2
open PySem PySem.Spec PyProof.Rows
section
variable {X : Cx} {x : Str} {p pos : Pos} {e : Expr} {es : List Expr} {t : TA} {id T : String} {r : List V → Hp → VK → Prop}
def tCB (r : List V → Hp → VK → Prop) (t : TA) : TE := fun σ H Q => t σ H fun vs H1 => r vs H1 Q
theorem pe_callB (hc : CallR X (.builtin id) r) (hg : Gl X x) (hm : X.mg x = none) (hv : bootBuiltins x = some (.builtin id)) (ha : PA X (e :: es) t) (hn : x ≠ "__name__" := by decide) (hdb : (x == ("__debug__" : Str)) = false := by decide)
    (he : starEach (e :: es) X.env = (false, eval e X.env) :: starEach es X.env := by rfl) (hpl : (backTo pos (starEach es X.env)).any (·.1) = false := by rfl) : PE X (.Call (.Name x p) (e :: es) [] pos) (tCB r t) := by
  intro pins s σ H Q I h
  refine wpAny_Call_Name_kw (ld_blt I hg hm hv ?_ hn hdb)
  exact PyProof.Rows.callWith_builtin1 (thn (ha pos pins s σ H _ I h) fun us s1 ⟨vs, H1, I1, r1, q1⟩ => hc pins s1 σ H1 vs us Q I1 r1 q1) he hpl
theorem pe_callTy (hc : CallR X (.type T) r) (hg : Gl X x) (hm : X.mg x = none) (hv : bootBuiltins x = some (.type T)) (ha : PA X (e :: es) t) (hn : x ≠ "__name__" := by decide) (hdb : (x == ("__debug__" : Str)) = false := by decide)
    (he : starEach (e :: es) X.env = (false, eval e X.env) :: starEach es X.env := by rfl) (hpl : (backTo pos (starEach es X.env)).any (·.1) = false := by rfl) : PE X (.Call (.Name x p) (e :: es) [] pos) (tCB r t) := by
  intro pins s σ H Q I h
  refine wpAny_Call_Name_kw (ld_blt I hg hm hv ?_ hn hdb)
  exact PyProof.Rows.callWith_type1 (thn (ha pos pins s σ H _ I h) fun us s1 ⟨vs, H1, I1, r1, q1⟩ => hc pins s1 σ H1 vs us Q I1 r1 q1) he hpl
end
end L2
namespace HT
open PySem PyProof.Rows
def lexLt : List Int → List Int → Bool
  | [], [] => false
  | [], _ :: _ => true
  | _ :: _, [] => false
  | x :: xs, y :: ys => if x = y then lexLt xs ys else decide (x < y)
section
open PySem.SeqAt
open PySem.AutoSeq1 (wpAny_loadPart')
open PySem.MeetsSeq PySem.MeetsSeq2 PySem.MeetsSeq3
end
section
variable {prog : Program} {w : World} {A : Around} {E : Value → Shared → Prop} {s : Shared}
theorem cat_tup {t b : Addr} {vs ws : List Value} {Q : Value → Shared → Prop} (ht : IsTup s.heap t vs.toArray) (hb : IsTup s.heap b ws.toArray) (hv : vs ≠ [])
    (h1 : ws = [] → Q (.ref t) s) (h2 : ws ≠ [] → Q (.ref s.heap.objs.size) { s with heap := s.heap.push { cls := .type "tuple", data := .seq (vs ++ ws).toArray } })
    (hsz : vs.length + ws.length ≤ sizeLine) : wpAny (model prog w) A (binaryOp .Add (.ref t) (.ref b)) Q E s := by
  obtain ⟨⟨cls, dd, data, sl⟩, ho, hc, n, hd⟩ := id ht
  obtain ⟨⟨cls2, dd2, data2, sl2⟩, ho2, hc2, n2, hd2⟩ := id hb
  simp only at hc hd hc2 hd2
  subst hc hd hc2 hd2
  have e : vs.toArray ++ ws.toArray = (vs ++ ws).toArray := by simp
  by_cases hw : ws = []
  · exact concat_meets ⟨_, ho, rfl⟩ ⟨_, ho2, rfl⟩ noFill_tuple_add seq_tuple_add PySem.F.slot_tuple_add PySem.F.entry_tuple_add (PySem.F.args_tuple_add_2 _ _)
      (tuple_addW1 t b vs.toArray ws.toArray n n2 dd dd2 sl sl2 (by simpa using hv) (by simp [hw])) ⟨ho, ho2, h1 hw⟩
  · refine concat_meets ⟨_, ho, rfl⟩ ⟨_, ho2, rfl⟩ noFill_tuple_add seq_tuple_add PySem.F.slot_tuple_add PySem.F.entry_tuple_add (PySem.F.args_tuple_add_2 _ _)
      (tuple_addW2 t b vs.toArray ws.toArray n n2 dd dd2 sl sl2 (by simpa using hv) (by simpa using hw) (by rw [List.size_toArray, List.size_toArray]; exact hsz)) ⟨ho, ho2, ?_⟩
    rw [e]
    exact h2 hw
def sIx (n d : Nat) : Option Int → Nat
  | none => d
  | some v => if v < 0 then (v + (n : Int)).toNat else min v.toNat n
theorem sIx_none (n d : Nat) : sIx n d none = d := rfl
theorem sIx_nat (n d k : Nat) : sIx n d (some (k : Int)) = min k n := by
  show (if (k : Int) < 0 then ((k : Int) + (n : Int)).toNat else min (k : Int).toNat n) = min k n
  rw [if_neg (by omega), Int.toNat_natCast]
theorem sIx_le (n d : Nat) (hd : d ≤ n) (o : Option Int) : sIx n d o ≤ n := by
  cases o with
  | none => exact hd
  | some v =>
    show (if v < 0 then (v + (n : Int)).toNat else min v.toNat n) ≤ n
    by_cases hv : v < 0
    · rw [if_pos hv]; omega
    · rw [if_neg hv]; exact Nat.min_le_right _ _
theorem clip_eq (v : Int) (n d : Nat) : (if v < 0 then max (v + (n : Int)) 0 else min v (n : Int)) = ((sIx n d (some v) : Nat) : Int) := by
  show (if v < 0 then max (v + (n : Int)) 0 else min v (n : Int)) = (((if v < 0 then (v + (n : Int)).toNat else min v.toNat n) : Nat) : Int)
  by_cases hv : v < 0
  · simp only [if_pos hv]; omega
  · simp only [if_neg hv]; omega
theorem adjust_gen (lo hi : Option Int) (n : Nat) : Builtin.Slice.sliceAdjust lo hi 1 (n : Int) = (((sIx n 0 lo : Nat) : Int), ((sIx n n hi : Nat) : Int)) := by
  have h1 : ¬ ((1 : Int) < 0) := by omega
  unfold Builtin.Slice.sliceAdjust
  simp only [h1, if_false]
  refine Prod.ext ?_ ?_
  · cases lo with
    | none => rfl
    | some v => exact clip_eq v n 0
  · cases hi with
    | none => rfl
    | some v => exact clip_eq v n n
theorem places_gen (i j : Nat) : Builtin.Slice.slicePlaces (i : Int) (j : Int) 1 = j - i := by
  unfold Builtin.Slice.slicePlaces
  have h1 : (1 : Int) > 0 := by omega
  simp only [h1, if_true, Int.ediv_one]
  split <;> omega
theorem slicePart_ {v : Value} {o : Option Int} {Q : Option Int → Shared → Prop} (p : IsPart v o) (h : Q o s) : wpAny (model prog w) A (Builtin.Slice.slicePartIndex v) Q E s := by
  cases p with
  | none => exact slicePart_none h
  | int i t => exact slicePart_int h
theorem sliceApplied_gen {sl : Addr} {vl vu : Value} {lo hi : Option Int} {n : Nat} {Q : Int × Int × Nat → Shared → Prop} (hs : s.heap.IsSliceOf sl vl vu .none) (pl : IsPart vl lo) (pu : IsPart vu hi)
    (h : Q (((sIx n 0 lo : Nat) : Int), 1, sIx n n hi - sIx n 0 lo) s) : wpAny (model prog w) A (Builtin.Slice.sliceApplied (.ref sl) (pure (n : Int))) Q E s := by
  obtain ⟨os, hos, hcs, hds⟩ := id hs
  unfold Builtin.Slice.sliceApplied Builtin.Slice.sliceFields
  refine wpAny_bind (wpAny_bind (wpAny_field hos hds (x := vl) rfl (wpAny_bind (wpAny_field hos hds (x := vu) rfl (wpAny_bind (wpAny_field hos hds (x := .none) rfl (wpAny_pure ?_)))))))
  refine wpAny_bind (slicePart_none ?_)
  show wpAny _ _ (if ((1 : Int) == 0) = true then _ else _) _ _ s
  rw [if_neg (by decide)]
  refine wpAny_bind (slicePart_ pl (wpAny_bind (slicePart_ pu (wpAny_bind (wpAny_pure ?_)))))
  show wpAny _ _ (match Builtin.Slice.sliceAdjust lo hi 1 (n : Int) with | (lo, hi) => pure (lo, (1 : Int), Builtin.Slice.slicePlaces lo hi 1)) _ _ s
  rw [adjust_gen lo hi n]
  show wpAny _ _ (pure (((sIx n 0 lo : Nat) : Int), (1 : Int), Builtin.Slice.slicePlaces ((sIx n 0 lo : Nat) : Int) ((sIx n n hi : Nat) : Int) 1)) _ _ s
  rw [places_gen]
  exact wpAny_pure h
theorem pick_gen (xs : Array Value) (i k : Nat) : ((List.range k).filterMap fun (m : Nat) => xs[((i : Int) + (m : Int) * 1).toNat]?).toArray = ((xs.toList.drop i).take k).toArray := by
  have e : (fun (m : Nat) => xs[((i : Int) + (m : Int) * 1).toNat]?) = fun m => xs[i + m]? := by
    funext m
    have : ((i : Int) + (m : Int) * 1).toNat = i + m := by omega
    rw [this]
  rw [e]
  have := pick_run xs i k
  rw [List.filterMap_map] at this
  have e2 : ((fun x => xs[x]?) ∘ fun x => i + x) = fun m => xs[i + m]? := rfl
  rw [e2] at this
  rw [this]
theorem getItem_tuple_cut {t sl : Addr} {items : Array Value} {vl vu : Value} {lo hi : Option Int} {Q : Value → Shared → Prop} (ht : IsTup s.heap t items) (hs : s.heap.IsSliceOf sl vl vu .none) (pl : IsPart vl lo) (pu : IsPart vu hi)
    (hw : ¬ (sIx items.size 0 lo = 0 ∧ sIx items.size items.size hi = items.size))
    (h : Q (.ref s.heap.objs.size) { s with heap := s.heap.push { cls := .type "tuple", data := .seq ((items.toList.drop (sIx items.size 0 lo)).take (sIx items.size items.size hi - sIx items.size 0 lo)).toArray } })
    (hsz : items.size ≤ sizeLine) : wpAny (model prog w) A (getItem (.ref t) (.ref sl)) Q E s := by
  have htake : sizeOk (.seq ((items.toList.drop (sIx items.size 0 lo)).take (sIx items.size items.size hi - sIx items.size 0 lo)).toArray) := by
    show ((items.toList.drop (sIx items.size 0 lo)).take (sIx items.size items.size hi - sIx items.size 0 lo)).toArray.size ≤ sizeLine
    rw [List.size_toArray, List.length_take, List.length_drop, Array.length_toList]
    omega
  have hj : sIx items.size items.size hi ≤ items.size := sIx_le _ _ (Nat.le_refl _) hi
  obtain ⟨os, hos, hcs, hds⟩ := id hs
  have hTs : s.TypeIs (.ref sl) "slice" := ⟨os, hos, hcs⟩
  unfold getItem
  try with_reducible refine wpAny_holding ?_
  first | refine wpAny_bind (wpAny_pure ?_) | skip
  refine wpAny_bind (wpAny_sequenceKey ht.typeIs (by decide) ?_)
  refine wpAny_bind (wpAny_callSpecial?_slot (name := Str.ofString "__getitem__") ht.typeIs PyProof.Rows.slot_tuple_getitem
    (wpAny_call_entry PyProof.Rows.slot_tuple_getitem ht.typeIs entry_tuple_getitem ?_ (args_tuple_getitem _ _)))
  show wpAny _ _ (Builtin.Tuple.tupleItemsOf (.ref t) >>= _) _ _ s
  refine wpAny_bind (tupleItemsOf_ ht ?_)
  refine wpAny_bind (wpAny_typeOf hTs ?_)
  rw [if_pos (by decide)]
  refine wpAny_bind (sliceApplied_gen hs pl pu ?_)
  have hno : ¬ ((((sIx items.size 0 lo : Nat) : Int) == 0 && (1 : Int) == 1 && (sIx items.size items.size hi - sIx items.size 0 lo) == items.size) = true) := by
    intro q
    rw [Bool.and_eq_true, Bool.and_eq_true] at q
    have q1 : ((sIx items.size 0 lo : Nat) : Int) = 0 := eq_of_beq q.1.1
    have q2 : sIx items.size items.size hi - sIx items.size 0 lo = items.size := eq_of_beq q.2
    exact hw ⟨by omega, by omega⟩
  show wpAny _ _ (if (((sIx items.size 0 lo : Nat) : Int) == 0 && (1 : Int) == 1 && (sIx items.size items.size hi - sIx items.size 0 lo) == items.size) = true then _ else _) _ _ s
  rw [if_neg hno, pick_gen]
  first
    | exact wpAny_bind (m := Builtin.Tuple.tupleExact _) (wpAny_newObj_type (wpAny_pure ⟨_, rfl, wpAny_pure h⟩) htake)
    | exact wpAny_bind (m := Builtin.Tuple.tupleExact _) (wpAny_newObj_type (wpAny_bind (wpAny_pure (wpAny_pure ⟨_, rfl, wpAny_pure h⟩))) htake)
    | exact wpAny_bind (wpAny_bind (m := Builtin.Tuple.tupleExact _) (wpAny_newObj_type (wpAny_pure (wpAny_pure ⟨_, rfl, wpAny_pure h⟩)) htake))
    | exact wpAny_bind (wpAny_bind (m := Builtin.Tuple.tupleExact _) (wpAny_newObj_type (wpAny_pure ⟨_, rfl, wpAny_pure h⟩) htake))
end
end HT
namespace L2
open PySem PySem.Spec PyProof.Rows
abbrev TO := St → Hp → (Option Int → Hp → Prop) → Prop
def PO (X : Cx) (e : Option Expr) (t : TO) : Prop :=
  ∀ (pins : List (Addr × Obj)) (s : Shared) (σ : St) (H : Hp) (Q : Option Int → Hp → Prop), Inv X pins σ H s → t σ H Q →
    wpAny (model X.prog X.w) X.A (evalPart e X.env) (fun u s' => ∃ o H', Inv X pins σ H' s' ∧ IsPart u o ∧ Q o H') X.xe s
def tNoPart : TO := fun _ H Q => Q none H
def tPart (t : TE) : TO := fun σ H Q => t σ H fun x H1 => ∃ i, x = .int i ∧ Q (some i) H1
section
variable {X : Cx} {e : Expr} {te : TE} {lo hi : Option Expr} {tl th : TO} {pos p2 : Pos}
theorem po_none : PO X none tNoPart := by
  intro pins s σ H Q I h
  rw [evalPart_none]
  exact wpAny_pure ⟨none, H, I, .none, h⟩
theorem po_some (h : PE X e te) : PO X (some e) (tPart te) := by
  intro pins s σ H Q I hw
  rw [evalPart_some]
  refine thn (h pins s σ H _ I hw) fun u s1 ⟨x, H1, I1, r1, q1⟩ => ?_
  obtain ⟨i, rfl, q⟩ := q1
  obtain ⟨t, rfl⟩ := r1
  exact ⟨some i, H1, I1, .int i t, q⟩
def SlR (X : Cx) (r : V → Option Int → Option Int → Hp → VK → Prop) : Prop :=
  ∀ (pins : List (Addr × Obj)) (s : Shared) (σ : St) (H : Hp) (x : V) (v vl vu : Value) (lo hi : Option Int) (sl : Addr) (Q : VK), Inv X pins σ H s → RelV x v → s.heap.IsSliceOf sl vl vu .none → IsPart vl lo → IsPart vu hi → r x lo hi H Q →
    ∃ T id, typeLookup (.type T) "__getitem__" = pure (some (.builtin id)) ∧ s.TypeIs v T ∧ wpAny (model X.prog X.w) X.A (getItem v (.ref sl)) (EP X pins σ Q) X.xe s
def tSl (r : V → Option Int → Option Int → Hp → VK → Prop) (te : TE) (tl th : TO) : TE := fun σ H Q => te σ H fun x H1 => tl σ H1 fun l H2 => th σ H2 fun u H3 => r x l u H3 Q
theorem pe_slice {r : V → Option Int → Option Int → Hp → VK → Prop} (hr : SlR X r) (he : PE X e te) (hl : PO X lo tl) (hu : PO X hi th) : PE X (.Subscript e (.Slice lo hi none p2) pos) (tSl r te tl th) := by
  intro pins s σ H Q I h
  refine Subscript_ (thn (he pins s σ H _ I h) fun v s1 ⟨x, H1, I1, r1, q1⟩ => ?_)
  refine wpAny_Slice (thn (hl pins s1 σ H1 _ I1 q1) fun vl s2 ⟨l, H2, I2, pl, q2⟩ => thn (hu pins s2 σ H2 _ I2 q2) fun vu s3 ⟨u, H3, I3, pu, q3⟩ => ?_)
  rw [evalPart_none]
  refine wpAny_pure ?_
  have I4 : Inv X pins σ H3 { s3 with heap := s3.heap.push { cls := .type "slice", data := .fields #[vl, vu, .none] } } := I3.kept (t' := s3.toks) fun b ob q => Heap.get?_push_of_some _ q
  obtain ⟨T, id, hT, ht, hg⟩ := hr pins { s3 with heap := s3.heap.push { cls := .type "slice", data := .fields #[vl, vu, .none] } } σ H3 x v vl vu l u s3.heap.objs.size Q I4 r1 (Heap.IsSliceOf.new ..) pl pu q3
  show wpAny (model X.prog X.w) X.A (subscriptTail e (.Slice lo hi none p2) v (.ref s3.heap.objs.size)) (EP X pins σ Q) X.xe { s3 with heap := s3.heap.push { cls := .type "slice", data := .fields #[vl, vu, .none] } }
  exact tail_any (ops := [.ref s3.heap.objs.size, v]) ht hT hg (by with_unfolding_all rfl)
def cutV (xs : List V) (lo hi : Option Int) : List V := (xs.drop (HT.sIx xs.length 0 lo)).take (HT.sIx xs.length xs.length hi - HT.sIx xs.length 0 lo)
theorem cutV_length (xs : List V) (lo hi : Option Int) : (cutV xs lo hi).length ≤ xs.length := by
  unfold cutV
  rw [List.length_take, List.length_drop]
  omega
def rSlT (K : PySem.W.Frag) : V → Option Int → Option Int → Hp → VK → Prop := fun x lo hi H Q => ∃ a xs, x = .ref a ∧ SqT K H a xs ∧
  ¬ (HT.sIx xs.length 0 lo = 0 ∧ HT.sIx xs.length xs.length hi = xs.length) ∧ ∀ p, H p = none → Q (.ref p) (upd H p (.tup (cutV xs lo hi)))
theorem sl_tup : SlR X (rSlT X.K) := by
  intro pins s σ H x v vl vu lo hi sl Q I rx hs pl pu h
  obtain ⟨a, xs, rfl, hx, hw, q⟩ := h
  cases rx
  obtain ⟨its, r, ht, hz⟩ := I.tuple hx
  have hlen : its.toArray.size = xs.length := by rw [List.size_toArray]; exact r.length.symm
  refine ⟨"tuple", _, PyProof.Rows.slot_tuple_getitem.lookup, ht.typeIs, ?_⟩
  refine HT.getItem_tuple_cut ht hs pl pu (by rw [hlen]; exact hw) ?_ (by rw [hlen]; exact hz)
  rw [hlen]
  refine ⟨.ref s.heap.objs.size, _, I.laid (t' := s.toks) (o := .tup (cutV xs lo hi)) (fun b ob q => Heap.get?_push_of_some _ q) (Nat.le_refl _) ?_, rfl, q _ (I.hok.fresh (Nat.le_refl _))⟩
  exact ⟨Nat.le_trans (cutV_length xs lo hi) hz, _, (r.drop (HT.sIx xs.length 0 lo)).take (HT.sIx xs.length xs.length hi - HT.sIx xs.length 0 lo), IsTup.new _ _⟩
def rLtT (K : PySem.W.Frag) : R2 := fun x y H Q => ∃ a b ns ms, x = .ref a ∧ y = .ref b ∧ SqT K H a (ns.map V.int) ∧ SqT K H b (ms.map V.int) ∧ Q (.bl (HT.lexLt ns ms)) H
def rCatT (K : PySem.W.Frag) : R2 := fun x y H Q => ∃ a b xs ys, x = .ref a ∧ y = .ref b ∧ SqT K H a xs ∧ SqT K H b ys ∧ xs ≠ [] ∧ xs.length + ys.length ≤ sizeLine ∧
  (ys = [] → Q (.ref a) H) ∧ (ys ≠ [] → ∀ p, H p = none → Q (.ref p) (upd H p (.tup (xs ++ ys))))
theorem Vals.nil_iff {xs : List V} {us : List Value} (r : Vals xs us) : us = [] ↔ xs = [] := by
  cases r with
  | nil => simp
  | cons _ _ => simp
theorem op_catT : OpR X (binaryOp .Add) (rCatT X.K) := by
  intro pins s σ H x y v u Q I rx ry h
  obtain ⟨a, b, xs, ys, rfl, rfl, ha, hb, hx, hz, q1, q2⟩ := h
  cases rx
  cases ry
  obtain ⟨its, r1, p1, _⟩ := I.tuple ha
  obtain ⟨its2, r2, p2, _⟩ := I.tuple hb
  refine HT.cat_tup p1 p2 (fun z => hx (r1.nil_iff.mp z)) (fun z => ⟨.ref a, H, I, rfl, q1 (r2.nil_iff.mp z)⟩) (fun z => ?_) (by rw [← r1.length, ← r2.length]; exact hz)
  refine ⟨.ref s.heap.objs.size, _, I.laid (t' := s.toks) (o := .tup (xs ++ ys)) (fun b ob q => Heap.get?_push_of_some _ q) (Nat.le_refl _) ?_, rfl, q2 (fun w => z (r2.nil_iff.mpr w)) _ (I.hok.fresh (Nat.le_refl _))⟩
  exact ⟨by rw [List.length_append]; exact hz, _, r1.append r2, IsTup.new _ _⟩
end
end L2
namespace L2
open PySem PySem.Spec PyProof.Rows
def ixN (n : Nat) (i : Int) : Option Nat := if 0 ≤ i then (if i < n then some i.toNat else none) else if -(n : Int) ≤ i then some (i + n).toNat else none
def atI {α : Type} (xs : List α) (i : Int) : Option α := (ixN xs.length i).bind fun j => xs[j]?
theorem ixN_seq {n : Nat} {i : Int} {j : Nat} (h : ixN n i = some j) : seqIndex? i n = some j ∧ j < n ∧ -(n : Int) ≤ i ∧ i < n := by
  unfold ixN at h
  by_cases h0 : 0 ≤ i
  · rw [if_pos h0] at h
    by_cases h1 : i < n
    · rw [if_pos h1] at h
      have e : i.toNat = j := Option.some.inj h
      exact ⟨by rw [seqIndex_of h0 h1, e], by omega, by omega, h1⟩
    · rw [if_neg h1] at h; cases h
  · rw [if_neg h0] at h
    by_cases h1 : -(n : Int) ≤ i
    · rw [if_pos h1] at h
      have e : (i + n).toNat = j := Option.some.inj h
      exact ⟨by rw [seqIndex_neg (by omega) h1, e], by omega, h1, by omega⟩
    · rw [if_neg h1] at h; cases h
theorem atI_get {α : Type} {xs : List α} {i : Int} {v : α} (h : atI xs i = some v) : ∃ j, seqIndex? i xs.length = some j ∧ xs[j]? = some v ∧ j < xs.length ∧ -(xs.length : Int) ≤ i ∧ i < xs.length := by
  unfold atI at h
  cases e : ixN xs.length i with
  | none => rw [e] at h; cases h
  | some j =>
    rw [e] at h
    obtain ⟨h1, h2, h3, h4⟩ := ixN_seq e
    exact ⟨j, h1, h, h2, h3, h4⟩
theorem atI_nat {α : Type} {xs : List α} {j : Nat} {v : α} (h : xs[j]? = some v) : atI xs (j : Int) = some v := by
  have hj : j < xs.length := (List.getElem?_eq_some_iff.mp h).1
  have e : ixN xs.length (j : Int) = some j := by
    unfold ixN
    rw [if_pos (by omega), if_pos (by omega)]; simp
  unfold atI; rw [e]; exact h
theorem atI_last {α : Type} (xs : List α) (v : α) : atI (xs ++ [v]) (-1) = some v := by
  have hl : (xs ++ [v]).length = xs.length + 1 := by simp
  have e : ixN (xs ++ [v]).length (-1) = some xs.length := by
    unfold ixN
    rw [hl, if_neg (by decide), if_pos (by omega)]
    congr 1
    omega
  unfold atI
  rw [e]
  show (xs ++ [v])[xs.length]? = some v
  simp
def PlainIx (b : Expr) : Prop := ∀ o i, subscripted b false o i = operate [o, i] (getItem o i)
def IxR (X : Cx) (r : R2) : Prop :=
  ∀ (value slice : Expr) (pins : List (Addr × Obj)) (s : Shared) (σ : St) (H : Hp) (x y : V) (v u : Value) (Q : VK), Inv X pins σ H s → RelV x v → RelV y u → r x y H Q →
    subscripted slice false v u = operate [v, u] (getItem v u) → wpAny (model X.prog X.w) X.A (subscriptTail value slice v u) (EP X pins σ Q) X.xe s
def MtR (X : Cx) (id : String) (r : V → List V → Hp → VK → Prop) : Prop :=
  ∀ (pins : List (Addr × Obj)) (s : Shared) (σ : St) (H : Hp) (x : V) (xs : List V) (v : Value) (us : List Value) (Q : VK), Inv X pins σ H s → RelV x v → Vals xs us → r x xs H Q →
    wpAny (model X.prog X.w) X.A (call (.builtin id) (v :: us)) (EP X pins σ Q) X.xe s
section
variable {X : Cx} {a b : Expr} {ta tb : TE} {pos : Pos}
theorem pe_ix {r : R2} (hr : IxR X r) (ha : PE X a ta) (hb : PE X b tb) (hs : PlainIx b) : PE X (.Subscript a b pos) (tOp r ta tb) := by
  intro pins s σ H Q I h
  exact Subscript_ (binT ha hb I h fun v u s2 x y H2 I2 rx ry q => hr a b pins s2 σ H2 x y v u Q I2 rx ry q (hs _ _))
def rIxL (K : PySem.W.Frag) : R2 := fun x y H Q => ∃ p xs i v, x = .ref p ∧ y = .int i ∧ SqL K H p xs ∧ atI xs i = some v ∧ Q v H
def rIxT (K : PySem.W.Frag) : R2 := fun x y H Q => ∃ p xs i v, x = .ref p ∧ y = .int i ∧ SqT K H p xs ∧ atI xs i = some v ∧ Q v H
def rIxS : R2 := fun x y H Q => ∃ z i c, x = .str z ∧ y = .int i ∧ z.length ≤ sizeLine ∧ atI z.cps.toList i = some c ∧ Q (.str ⟨#[c]⟩) H
theorem ix_list : IxR X (rIxL X.K) := by
  intro value slice pins s σ H x y v u Q I rx ry h hs
  obtain ⟨p, xs, i, z, rfl, rfl, hq, he, q⟩ := h
  cases rx
  obtain ⟨t, rfl⟩ := ry
  obtain ⟨its, r, pl, hz⟩ := I.list hq
  obtain ⟨j, h1, h2, h3, h4, h5⟩ := atI_get he
  obtain ⟨w, ew, rw'⟩ := r.get h2
  have hl := r.length
  have hn := line63
  have fin : EP X pins σ Q w s := ⟨z, H, I, rw', q⟩
  by_cases h0 : 0 ≤ i
  · have hj : i.toNat = j := by
      rw [seqIndex_of h0 h5] at h1
      exact Option.some.inj h1
    exact item_listR pl.isList h0 (by omega) (by rw [hj]; simpa using ew) fin hs
  · have hj : (i + (its.toArray.size : Int)).toNat = j := by
      rw [seqIndex_neg (by omega) h4] at h1
      rw [List.size_toArray, ← hl]
      exact Option.some.inj h1
    exact subscriptTail_builtinR (x := w) pl.isList.typeIs slot_list_getitem.lookup
      (wpAny_getItem_list_neg (Q := fun r s' => r = w ∧ EP X pins σ Q r s') pl.isList (by omega) (by rw [List.size_toArray] <;> omega) (by omega) (by rw [hj]; simpa using ew) ⟨rfl, fin⟩) hs
theorem ix_tup : IxR X (rIxT X.K) := by
  intro value slice pins s σ H x y v u Q I rx ry h hs
  obtain ⟨p, xs, i, z, rfl, rfl, hq, he, q⟩ := h
  cases rx
  obtain ⟨t, rfl⟩ := ry
  obtain ⟨its, r, pl, hz⟩ := I.tuple hq
  obtain ⟨j, h1, h2, h3, h4, h5⟩ := atI_get he
  obtain ⟨w, ew, rw'⟩ := r.get h2
  have hl := r.length
  have hn := line63
  have fin : EP X pins σ Q w s := ⟨z, H, I, rw', q⟩
  exact subscriptTail_builtinR (x := w) pl.typeIs slot_tuple_getitem.lookup
    (getItem_tuple (j := j) (Q := fun r s' => r = w ∧ EP X pins σ Q r s') pl (by omega) (by omega) (by rw [List.size_toArray, ← hl]; exact h1) (by simpa using ew) ⟨rfl, fin⟩) hs
theorem ix_str : IxR X rIxS := by
  intro value slice pins s σ H x y v u Q I rx ry h hs
  obtain ⟨z, i, c, rfl, rfl, hz, he, q⟩ := h
  obtain ⟨t, rfl⟩ := rx
  obtain ⟨t', rfl⟩ := ry
  obtain ⟨j, h1, h2, h3, h4, h5⟩ := atI_get he
  have hl : z.cps.toList.length = z.length := by simp [Str.length]
  rw [hl] at h1 h4 h5
  have hn := line63
  exact tail_any (typeIs_str s z t) slot_str_getitem.lookup (getItem_str (c := c) (by
    have e1 : decide (i < -(2 ^ 63 : Int)) = false := decide_eq_false (by omega)
    have e2 : decide (i ≥ 2 ^ 63) = false := decide_eq_false (by omega)
    rw [e1, e2, Bool.or_false]) (by rw [h1]; simpa using h2) ⟨.str ⟨#[c]⟩, H, I.tok _, ⟨_, rfl⟩, q⟩) hs
def rIx (K : PySem.W.Frag) : R2 := fun x y H Q => rIxL K x y H Q ∨ rIxT K x y H Q ∨ rIxS x y H Q
def rSetL : V → V → V → Hp → (Hp → Prop) → Prop := fun o i v H Q => ∃ p xs k j, o = .ref p ∧ i = .int k ∧ H p = some (.lst xs) ∧ ixN xs.length k = some j ∧ Q (upd H p (.lst (xs.set j v)))
theorem slice_bounds (lo hi : Option Int) (n : Nat) : (sliceBounds lo hi none n).1 = ((HT.sIx n 0 lo : Nat) : Int) ∧ (sliceBounds lo hi none n).2.1 = ((HT.sIx n n hi : Nat) : Int) ∧ (sliceBounds lo hi none n).2.2 = 1 := by
  refine ⟨?_, ?_, rfl⟩
  · cases lo with
    | none => simp [sliceBounds, HT.sIx]
    | some i =>
      simp only [sliceBounds, HT.sIx, Option.getD_none, show (1 : Int) > 0 by decide, if_true]
      by_cases h : i < 0
      · simp only [h, if_true] <;> omega
      · simp only [h, if_false] <;> omega
  · cases hi with
    | none => simp [sliceBounds, HT.sIx]
    | some i =>
      simp only [sliceBounds, HT.sIx, Option.getD_none, show (1 : Int) > 0 by decide, if_true]
      by_cases h : i < 0
      · simp only [h, if_true] <;> omega
      · simp only [h, if_false] <;> omega
theorem slicePick_cut (its : List Value) (lo hi : Option Int) : slicePick its.toArray lo hi none = ((its.drop (HT.sIx its.length 0 lo)).take (HT.sIx its.length its.length hi - HT.sIx its.length 0 lo)).toArray := by
  obtain ⟨h1, h2, h3⟩ := slice_bounds lo hi its.toArray.size
  unfold slicePick
  rw [h1, h2, h3]
  simp only [sliceRange_one, pick_run, List.size_toArray] <;> rfl
def rSlL (K : PySem.W.Frag) : V → Option Int → Option Int → Hp → VK → Prop := fun x lo hi H Q => ∃ a xs, x = .ref a ∧ SqL K H a xs ∧ ∀ p, H p = none → Q (.ref p) (upd H p (.lst (cutV xs lo hi)))
theorem sl_list : SlR X (rSlL X.K) := by
  intro pins s σ H x v vl vu lo hi sl Q I rx hs pl pu h
  obtain ⟨a, xs, rfl, hx, q⟩ := h
  cases rx
  obtain ⟨its, r, ht, hz⟩ := I.list hx
  have hlen := r.length
  refine ⟨"list", _, slot_list_getitem.lookup, ht.isList.typeIs, ?_⟩
  refine wpAny_getItem_list_slice ht.isList hs pl pu .none (by simp) ?_ (by rw [List.size_toArray] <;> omega)
  rw [slicePick_cut, ← hlen]
  refine ⟨.ref s.heap.objs.size, _, I.laid (t' := s.toks) (o := .lst (cutV xs lo hi)) (fun b ob q => Heap.get?_push_of_some _ q) (Nat.le_refl _) ?_, rfl, q _ (I.hok.fresh (Nat.le_refl _))⟩
  exact ⟨Nat.le_trans (cutV_length xs lo hi) hz, _, 0, (r.drop (HT.sIx xs.length 0 lo)).take (HT.sIx xs.length xs.length hi - HT.sIx xs.length 0 lo), Heap.get?_push_size _ rfl⟩
def flatV : V → Bool
  | .non => true
  | .bl _ => true
  | .int _ => true
  | .str _ => true
  | _ => false
def eqV : V → V → Bool
  | .non, .non => true
  | .bl a, .bl b => a == b
  | .bl a, .int b => (if a then 1 else 0) == b
  | .int a, .bl b => a == (if b then 1 else 0)
  | .int a, .int b => a == b
  | .str a, .str b => a == b
  | _, _ => false
theorem eqAt_V {A : Around} {s : Shared} {y x : V} {u v : Value} (ry : RelV y u) (rx : RelV x v) (fy : flatV y = true) (fx : flatV x = true) : SeqAt.EqAt A s u v (eqV y x) := by
  cases y with
  | non =>
    cases ry
    cases x with
    | non => cases rx; exact SeqAt.EqAt.same _
    | bl b => cases rx; exact SeqAt.EqAt.none_bool b
    | int b => obtain ⟨t, rfl⟩ := rx; exact SeqAt.EqAt.none_int b t
    | str b => obtain ⟨t, rfl⟩ := rx; exact SeqAt.EqAt.none_str b t
    | _ => exact absurd (show false = true from fx) Bool.false_ne_true
  | bl a =>
    cases ry
    cases x with
    | non => cases rx; exact SeqAt.EqAt.bool_none a
    | bl b => cases rx; exact SeqAt.EqAt.bool_bool a b
    | int b => obtain ⟨t, rfl⟩ := rx; exact SeqAt.EqAt.bool_int a b t
    | str b => obtain ⟨t, rfl⟩ := rx; exact SeqAt.EqAt.bool_str a b t
    | _ => exact absurd (show false = true from fx) Bool.false_ne_true
  | int a =>
    obtain ⟨t', rfl⟩ := ry
    cases x with
    | non => cases rx; exact SeqAt.EqAt.int_none a t'
    | bl b => cases rx; exact SeqAt.EqAt.int_bool a t' b
    | int b => obtain ⟨t, rfl⟩ := rx; exact SeqAt.EqAt.int_int a t' b t
    | str b => obtain ⟨t, rfl⟩ := rx; exact SeqAt.EqAt.int_str a t' b t
    | _ => exact absurd (show false = true from fx) Bool.false_ne_true
  | str a =>
    obtain ⟨t', rfl⟩ := ry
    cases x with
    | non => cases rx; exact SeqAt.EqAt.str_none a t'
    | bl b => cases rx; exact SeqAt.EqAt.str_bool a t' b
    | int b => obtain ⟨t, rfl⟩ := rx; exact SeqAt.EqAt.str_int a t' b t
    | str b => obtain ⟨t, rfl⟩ := rx; exact SeqAt.EqAt.str_str a t' b t
    | _ => exact absurd (show false = true from fx) Bool.false_ne_true
  | _ => exact absurd (show false = true from fy) Bool.false_ne_true
def eqU (x : V) (u : Value) : Bool := match u with
  | .none => eqV .non x
  | .bool b => eqV (.bl b) x
  | .int i _ => eqV (.int i) x
  | .str z _ => eqV (.str z) x
  | _ => false
theorem eqU_of {x y : V} {u : Value} (r : RelV y u) (f : flatV y = true) : eqU x u = eqV y x := by
  cases y with
  | non => cases r; rfl
  | bl b => cases r; rfl
  | int i => obtain ⟨t, rfl⟩ := r; rfl
  | str z => obtain ⟨t, rfl⟩ := r; rfl
  | _ => exact absurd (show false = true from f) Bool.false_ne_true
theorem any_eqU {x : V} : ∀ {xs : List V} {us : List Value}, Vals xs us → xs.all flatV = true → us.any (eqU x) = xs.any fun y => eqV y x
  | _, _, .nil, _ => rfl
  | y :: xs, u :: us, .cons r t, f => by
    rw [List.all_cons, Bool.and_eq_true] at f
    rw [List.any_cons, List.any_cons, eqU_of r f.1, any_eqU t f.2]
theorem mem_eqAt {A : Around} {s : Shared} {x : V} {v : Value} (rx : RelV x v) (fx : flatV x = true) : ∀ {xs : List V} {us : List Value}, Vals xs us → xs.all flatV = true → ∀ u ∈ us, SeqAt.EqAt A s u v (eqU x u)
  | _, _, .nil, _ => fun u hu => by cases hu
  | y :: xs, u :: us, .cons r t, f => fun u' hu => by
    rw [List.all_cons, Bool.and_eq_true] at f
    rcases List.mem_cons.mp hu with rfl | hu
    · rw [eqU_of r f.1]; exact eqAt_V r rx f.1 fx
    · exact mem_eqAt rx fx t f.2 u' hu
def inV (x : V) (xs : List V) : Bool := xs.any fun y => eqV y x
def rIn (K : PySem.W.Frag) (neg : Bool) : R2 := fun x y H Q => ∃ p xs, y = .ref p ∧ (SqL K H p xs ∨ SqT K H p xs) ∧ flatV x = true ∧ xs.all flatV = true ∧ Q (.bl (if neg then !inV x xs else inV x xs)) H
theorem op_in_seq : OpR X (compareOp .In) (rIn X.K false) := by
  intro pins s σ H x y v u Q I rx ry h
  obtain ⟨p, xs, rfl, hq, fx, fs, q⟩ := h
  cases ry
  rcases hq with hq | hq
  · obtain ⟨its, r, pl, hz⟩ := I.list hq
    refine SeqAt.in_listAt (eqU x) pl.isList (fun w hw => mem_eqAt rx fx r fs w (by simpa using hw)) ⟨.bl _, H, I, rfl, ?_⟩
    rw [show its.toArray.any (eqU x) = its.any (eqU x) by simp, any_eqU r fs]
    exact q
  · obtain ⟨its, r, pl, hz⟩ := I.tuple hq
    refine SeqAt.in_tupleAt (eqU x) pl (fun w hw => mem_eqAt rx fx r fs w (by simpa using hw)) ⟨.bl _, H, I, rfl, ?_⟩
    rw [show its.toArray.any (eqU x) = its.any (eqU x) by simp, any_eqU r fs]
    exact q
theorem op_notIn_seq : OpR X (compareOp .NotIn) (rIn X.K true) := by
  intro pins s σ H x y v u Q I rx ry h
  obtain ⟨p, xs, rfl, hq, fx, fs, q⟩ := h
  cases ry
  rcases hq with hq | hq
  · obtain ⟨its, r, pl, hz⟩ := I.list hq
    refine SeqAt.notIn_listAt (eqU x) pl.isList (fun w hw => mem_eqAt rx fx r fs w (by simpa using hw)) ⟨.bl _, H, I, rfl, ?_⟩
    rw [show its.toArray.any (eqU x) = its.any (eqU x) by simp, any_eqU r fs]
    exact q
  · obtain ⟨its, r, pl, hz⟩ := I.tuple hq
    refine SeqAt.notIn_tupleAt (eqU x) pl (fun w hw => mem_eqAt rx fx r fs w (by simpa using hw)) ⟨.bl _, H, I, rfl, ?_⟩
    rw [show its.toArray.any (eqU x) = its.any (eqU x) by simp, any_eqU r fs]
    exact q
theorem call_len_seq : CallR X (.builtin "len") (fun xs H Q => ∃ p ys, xs = [.ref p] ∧ (SqL X.K H p ys ∨ SqT X.K H p ys) ∧ Q (.int ys.length) H) := by
  intro pins s σ H xs us Q I r h
  obtain ⟨p, ys, rfl, hq, q⟩ := h
  obtain ⟨u, rfl, rx⟩ := vals1 r
  cases rx
  have hn := line63
  rcases hq with hq | hq
  · obtain ⟨its, r', pl, hz⟩ := I.list hq
    have hlen := r'.length
    exact Calls.call_len_list pl.isList (by simp only [List.size_toArray] <;> omega) ⟨.int ys.length, H, I.tok _, ⟨s.toks + 1, by rw [List.size_toArray, hlen]⟩, q⟩
  · obtain ⟨its, r', pl, hz⟩ := I.tuple hq
    have hlen := r'.length
    exact len_tuple pl (by simp only [List.size_toArray] <;> omega) ⟨.int ys.length, H, I.tok _, ⟨s.toks + 1, by rw [List.size_toArray, hlen]⟩, q⟩
theorem call_tuple_of : CallR X (.type "tuple") (fun xs H Q => ∃ p ys, xs = [.ref p] ∧ ((SqL X.K H p ys ∧ ∀ l, H l = none → Q (.ref l) (upd H l (.tup ys))) ∨ (SqT X.K H p ys ∧ Q (.ref p) H))) := by
  intro pins s σ H xs us Q I r h
  obtain ⟨p, ys, rfl, h⟩ := h
  obtain ⟨u, rfl, rx⟩ := vals1 r
  cases rx
  rcases h with ⟨hq, q⟩ | ⟨hq, q⟩
  · obtain ⟨its, r', pl, hz⟩ := I.list hq
    have hlen := r'.length
    refine call_tuple_list pl.isList (fun h' kp => ?_) (by simp only [List.size_toArray] <;> omega)
    have I1 : Inv X pins σ H { s with heap := h' } := I.kept (t' := s.toks) kp
    have I2 : Inv X pins σ (upd H h'.objs.size (.tup ys)) { s with heap := h'.push { cls := .type "tuple", data := .seq its.toArray } } :=
      I1.laid (t' := s.toks) (fun b o e => Heap.get?_push_of_some _ e) (Nat.le_refl _) (show ObjOk X.prog X.w _ _ _ (.tup ys) from ⟨hz, its, r', IsTup.new _ _⟩)
    exact ⟨.ref h'.objs.size, _, I2, rfl, q _ (I1.hok.fresh (Nat.le_refl _))⟩
  · obtain ⟨its, r', pl, hz⟩ := I.tuple hq
    exact call_tuple_same pl ⟨.ref p, H, I, rfl, q⟩
def tyV (K : PySem.W.Frag) (T : String) (x : V) (H : Hp) : Prop := match x with
  | .str _ => T = "str"
  | .int _ => T = "int"
  | .ref p => (T = "list" ∧ ∃ xs, SqL K H p xs) ∨ (T = "tuple" ∧ ∃ o, K.lookup p = some o ∧ o.cls = .type "tuple" ∧ o.dict = none) ∨
      (T = "dict" ∧ ((∃ kvs, H p = some (.dK kvs)) ∨ ∃ kvs, H p = some (.dT kvs))) ∨ (T = "set" ∧ ∃ S n, H p = some (.set S n))
  | _ => False
theorem tyV_is {pins : List (Addr × Obj)} {σ : St} {H : Hp} {s : Shared} {T : String} {x : V} {v : Value} (I : Inv X pins σ H s) (r : RelV x v) (ty : tyV X.K T x H) :
    s.TypeIs v T ∧ ∀ a, v = .ref a → ∃ ob, s.heap.get? a = some ob ∧ ob.dict = none := by
  cases x with
  | str z =>
    obtain ⟨t, rfl⟩ := r
    cases (show T = "str" from ty)
    exact ⟨typeIs_str s z t, fun _ e => nomatch e⟩
  | int i =>
    obtain ⟨t, rfl⟩ := r
    cases (show T = "int" from ty)
    exact ⟨typeIs_int s i t, fun _ e => nomatch e⟩
  | ref p =>
    cases r
    rcases ty with ⟨rfl, xs, hq⟩ | ⟨rfl, o, hk, hc, hd⟩ | ⟨rfl, hk⟩ | ⟨rfl, S, n, hk⟩
    · obtain ⟨its, _, pl, _⟩ := I.list hq
      refine ⟨pl.isList.typeIs, fun a e => ?_⟩
      cases e
      obtain ⟨o, n, e, c, hd, _⟩ := pl
      exact ⟨o, e, hd⟩
    · refine ⟨⟨o, I.kIn p o hk, hc⟩, fun a e => ?_⟩
      cases e
      exact ⟨o, I.kIn _ o hk, hd⟩
    · have z : ∃ o, s.heap.get? p = some o ∧ o.ExactDict := by
        rcases hk with ⟨kvs, hk⟩ | ⟨kvs, hk⟩
        · obtain ⟨_, _, _, _, o, _, _, e, ex, _⟩ := I.hok p _ hk
          exact ⟨o, e, ex⟩
        · obtain ⟨_, _, _, _, o, _, _, e, ex, _⟩ := I.hok p _ hk
          exact ⟨o, e, ex⟩
      obtain ⟨o, e, ex⟩ := z
      refine ⟨⟨o, e, ex.1⟩, fun a e2 => ?_⟩
      cases e2
      exact ⟨o, e, ex.2.1⟩
    · obtain ⟨o, _, _, _, e, ex, _⟩ := I.hok p _ hk
      refine ⟨⟨o, e, ex.1⟩, fun a e2 => ?_⟩
      cases e2
      exact ⟨o, e, ex.2.1⟩
  | _ => exact False.elim ty
def tBM0 (K : PySem.W.Frag) (T : String) (r : V → List V → Hp → VK → Prop) (to : TE) : TE := fun σ H Q => to σ H fun x H1 => tyV K T x H1 ∧ r x [] H1 Q
def tBM (K : PySem.W.Frag) (T : String) (r : V → List V → Hp → VK → Prop) (to : TE) (t : TA) : TE := fun σ H Q => to σ H fun x H1 => tyV K T x H1 ∧ t σ H1 fun xs H2 => r x xs H2 Q
variable {o e : Expr} {es : List Expr} {to : TE} {t : TA} {name : Str} {apos cpos : Pos} {T id : String} {r : V → List V → Hp → VK → Prop}
theorem pe_bm (pa : PlainAttrs T) (slot : Slot T name id) (hty : typeOf (.builtin id) = pure (.type "method_descriptor")) (hm : MtR X id r) (ho : PE X o to) (ha : PA X (e :: es) t)
    (hbase : attributeBase o name X.env (eval o X.env) = eval o X.env := by rfl)
    (hfew : ((backTo cpos (starEach (e :: es) X.env)).all (fun x => !x.1) && (backToKw cpos (keywordEach [] X.env)).all (fun x => x.1.isSome)
      && decide ((e :: es).length + ([] : List Keyword).length + (if ([] : List Keyword).isEmpty then 0 else 1) < 30)) = true := by rfl)
    (hline : (apos.endLine == cpos.line) = true := by rfl) (hs : starEach (e :: es) X.env = (false, eval e X.env) :: starEach es X.env := by rfl) (hplain : (backTo cpos (starEach es X.env)).any (·.1) = false := by rfl) :
    PE X (.Call (.Attribute o name apos) (e :: es) [] cpos) (tBM X.K T r to t) := by
  intro pins s σ H Q I h
  refine wpAny_Call_method_late hbase hfew hline rfl (thn (ho pins s σ H _ I h) fun v s1 ⟨x, H1, I1, r1, ty, q1⟩ => ?_)
  obtain ⟨h1, h2⟩ := tyV_is I1 r1 ty
  refine ⟨T, id, pa, slot, hty, h1, h2, ?_⟩
  have hA := ha cpos pins s1 σ H1 _ I1 q1
  rw [hs] at hA ⊢
  refine Calls.callWith_builtin (by show (false || (backTo cpos (starEach es X.env)).any (·.1)) = false; rw [hplain] <;> rfl) (Calls.evalArgs_plain ?_)
  exact thn hA fun us s2 ⟨vs, H2, I2, r2, q2⟩ => hm pins s2 σ H2 x vs v us Q I2 r1 r2 q2
end
end L2
namespace L2
open PySem PySem.Spec PyProof.Rows
def MtM (X : Cx) (id : String) (r : V → List V → Hp → VK → Prop) : Prop :=
  ∀ (pins : List (Addr × Obj)) (s : Shared) (σ : St) (H : Hp) (x : V) (xs : List V) (v : Value) (us : List Value) (Q : VK), Inv X pins σ H s → RelV x v → Vals xs us → r x xs H Q →
    wpAny (model X.prog X.w) X.A (call (.builtin id) (v :: us)) (EP X pins σ Q) X.xe s
theorem Vals.one : ∀ {x : V} {us : List Value}, Vals [x] us → ∃ u, us = [u] ∧ RelV x u
  | _, _, .cons r .nil => ⟨_, rfl, r⟩
theorem Vals.reverse {xs : List V} {us : List Value} (h : Vals xs us) : Vals xs.reverse us.reverse := by
  induction h with
  | nil => exact .nil
  | cons r t ih => rw [List.reverse_cons, List.reverse_cons]; exact Vals.append ih (.cons r .nil)
section
variable {X : Cx} {pins : List (Addr × Obj)} {σ : St} {H : Hp} {s : Shared} {l b : Addr} {xs ys zs : List V}
theorem Inv.lset {its its' : List Value} {n : Nat} {f : Array Value → Array Value} {t' : Nat} (I : Inv X pins σ H s) (hH : H l = some (.lst xs))
    (e : s.heap.get? l = some { cls := .type "list", data := .seq its.toArray n }) (hf : f its.toArray = its'.toArray) (hv : Vals ys its') (hz : ys.length ≤ sizeLine) :
    Inv X pins σ (upd H l (.lst ys)) { s with heap := s.heap.update l (Obj.mapSeq f), toks := t' } := by
  have q := PySem.IsL.update e f
  rw [hf] at q
  refine I.write (x := l) (e := l) (by rw [hH]; exact trivial) (.inl rfl) (fun b' u hb hu => (Heap.get?_update_other s.heap (Obj.mapSeq f) (Ne.symm hb)).trans hu) ⟨_, q⟩ ?_
  exact ⟨hz, its', _, hv, q⟩
theorem Inv.lnew {its : List Value} {t' : Nat} (I : Inv X pins σ H s) (hv : Vals ys its) (hz : ys.length ≤ sizeLine) :
    Inv X pins σ (upd H s.heap.objs.size (.lst ys)) { s with heap := s.heap.push { cls := .type "list", data := .seq its.toArray }, toks := t' } :=
  I.laid (fun _ _ q => Heap.get?_push_of_some _ q) (Nat.le_refl _) ⟨hz, its, 0, hv, Heap.get?_push_size _ rfl⟩
theorem Inv.fresh (I : Inv X pins σ H s) : H s.heap.objs.size = none := I.hok.fresh (Nat.le_refl _)
theorem Inv.lstM (I : Inv X pins σ H s) (hH : H l = some (.lst xs)) : xs.length ≤ sizeLine ∧ ∃ (its : List Value) (n : Nat), Vals xs its ∧ xs.length = its.length ∧ s.heap.get? l = some { cls := .type "list", data := .seq its.toArray n } := by
  obtain ⟨z, its, n, r, e⟩ := I.hok l _ hH
  exact ⟨z, its, n, r, r.length, e⟩
end
section
variable {X : Cx}
def rAppend : V → List V → Hp → VK → Prop := fun x vs H Q => ∃ l xs y, x = .ref l ∧ vs = [y] ∧ H l = some (.lst xs) ∧ xs.length < sizeLine ∧ Q .non (upd H l (.lst (xs ++ [y])))
theorem mt_append : MtM X "list.append" rAppend := by
  intro pins s σ H x vs v us Q I rx rv h
  obtain ⟨l, xs, y, rfl, rfl, hH, hz, q⟩ := h
  cases rx
  obtain ⟨u, rfl, ru⟩ := rv.one
  obtain ⟨z, its, n, r, hl, e⟩ := I.lstM hH
  refine call_meets F.slot_list_append ⟨_, e, rfl⟩ F.entry_list_append (F.args_list_append_2 _ _) (PySem.list_append l its.toArray n u (by rw [List.size_toArray]; omega)) ⟨e, ?_⟩
  refine ⟨.non, _, I.lset (its' := its ++ [u]) hH e (by simp) (r.append (.cons ru .nil)) ?_, rfl, q⟩
  rw [List.length_append, List.length_singleton]
  omega
def rExtend : V → List V → Hp → VK → Prop := fun x vs H Q => ∃ l b xs zs, x = .ref l ∧ vs = [.ref b] ∧ H l = some (.lst xs) ∧ H b = some (.lst zs) ∧ xs.length + zs.length ≤ sizeLine ∧ Q .non (upd H l (.lst (xs ++ zs)))
def rPop : V → List V → Hp → VK → Prop := fun x vs H Q => ∃ l xs y, x = .ref l ∧ vs = [] ∧ H l = some (.lst xs) ∧ xs[xs.length - 1]? = some y ∧ Q y (upd H l (.lst xs.dropLast))
def rPopAt : V → List V → Hp → VK → Prop := fun x vs H Q => ∃ l xs i k y, x = .ref l ∧ vs = [.int i] ∧ H l = some (.lst xs) ∧ -(2 ^ 63) ≤ i ∧ i < 2 ^ 63 ∧ seqIndex? i xs.length = some k ∧ xs[k]? = some y ∧ Q y (upd H l (.lst (xs.eraseIdx k)))
def rReverse : V → List V → Hp → VK → Prop := fun x vs H Q => ∃ l xs, x = .ref l ∧ vs = [] ∧ H l = some (.lst xs) ∧ Q .non (upd H l (.lst xs.reverse))
def rClear : V → List V → Hp → VK → Prop := fun x vs H Q => ∃ l xs, x = .ref l ∧ vs = [] ∧ H l = some (.lst xs) ∧ Q .non (upd H l (.lst []))
def rCat : R2 := fun x y H Q => ∃ l b xs zs, x = .ref l ∧ y = .ref b ∧ H l = some (.lst xs) ∧ H b = some (.lst zs) ∧ xs.length + zs.length ≤ sizeLine ∧ ∀ p, H p = none → Q (.ref p) (upd H p (.lst (xs ++ zs)))
def rRep : R2 := fun x y H Q => ∃ l k xs, x = .ref l ∧ y = .int k ∧ H l = some (.lst xs) ∧ -(2 ^ 63) ≤ k ∧ k < 2 ^ 63 ∧ xs.length * k.toNat ≤ sizeLine ∧
  ∀ p, H p = none → Q (.ref p) (upd H p (.lst (List.replicate k.toNat xs).flatten))
end
section
variable {prog : Program} {w : World} {A : Around} {E : Value → Shared → Prop} {s : Shared}
set_option maxRecDepth 100000 in
end
section
variable {X : Cx}
end
end L2
namespace L2
open PySem PySem.Spec PyProof.Rows
section
variable {κ : Type} [DecidableEq κ]
def valV (kvs : List (κ × V)) (k : κ) : Option V := (kvs.find? fun kv => decide (kv.1 = k)).map (·.2)
def putK (kvs : List (κ × V)) (k : κ) (v : V) : List (κ × V) :=
  if (kvs.any fun kv => decide (kv.1 = k)) = true then kvs.map (fun kv => if kv.1 = k then (kv.1, v) else kv) else kvs ++ [(k, v)]
def dropK (kvs : List (κ × V)) (k : κ) : List (κ × V) := kvs.filter fun kv => decide (kv.1 ≠ k)
theorem valV_pos {p : κ × V} {r : List (κ × V)} {k : κ} (e : p.1 = k) : valV (p :: r) k = some p.2 := by simp [valV, List.find?_cons, e]
theorem valV_neg {p : κ × V} {r : List (κ × V)} {k : κ} (e : ¬ p.1 = k) : valV (p :: r) k = valV r k := by simp [valV, List.find?_cons, e]
theorem valV_any (k : κ) : ∀ kvs : List (κ × V), (kvs.any fun kv => decide (kv.1 = k)) = (valV kvs k).isSome
  | [] => rfl
  | p :: r => by
    rw [List.any_cons]
    by_cases e : p.1 = k
    · simp only [valV_pos e, decide_eq_true e, Bool.true_or, Option.isSome_some]
    · rw [valV_neg e, decide_eq_false e, Bool.false_or]; exact valV_any k r
theorem valV_map (k j : κ) (y : V) : ∀ kvs : List (κ × V), valV (kvs.map fun kv => if kv.1 = k then (kv.1, y) else kv) j = (valV kvs j).map fun x => if j = k then y else x
  | [] => rfl
  | p :: r => by
    have ih := valV_map k j y r
    rw [List.map_cons]
    by_cases h : p.1 = k
    · rw [if_pos h]
      by_cases e : p.1 = j
      · rw [valV_pos (p := (p.1, y)) e, valV_pos e, Option.map_some, if_pos (e.symm.trans h)]
      · rw [valV_neg (p := (p.1, y)) e, valV_neg e, ih]
    · rw [if_neg h]
      by_cases e : p.1 = j
      · rw [valV_pos (p := p) e, valV_pos e, Option.map_some, if_neg (fun z => h (e.trans z))]
      · rw [valV_neg (p := p) e, valV_neg e, ih]
theorem valV_snoc (k j : κ) (y : V) : ∀ kvs : List (κ × V), valV kvs k = none → valV (kvs ++ [(k, y)]) j = if j = k then some y else valV kvs j
  | [], _ => by
    by_cases e : k = j
    · rw [if_pos e.symm]; exact valV_pos (p := (k, y)) e
    · rw [if_neg (fun z => e z.symm)]; exact valV_neg (p := (k, y)) e
  | p :: r, hn => by
    rw [List.cons_append]
    have hk : ¬ p.1 = k := fun z => by rw [valV_pos z] at hn; cases hn
    rw [valV_neg hk] at hn
    have ih := valV_snoc k j y r hn
    by_cases e : p.1 = j
    · rw [valV_pos e, valV_pos e, if_neg (fun z => hk (e.trans z))]
    · rw [valV_neg e, valV_neg e, ih]
theorem valV_put (kvs : List (κ × V)) (k j : κ) (y : V) : valV (putK kvs k y) j = if j = k then some y else valV kvs j := by
  unfold putK
  by_cases a : (kvs.any fun kv => decide (kv.1 = k)) = true
  · rw [if_pos a, valV_map]
    rw [valV_any] at a
    by_cases e : j = k
    · obtain ⟨x, hx⟩ := Option.isSome_iff_exists.mp a
      rw [if_pos e, e, hx, Option.map_some, if_pos rfl]
    · rw [if_neg e]
      cases valV kvs j with
      | none => rfl
      | some x => rw [Option.map_some, if_neg e]
  · rw [if_neg a]
    refine valV_snoc k j y kvs ?_
    rw [valV_any] at a
    cases q : valV kvs k with
    | none => rfl
    | some x => rw [q] at a; exact (a rfl).elim
theorem length_putK (kvs : List (κ × V)) (k : κ) (v : V) : (putK kvs k v).length ≤ kvs.length + 1 := by
  unfold putK
  split
  · rw [List.length_map]; omega
  · rw [List.length_append, List.length_cons, List.length_nil]; omega
theorem RelO.isSome_eq {o : Option V} {u : Option Value} (r : RelO o u) : o.isSome = u.isSome := by
  cases o with
  | none => cases u with
    | none => rfl
    | some _ => exact (show False from r).elim
  | some _ => cases u with
    | none => exact (show False from r).elim
    | some _ => rfl
theorem RelO.getD {o : Option V} {u : Option Value} {d : V} {d' : Value} (r : RelO o u) (rd : RelV d d') : RelV (o.getD d) (u.getD d') := by
  cases o with
  | none => cases u with
    | none => exact rd
    | some _ => exact (show False from r).elim
  | some _ => cases u with
    | none => exact (show False from r).elim
    | some _ => exact r
theorem KV.val {kvs : List (κ × V)} {vs : List (κ × Value)} (r : KV kvs vs) (k : κ) : RelO (valV kvs k) (valueAt vs k) := by
  unfold KV at r
  induction r with
  | nil => exact True.intro
  | @cons p q ps qs h t ih =>
    obtain ⟨h1, h2⟩ := h
    by_cases e : p.1 = k
    · have e' : q.1 = k := h1.symm.trans e
      have b : valueAt (q :: qs) k = some q.2 := by simp [valueAt, List.find?_cons, e']
      rw [valV_pos e, b]; exact h2
    · have e' : ¬ q.1 = k := fun z => e (h1.trans z)
      have b : valueAt (q :: qs) k = valueAt qs k := by simp [valueAt, List.find?_cons, e']
      rw [valV_neg e, b]; exact ih
theorem KV.any {kvs : List (κ × V)} {vs : List (κ × Value)} (r : KV kvs vs) (k : κ) : (kvs.any fun kv => decide (kv.1 = k)) = vs.any fun kv => decide (kv.1 = k) := by
  unfold KV at r
  induction r with
  | nil => rfl
  | cons h t ih => rw [List.any_cons, List.any_cons, ih, h.1]
theorem KV.repl {kvs : List (κ × V)} {vs : List (κ × Value)} (r : KV kvs vs) (k : κ) {y : V} {u : Value} (ry : RelV y u) :
    KV (kvs.map fun kv => if kv.1 = k then (kv.1, y) else kv) (vs.map fun kv => if kv.1 = k then (kv.1, u) else kv) := by
  unfold KV at r ⊢
  induction r with
  | nil => exact .nil
  | @cons p q ps qs h t ih =>
    rw [List.map_cons, List.map_cons]
    refine .cons ?_ ih
    obtain ⟨h1, h2⟩ := h
    by_cases e : p.1 = k
    · rw [if_pos e, if_pos (h1.symm.trans e)]; exact ⟨h1, ry⟩
    · rw [if_neg e, if_neg (fun z => e (h1.trans z))]; exact ⟨h1, h2⟩
theorem KV.put {kvs : List (κ × V)} {vs : List (κ × Value)} (r : KV kvs vs) (k : κ) {y : V} {u : Value} (ry : RelV y u) : KV (putK kvs k y) (stored vs k u) := by
  unfold putK stored
  rw [r.any k]
  by_cases e : (vs.any fun kv => decide (kv.1 = k)) = true
  · rw [if_pos e, if_pos e]; exact r.repl k ry
  · rw [if_neg e, if_neg e]; exact Paired.snoc r ⟨rfl, ry⟩
theorem KV.length {kvs : List (κ × V)} {vs : List (κ × Value)} (r : KV kvs vs) : kvs.length = vs.length := Paired.length r
end
theorem kV_is {P : Program} {w : World} {k : Key} {u : Value} (r : RelV (kV k) u) : (mixKind P w).is k u = true := by
  cases k with
  | inl i => obtain ⟨t, e⟩ := (show ∃ t, u = Value.int i t from r); subst e; exact mixKind_int P w i t
  | inr x => obtain ⟨t, e⟩ := (show ∃ t, u = Value.str x t from r); subst e; exact mixKind_str P w x t
theorem items_are {P : Program} {w : World} : ∀ {ks : List Key} {us : List Value}, Vals (ks.map kV) us → ItemsAre (mixKind P w) ks us
  | [], _, r => by rw [List.map_nil] at r; cases r; exact .nil
  | k :: ks, _, r => by
    rw [List.map_cons] at r
    cases r with
    | cons h t => exact .cons (kV_is h) (items_are t)
abbrev KT (H : Hp) : List (List Key × V) → List (List Key × Addr × Value) → Prop := Paired fun p q => p.1 = q.1 ∧ H q.2.1 = some (.tup (p.1.map kV)) ∧ RelV p.2 q.2.2
theorem KT.val {H : Hp} {kvs : List (List Key × V)} {xs : List (List Key × Addr × Value)} (r : KT H kvs xs) (k : List Key) : RelO (valV kvs k) ((atKey xs k).map (·.2)) := by
  induction r with
  | nil => exact True.intro
  | @cons p q ps qs h t ih =>
    obtain ⟨h1, _, h2⟩ := h
    by_cases e : p.1 = k
    · have e' : q.1 = k := h1.symm.trans e
      have b : atKey (q :: qs) k = some q.2 := by simp [atKey, List.find?_cons, e']
      rw [valV_pos e, b]; exact h2
    · have e' : ¬ q.1 = k := fun z => e (h1.trans z)
      have b : atKey (q :: qs) k = atKey qs k := by simp [atKey, List.find?_cons, e']
      rw [valV_neg e, b]; exact ih
theorem KT.repl {H : Hp} {kvs : List (List Key × V)} {xs : List (List Key × Addr × Value)} (r : KT H kvs xs) (k : List Key) {y : V} {u : Value} (ry : RelV y u) :
    KT H (kvs.map fun kv => if kv.1 = k then (kv.1, y) else kv) (xs.map (putAt k u)) := by
  induction r with
  | nil => exact .nil
  | @cons p q ps qs h t ih =>
    rw [List.map_cons, List.map_cons]
    refine .cons ?_ ih
    obtain ⟨h1, h2, h3⟩ := h
    unfold putAt
    by_cases e : p.1 = k
    · rw [if_pos e, if_pos (h1.symm.trans e)]; exact ⟨h1, h2, ry⟩
    · rw [if_neg e, if_neg (fun z => e (h1.trans z))]; exact ⟨h1, h2, h3⟩
theorem KT.put {H : Hp} {kvs : List (List Key × V)} {xs : List (List Key × Addr × Value)} (r : KT H kvs xs) (k : List Key) {b : Addr} {y : V} {u : Value} (hb : H b = some (.tup (k.map kV))) (ry : RelV y u) :
    KT H (putK kvs k y) (storedH xs k b u) := by
  have e : (kvs.any fun kv => decide (kv.1 = k)) = (atKey xs k).isSome := by
    rw [valV_any, (r.val k).isSome_eq, Option.isSome_map]
  unfold putK storedH
  rw [e]
  by_cases q : (atKey xs k).isSome = true
  · rw [if_pos q, if_pos q]; exact r.repl k ry
  · rw [if_neg q, if_neg q]; exact Paired.snoc r ⟨rfl, hb, ry⟩
theorem KT.keeps {H H' : Hp} {kvs : List (List Key × V)} {xs : List (List Key × Addr × Value)} (r : KT H kvs xs) (ht : ∀ b ys, H b = some (.tup ys) → H' b = some (.tup ys)) : KT H' kvs xs :=
  Paired.mapP r fun _ _ z => ⟨z.1, ht _ _ z.2.1, z.2.2⟩
section
variable {P : Program} {w : World} {H : Hp} {h : Heap} {a : Addr}
theorem rd_of {u : HO} (ok : HOk P w H h) (e : Rd H a u) : ObjOk P w H h a u := e.ok ok
theorem dk_rd {kvs : List (Key × V)} (ok : HOk P w H h) (e : Rd H a (.dK kvs)) : kvs.length ≤ sizeLine ∧ (a == sysModules) = false ∧ ∃ vs, KV kvs vs ∧ h.DictOf (mixKind P w) a vs :=
  show ObjOk P w H h a (.dK kvs) from rd_of ok e
theorem dk_of {kvs : List (Key × V)} (ok : HOk P w H h) (e : H a = some (.dK kvs)) : kvs.length ≤ sizeLine ∧ (a == sysModules) = false ∧ ∃ vs, KV kvs vs ∧ h.DictOf (mixKind P w) a vs := dk_rd ok (.inl e)
theorem key_of {ks : List Key} (ok : HOk P w H h) (e : H a = some (.tup (ks.map kV))) : (tupleKind (mixKind P w)).is h ks a := by
  obtain ⟨_, its, r, o, h1, h2, n, h3⟩ := (show ObjOk P w H h a (.tup (ks.map kV)) from ok a _ e)
  exact ⟨o, its.toArray, n, h1, h2, h3, by simpa using items_are r⟩
theorem dt_rd {kvs : List (List Key × V)} (ok : HOk P w H h) (e : Rd H a (.dT kvs)) : kvs.length ≤ sizeLine ∧ (a == sysModules) = false ∧
    ∃ xs, KT H kvs xs ∧ h.DictOfH (tupleKind (mixKind P w)) a xs := by
  obtain ⟨z, y, xs, r, o, es, ep, h1, h2, h3, h4, h5⟩ := (show ObjOk P w H h a (.dT kvs) from rd_of ok e)
  refine ⟨z, y, xs, r, o, es, ep, h1, h2, h3, h4, fun x hx => ?_, h5⟩
  have all : ∀ {l : List (List Key × V)} {m : List (List Key × Addr × Value)}, KT H l m → ∀ x ∈ m, (tupleKind (mixKind P w)).is h x.1 x.2.1 := by
    intro l m q
    induction q with
    | nil => intro x hx; exact nomatch hx
    | @cons p q ps qs hq t ih =>
      intro x hx
      rcases List.mem_cons.mp hx with e | hx
      · subst e
        exact key_of ok (by rw [← hq.1]; exact hq.2.1)
      · exact ih x hx
  exact all r x hx
theorem dt_of {kvs : List (List Key × V)} (ok : HOk P w H h) (e : H a = some (.dT kvs)) : kvs.length ≤ sizeLine ∧ (a == sysModules) = false ∧
    ∃ xs, KT H kvs xs ∧ h.DictOfH (tupleKind (mixKind P w)) a xs := dt_rd ok (.inl e)
end
def DGet (H : Hp) (a : Addr) (y : V) (r : Option V) : Prop :=
  (∃ kvs k, Rd H a (.dK kvs) ∧ y = kV k ∧ r = valV kvs k) ∨ ∃ kvs k b, Rd H a (.dT kvs) ∧ y = .ref b ∧ H b = some (.tup (k.map kV)) ∧ r = valV kvs k
def DPut (H : Hp) (a : Addr) (y v : V) (H' : Hp) : Prop :=
  (∃ kvs k, H a = some (.dK kvs) ∧ y = kV k ∧ kvs.length < sizeLine ∧ H' = upd H a (.dK (putK kvs k v))) ∨
  ∃ kvs k b, H a = some (.dT kvs) ∧ y = .ref b ∧ H b = some (.tup (k.map kV)) ∧ kvs.length < sizeLine ∧ H' = upd H a (.dT (putK kvs k v))
theorem DGet.k {H : Hp} {a : Addr} {kvs : List (Key × V)} {k : Key} (e : H a = some (.dK kvs)) : DGet H a (kV k) (valV kvs k) := .inl ⟨kvs, k, .inl e, rfl, rfl⟩
theorem DPut.k {H : Hp} {a : Addr} {kvs : List (Key × V)} {k : Key} {v : V} (e : H a = some (.dK kvs)) (hl : kvs.length < sizeLine) : DPut H a (kV k) v (upd H a (.dK (putK kvs k v))) := .inl ⟨kvs, k, e, rfl, hl, rfl⟩
section
variable {X : Cx} {pins : List (Addr × Obj)} {σ : St} {H : Hp} {s : Shared} {a : Addr} {y v : V} {u r : Value} {o : Option V} {A : Around} {E : Value → Shared → Prop}
theorem Inv.big (I : Inv X pins σ H s) : sysModules < s.heap.objs.size := by
  have h : mainGlobals < s.heap.objs.size := (I.mod.glob.keeps I.bk).lt
  exact Nat.lt_trans (by decide) h
theorem d_getItem {Q : Value → Shared → Prop} (hu : A.units + 1 < cLine) (I : Inv X pins σ H s) (g : DGet H a y (some v)) (ry : RelV y u) (h : ∀ w' s', Inv X pins σ H s' → RelV v w' → Q w' s') :
    wpAny (model X.prog X.w) A (getItem (.ref a) u) Q E s := by
  rcases g with ⟨kvs, k, e, ey, l⟩ | ⟨kvs, k, b, e, ey, eb, l⟩
  · subst ey
    obtain ⟨z, hd, vs, rel, dd⟩ := dk_rd I.hok e
    obtain ⟨w', hw, rw'⟩ := RelO.some_of (v := v) (o := valueAt vs k) (by rw [l]; exact rel.val k)
    exact wpAny_getItem_of (kV_is ry) dd.mapOf hw (h w' _ (I.tok _) rw')
  · subst ey
    cases (show u = Value.ref b from ry)
    obtain ⟨z, hd, xs, rel, dd⟩ := dt_rd I.hok e
    obtain ⟨w', hw, rw'⟩ := RelO.some_of (v := v) (o := (atKey xs k).map (·.2)) (by rw [l]; exact rel.val k)
    obtain ⟨p, hp, hp2⟩ := Option.map_eq_some_iff.mp hw
    refine wpAny_getItem_heap (tupleKind_room_in1 hu) (key_of I.hok eb) dd hp ?_
    rw [hp2]
    exact h w' _ (I.tok _) rw'
theorem d_write {h' : Heap} {t' : Nat} {ob : HO} (I : Inv X pins σ H s) (mu : Mut (H a)) (hs : Heap.SameBut a s.heap h') (he : ∃ q, h'.get? a = some q) (new : ObjOk X.prog X.w (upd H a ob) h' a ob) :
    Inv X pins σ (upd H a ob) { s with heap := h', toks := t' } :=
  I.write (x := a) (e := a) mu (.inl rfl) (fun b q hb z => (hs.2 b hb).trans z) he new
theorem dk_new {P : Program} {w : World} {H' : Hp} {h' : Heap} {kvs : List (Key × V)} {vs : List (Key × Value)} (z : kvs.length ≤ sizeLine) (hd : (a == sysModules) = false) (rel : KV kvs vs) (dd : h'.DictOf (mixKind P w) a vs) :
    ObjOk P w H' h' a (.dK kvs) := ⟨z, hd, vs, rel, dd⟩
theorem d_setItem {H' : Hp} {Q : Unit → Shared → Prop} (hu : A.units + 1 < cLine) (I : Inv X pins σ H s) (g : DPut H a y v H') (ry : RelV y u) (rv : RelV v r) (h : ∀ s', Inv X pins σ H' s' → Q () s') :
    wpAny (model X.prog X.w) A (setItem (.ref a) u r) Q E s := by
  rcases g with ⟨kvs, k, e, ey, l, eH⟩ | ⟨kvs, k, b, e, ey, eb, l, eH⟩
  · subst ey eH
    obtain ⟨z, hd, vs, rel, dd⟩ := dk_of I.hok e
    have hz : vs.length ≤ sizeLine := by rw [← rel.length]; exact z
    have hl : (putK kvs k v).length ≤ sizeLine := by have := length_putK kvs k v; omega
    refine wpAny_setItem_pairs (hsz := hz) (kV_is ry) dd fun h' dd' hs => h _ ?_
    have he : ∃ q, h'.get? a = some q := let ⟨q, _, _, hq, _⟩ := dd'; ⟨q, hq⟩
    exact d_write I (by rw [e]; exact True.intro) hs he (dk_new hl hd (rel.put k rv) dd')
  · subst ey eH
    cases (show u = Value.ref b from ry)
    obtain ⟨z, hd, xs, rel, dd⟩ := dt_of I.hok e
    have hz : xs.length ≤ sizeLine := by rw [← Paired.length rel]; exact z
    have hl : (putK kvs k v).length ≤ sizeLine := by have := length_putK kvs k v; omega
    refine wpAny_setItem_heap (hsz := hz) (tupleKind_room_in1 hu) (key_of I.hok eb) dd fun h' dd' hs => h _ ?_
    obtain ⟨q, es, ep, hq, h2, h3, h4, _, h5⟩ := dd'
    refine d_write I (by rw [e]; exact True.intro) hs ⟨q, hq⟩ ⟨hl, hd, _, (rel.put k eb rv).keeps fun c ys ec => ?_, q, es, ep, hq, h2, h3, h4, h5⟩
    rw [upd_ne (ne_of ec e (fun z => nomatch z))]
    exact ec
end
section
variable {X : Cx} {pins : List (Addr × Obj)} {σ : St} {H : Hp} {s : Shared} {a : Addr} {kvs : List (Key × V)} {k : Key} {u : Value} {A : Around} {E : Value → Shared → Prop}
end
def NoSl (i : Expr) : Prop := ∀ ov iv, subscripted i false ov iv = operate [ov, iv] (getItem ov iv)
theorem subD_of {prog : Program} {w : World} {A : Around} {E : Value → Shared → Prop} {s : Shared} {env : Env} {value slice : Expr} {pos : Pos} {T id : String} {Q : Value → Shared → Prop}
    (hl : typeLookup (.type T) "__getitem__" = pure (some (.builtin id))) (hs : NoSl slice)
    (h : wpAny (model prog w) A (eval value env) (fun o s₁ => wpAny (model prog w) A (eval slice env) (fun i s₂ => s₂.TypeIs o T ∧ wpAny (model prog w) A (getItem o i) Q E s₂) E s₁) E s) :
    wpAny (model prog w) A (eval (.Subscript value slice pos) env) Q E s := by
  refine Subscript_ (wpAny_mono h (fun o s₁ h₁ => wpAny_mono h₁ (fun i s₂ h₂ => ?_) fun _ _ x => x) fun _ _ x => x)
  obtain ⟨hT, h₂⟩ := h₂
  unfold subscriptTail
  refine wpAny_bind ?_
  rw [getitemInPython_of_ne hT.not_modules]
  refine wpAny_bind (wpAny_specialOf hT hl ?_)
  have fin : wpAny (model prog w) A (subscripted slice false o i) (fun r s₃ => wpAny (model prog w) A (letTemporaryGo value o r >>= fun _ => pure r) Q E s₃) E s₂ := by
    rw [hs o i]
    exact wpAny_operating (wpAny_mono h₂ (fun r s₃ h₃ => wpAny_bind (wpAny_letTemporaryGo (wpAny_pure h₃))) fun _ _ x => x)
  first
    | exact wpAny_pure (wpAny_bind fin)
    | exact wpAny_bind (wpAny_pure (wpAny_bind fin))
    | exact wpAny_bind fin
theorem dict_typeIs {X : Cx} {pins : List (Addr × Obj)} {σ : St} {H : Hp} {s : Shared} {a : Addr} {y : V} {o : Option V} (I : Inv X pins σ H s) (g : DGet H a y o) : s.TypeIs (.ref a) "dict" := by
  rcases g with ⟨kvs, k, e, _, _⟩ | ⟨kvs, k, b, e, _, _, _⟩
  · obtain ⟨_, _, vs, _, dd⟩ := dk_rd I.hok e
    exact dd.typeIs
  · obtain ⟨_, _, xs, _, dd⟩ := dt_rd I.hok e
    exact dd.typeIs
def tDGet (td ty : TE) : TE := fun σ H Q => td σ H fun x H1 => ty σ H1 fun y H2 => ∃ a v, x = .ref a ∧ DGet H2 a y (some v) ∧ Q v H2
def tDIn (ty td : TE) : TE := fun σ H Q => ty σ H fun y H1 => td σ H1 fun x H2 => ∃ a o, x = .ref a ∧ DGet H2 a y o ∧ Q (.bl o.isSome) H2
def tDNotIn (ty td : TE) : TE := fun σ H Q => ty σ H fun y H1 => td σ H1 fun x H2 => ∃ a o, x = .ref a ∧ DGet H2 a y o ∧ Q (.bl (!o.isSome)) H2
def sDPut (td ty tv : TE) : TS := fun D σ H => tv σ H fun v H1 => td σ H1 fun x H2 => ty σ H2 fun y H3 => ∃ a H4, x = .ref a ∧ DPut H3 a y v H4 ∧ D.nx σ H4
def sDAug (td ty tv : TE) (rd : V → V → Hp → VK → Prop) : TS := fun D σ H => td σ H fun x H1 => ty σ H1 fun y H2 => ∃ a v, x = .ref a ∧ DGet H2 a y (some v) ∧
  tv σ H2 fun y2 H3 => rd v y2 H3 fun z H4 => ∃ H5, DPut H4 a y z H5 ∧ D.nx σ H5
def sDDel (td ty : TE) : TS := fun D σ H => td σ H fun x H1 => ty σ H1 fun y H2 => ∃ a kvs k, x = .ref a ∧ H2 a = some (.dK kvs) ∧ y = kV k ∧ (valV kvs k).isSome = true ∧ D.nx σ (upd H2 a (.dK (dropK kvs k)))
section
variable {X : Cx} {o i e value : Expr} {pos pos' tpos : Pos} {td ty tv : TE}
theorem pe_dget (hu : X.A.units + 1 < cLine) (ho : PE X o td) (hi : PE X i ty) (hs : NoSl i) : PE X (.Subscript o i pos) (tDGet td ty) := by
  intro pins s σ H Q I h
  refine subD_of PySem.F.slot_dict_getitem.lookup hs (thn (ho pins s σ H _ I h) fun u s1 ⟨x, H1, I1, rx, q1⟩ => thn (hi pins s1 σ H1 _ I1 q1) fun iv s2 ⟨y, H2, I2, ry, a, v, ex, g, q2⟩ => ?_)
  subst ex
  obtain rfl : u = Value.ref a := rx
  exact ⟨dict_typeIs I2 g, d_getItem hu I2 g ry fun w' s3 I3 rw' => ⟨v, H2, I3, rw', q2⟩⟩
theorem ps_dput (hu : X.A.units + 1 < cLine) (ho : PE X o td) (hi : PE X i ty) (hv : PE X value tv) (hs : swapsWith value (some (.Subscript o i pos')) pos.line X.env = pure false) :
    PS X (.Assign [.Subscript o i pos'] value pos) (sDPut td ty tv) := by
  intro pins s σ H D I h
  refine wpAny_Assign_Subscript (thn (hv pins s σ H _ I h) fun r s1 ⟨v, H1, I1, rv, q1⟩ => thn (ho pins s1 σ H1 _ I1 q1) fun u s2 ⟨x, H2, I2, rx, q2⟩ => thn (hi pins s2 σ H2 _ I2 q2) fun iv s3 ⟨y, H3, I3, ry, a, H4, ex, g, q3⟩ => ?_) hs
  subst ex
  obtain rfl : u = Value.ref a := rx
  exact d_setItem hu I3 g ry rv fun s4 I4 => ⟨σ, H4, I4, q3⟩
end
theorem dk_empty {P : Program} {w : World} {H : Hp} (h : Heap) (hb : sysModules < h.objs.size) : ObjOk P w H (h.push { cls := .type "dict", data := .dict #[] }) h.objs.size (.dK []) :=
  ⟨Nat.zero_le _, beq_eq_false_iff_ne.mpr (Ne.symm (Nat.ne_of_lt hb)), [], .nil, Heap.DictOf.new h⟩
def tDNewK : TE := fun _ H Q => ∀ p, H p = none → Q (.ref p) (upd H p (.dK []))
def tDNewT : TE := fun _ H Q => ∀ p, H p = none → Q (.ref p) (upd H p (.dT []))
section
variable {X : Cx} {pos : Pos}
theorem pe_dnewK : PE X (.Dict [] [] pos) tDNewK := fun pins s σ H Q I h =>
  wpAny_Dict_empty ⟨.ref s.heap.objs.size, _, I.laid (a := s.heap.objs.size) (o := .dK []) (t' := s.toks) (fun _ _ q => Heap.get?_push_of_some _ q) (Nat.le_refl _) (dk_empty s.heap I.big), rfl, h _ (I.hok.fresh (Nat.le_refl _))⟩
end
def tPairs : List (TE × TE) → St → Hp → (List (V × V) → Hp → Prop) → Prop
  | [], _, H, Q => Q [] H
  | (tk, tv) :: r, σ, H, Q => tk σ H fun x H1 => tv σ H1 fun y H2 => tPairs r σ H2 fun ps H3 => Q ((x, y) :: ps) H3
abbrev VV : List (V × V) → List (Value × Value) → Prop := Paired fun p q => RelV p.1 q.1 ∧ RelV p.2 q.2
def PPs (X : Cx) (pos : Pos) (keys : List (Option Expr)) (values : List Expr) (trs : List (TE × TE)) : Prop :=
  ∀ (pins : List (Addr × Obj)) (s : Shared) (σ : St) (H : Hp) (Q : List (V × V) → Hp → Prop), Inv X pins σ H s → tPairs trs σ H Q →
    wpAny (model X.prog X.w) X.A (evalPairs (pairTrees keys values X.env pos)) (fun vs s' => ∃ ps H', Inv X pins σ H' s' ∧ VV ps vs ∧ Q ps H') X.xe s
def mergeK (kvs more : List (Key × V)) : List (Key × V) := more.foldl (fun acc kv => putK acc kv.1 kv.2) kvs
def tDisp (trs : List (TE × TE)) : TE := fun σ H Q => ∀ p, H p = none → tPairs trs σ (upd H p (.dK [])) fun ps H2 => H2 p = some (.dK []) ∧ ∃ kvs : List (Key × V), ps = kvs.map (fun kv => (kV kv.1, kv.2)) ∧ kvs.length ≤ 15 ∧ Q (.ref p) (upd H2 p (.dK (mergeK [] kvs)))
structure M1 (X : Cx) (o : Expr) (m : Str) (apos : Pos) (e : Expr) (cpos : Pos) : Prop where
  base : attributeBase o m X.env (eval o X.env) = eval o X.env
  few : ((backTo cpos (starEach [e] X.env)).all (fun x => !x.1) && (backToKw cpos (keywordEach [] X.env)).all (fun x => x.1.isSome)
    && decide (([e] : List Expr).length + ([] : List Keyword).length + (if ([] : List Keyword).isEmpty then 0 else 1) < 30)) = true
  line : (apos.endLine == cpos.line) = true
  trees : backTo cpos (starEach [e] X.env) = [(false, eval e X.env)]
structure M2 (X : Cx) (o : Expr) (m : Str) (apos : Pos) (e f : Expr) (cpos : Pos) : Prop where
  base : attributeBase o m X.env (eval o X.env) = eval o X.env
  few : ((backTo cpos (starEach [e, f] X.env)).all (fun x => !x.1) && (backToKw cpos (keywordEach [] X.env)).all (fun x => x.1.isSome)
    && decide (([e, f] : List Expr).length + ([] : List Keyword).length + (if ([] : List Keyword).isEmpty then 0 else 1) < 30)) = true
  line : (apos.endLine == cpos.line) = true
  trees : backTo cpos (starEach [e, f] X.env) = [(false, eval e X.env), (false, eval f X.env)]
def IsD (H : Hp) (a : Addr) : Prop := (∃ kvs, Rd H a (.dK kvs)) ∨ ∃ kvs, Rd H a (.dT kvs)
theorem isD_at {X : Cx} {pins : List (Addr × Obj)} {σ : St} {H : Hp} {s : Shared} {a : Addr} (I : Inv X pins σ H s) (d : IsD H a) :
    s.TypeIs (.ref a) "dict" ∧ (∀ b, Value.ref a = .ref b → ∃ ob, s.heap.get? b = some ob ∧ ob.dict = none) ∧ (a == sysModules) = false := by
  rcases d with ⟨kvs, e⟩ | ⟨kvs, e⟩
  · obtain ⟨_, hd, vs, _, dd⟩ := dk_rd I.hok e
    refine ⟨dd.typeIs, fun b q => ?_, hd⟩
    cases q
    obtain ⟨ob, _, _, h1, h2, _⟩ := dd
    exact ⟨ob, h1, h2.2.1⟩
  · obtain ⟨_, hd, xs, _, dd⟩ := dt_rd I.hok e
    refine ⟨dd.typeIs, fun b q => ?_, hd⟩
    cases q
    obtain ⟨ob, _, _, h1, h2, _⟩ := dd
    exact ⟨ob, h1, h2.2.1⟩
section
variable {X : Cx} {pins : List (Addr × Obj)} {σ : St} {H : Hp} {s : Shared} {a : Addr} {y d : V} {u r : Value} {o : Option V} {A : Around} {E : Value → Shared → Prop}
theorem d_get2 {Q : Value → Shared → Prop} (hu : A.units + 1 < cLine) (I : Inv X pins σ H s) (g : DGet H a y o) (ry : RelV y u) (rd : RelV d r) (h : ∀ w' s', Inv X pins σ H s' → RelV (o.getD d) w' → Q w' s') :
    wpAny (model X.prog X.w) A (call (.builtin "dict.get") [.ref a, u, r]) Q E s := by
  rcases g with ⟨kvs, k, e, ey, l⟩ | ⟨kvs, k, b, e, ey, eb, l⟩
  · subst ey
    obtain ⟨z, hd, vs, rel, dd⟩ := dk_rd I.hok e
    refine call_meetsIn PySem.F.slot_dict_get dd.typeIs PySem.F.entry_dict_get (PySem.F.args_dict_get_3 _ _ _) (meets_dict_get_default (mixKind X.prog X.w) a (kV_is ry) hd r) ⟨_, dd.mapOf, h _ _ (I.tok _) ?_⟩
    rw [l]
    exact (rel.val k).getD rd
  · subst ey
    cases (show u = Value.ref b from ry)
    obtain ⟨z, hd, xs, rel, dd⟩ := dt_rd I.hok e
    refine call_meetsIn PySem.F.slot_dict_get dd.typeIs PySem.F.entry_dict_get (PySem.F.args_dict_get_3 _ _ _) (meetsH_dict_get_default (tupleKind (mixKind X.prog X.w)) a b hd r) ⟨tupleKind_room_in1 hu, k, xs, key_of I.hok eb, dd, h _ _ (I.tok _) ?_⟩
    rw [l]
    exact (rel.val k).getD rd
end
def tDGet1 (td ty : TE) : TE := fun σ H Q => td σ H fun x H1 => ∃ a, x = .ref a ∧ IsD H1 a ∧ ty σ H1 fun y H2 => ∃ o, DGet H2 a y o ∧ Q (o.getD .non) H2
def tDGet2 (td ty tx : TE) : TE := fun σ H Q => td σ H fun x H1 => ∃ a, x = .ref a ∧ IsD H1 a ∧ ty σ H1 fun y H2 => tx σ H2 fun z H3 => ∃ o, DGet H3 a y o ∧ Q (o.getD z) H3
def tDPop1 (td ty : TE) : TE := fun σ H Q => td σ H fun x H1 => ∃ a, x = .ref a ∧ IsD H1 a ∧ ty σ H1 fun y H2 => ∃ kvs k v, H2 a = some (.dK kvs) ∧ y = kV k ∧ valV kvs k = some v ∧ Q v (upd H2 a (.dK (dropK kvs k)))
def tDPop2 (td ty tx : TE) : TE := fun σ H Q => td σ H fun x H1 => ∃ a, x = .ref a ∧ IsD H1 a ∧ ty σ H1 fun y H2 => tx σ H2 fun z H3 => ∃ kvs k, H3 a = some (.dK kvs) ∧ y = kV k ∧
  (∀ v, valV kvs k = some v → Q v (upd H3 a (.dK (dropK kvs k)))) ∧ (valV kvs k = none → Q z H3)
section
variable {X : Cx} {o e f : Expr} {apos cpos : Pos} {td ty tx : TE}
theorem pe_dget2 (hu : X.A.units + 1 < cLine) (ho : PE X o td) (he : PE X e ty) (hf : PE X f tx) (m : M2 X o "get" apos e f cpos) : PE X (.Call (.Attribute o "get" apos) [e, f] [] cpos) (tDGet2 td ty tx) := by
  intro pins s σ H Q I h
  refine wpAny_Call_method m.base m.few m.line PySem.F.plainAttrs_dict PySem.F.slot_dict_get PySem.F.type_dict_get (thn (ho pins s σ H _ I h) fun u s1 ⟨x, H1, I1, rx, a, ex, d, q1⟩ => ?_)
  subst ex
  obtain rfl : u = Value.ref a := rx
  obtain ⟨t1, t2, _⟩ := isD_at I1 d
  refine ⟨t1, t2, ?_⟩
  rw [m.trees]
  refine Calls.callWith_builtin rfl (Calls.evalArgs_plain (Calls.spliced_cons (thn (he pins s1 σ H1 _ I1 q1) fun iv s2 ⟨y, H2, I2, ry, q2⟩ =>
    Calls.spliced_cons (thn (hf pins s2 σ H2 _ I2 q2) fun fv s3 ⟨z, H3, I3, rz, ov, g, q3⟩ => Calls.spliced_nil ?_))))
  exact d_get2 hu I3 g ry rz fun w' s4 I4 rw' => ⟨_, H3, I4, rw', q3⟩
end
section
variable {X : Cx} {pins : List (Addr × Obj)} {σ : St} {H : Hp} {s : Shared} {a : Addr} {kvs : List (Key × V)} {A : Around} {E : Value → Shared → Prop}
theorem d_copyOf {Q : Value → Shared → Prop} (I : Inv X pins σ H s) (e : Rd H a (.dK kvs)) (h : ∀ p s', H p = none → Inv X pins σ (upd H p (.dK kvs)) s' → Q (.ref p) s') : wpAny (model X.prog X.w) A (call (.type "dict") [.ref a]) Q E s := by
  obtain ⟨z, hd, vs, rel, dd⟩ := dk_rd I.hok e
  refine kt_call_dict hd dd (by rw [← rel.length]; exact z) fun h' dd' hs => ?_
  refine h _ _ (I.hok.fresh (Nat.le_refl _)) (I.laid (a := s.heap.objs.size) (o := .dK kvs) (t' := s.toks) (fun b q hq => ?_) (Nat.le_refl _) (dk_new z (beq_eq_false_iff_ne.mpr (Ne.symm (Nat.ne_of_lt I.big))) rel dd'))
  exact (hs.2 b (Nat.ne_of_lt (Heap.lt_size hq))).trans (Heap.get?_push_of_some _ hq)
end
section
variable {X : Cx} {pins : List (Addr × Obj)} {σ : St} {H : Hp} {s : Shared} {a : Addr} {y : V} {u : Value} {A : Around} {E : Value → Shared → Prop}
end
end L2
namespace Att
open PySem PySem.W PySem.Calls PyProof.Rows
theorem ints_of_wellAll {P : Params} {h : Heap} : ∀ (ns : List Int) (vs : List Value), WellAll P h vs (ns.map WData.int) → IntsAre vs ns := by
  intro ns
  induction ns with
  | nil =>
    intro vs w
    rw [List.map_nil] at w
    cases w
    exact .nil
  | cons n ns ih =>
    intro vs w
    rw [List.map_cons] at w
    cases w with
    | cons a b =>
      cases a
      exact .cons _ _ (ih _ b)
theorem script_of {l : OpenLaw} {n : Nat} (hn : l.most = some n) {P : Params} {h : Heap} {args : List WData} {vals : List Value}
    (hpre : l.row.toRowW.claim.pre args = true) (hwl : WellAll P h vals args) :
    ∃ a vs ns, vals = [Value.ref a] ∧ args = [WData.list (ns.map WData.int)] ∧ h.get? a = some { cls := .type "list", data := .seq vs.toArray } ∧ IntsAre vs ns ∧ ns.length ≤ n := by
  have hsh : WShape.hasAll [] args [.list .int] = true := (pre_splitW hpre).1
  have hc : l.pre.holds [] { args := args } = true := (pre_splitW hpre).2
  obtain ⟨d, r, rfl, h1, h2⟩ := hasAllW_cons hsh
  obtain rfl := hasAllW_nil h2
  obtain ⟨xs, rfl, h3⟩ := hasW_list h1
  obtain ⟨ns, rfl⟩ := items_int h3
  have hlen : ns.length ≤ n := by
    unfold OpenLaw.pre at hc
    have h4 : (WTm.not (.lt (.lit (.int (n : Int))) (.len (.arg 0)))).holds [] { args := [.list (ns.map .int)] } = true := by
      have h4 := (holds_andW hc).1
      rw [hn] at h4
      exact h4
    have h5 := condW_of h4 (w_not (w_lt w_lit (w_len_list (w_arg rfl))))
    rw [List.length_map] at h5
    refine Nat.le_of_not_lt fun q => ?_
    have q' : (n : Int) < ((ns.length : Nat) : Int) := by omega
    first
      | (rw [decide_eq_true q'] at h5; exact absurd h5 (by decide))
      | (simp at h5; omega)
  cases hwl with
  | cons w1 w2 =>
    cases w2
    cases w1 with
    | list ho hall => exact ⟨_, _, ns, rfl, rfl, ho, ints_of_wellAll ns _ hall, hlen⟩
theorem post_true (l : OpenLaw) (args : List WData) : l.row.toRowW.claim.post args (.bool true) args = true :=
  postW_of (r := l.row.toRowW) (X := (true == true))
    (show WShape.has [] (.bool true) .bool = true by first | rfl | decide | simp [WShape.has, WShape.arms, WShape.armsAll])
    (show (WTm.eq .res (.lit (.bool true))).value [] { args := args, res := some (.bool true), after := args } = some (.bool (true == true)) from w_eq_bool (w_res rfl) w_lit) rfl
theorem attach_call {l : OpenLaw} {n : Nat} {q : Program} {loose : List Str} {XP : (Str → Option Value) → Heap → Prop} {YP : World → Heap → Prop} {d : DefRec}
    (hn : l.most = some n) (hdf : d.params.defaults = [])
    (call : ∀ (w : World) (s₀ s₁ : Shared) (mg mb : Str → Option Value) (fa : Addr) (o : Obj) (pm cd doc : Value) (a : Addr) (vs : List Value) (ns : List Int),
      Ground q loose [] XP w s₀ mg mb s₁.heap → YP w s₁.heap →
      s₁.heap.get? fa = some o → o.data = .func (docDef d.name d.params d.body d.scope pm cd doc) → s₁.heap.CodeRec cd d.name → mg d.name = some (.ref fa) →
      s₁.heap.get? a = some { cls := .type "list", data := .seq vs.toArray } → IntsAre vs ns → ns.length ≤ n → s₁.gens = #[] →
      codeAny (model l.prog w) callerA (.call (.ref fa) ⟨[.ref a], []⟩) (fun r s' => r = .ok (.ret (.bool true)) ∧ OldK s₁.heap s'.heap ∧ s'.os = s₁.os ∧ AllBare s'.gens) s₁) :
    WalkO q loose XP YP l.row.toRowW d [] (fun f vs => PySem.call f vs) := by
  intro w s₀ s₁ mg mb G Y fa o pm cd doc dV kV ho hd hcd hD hmg hg args vals as hpre hlay hrd hwl hlo
  obtain rfl : dV = .none := Dflts.none hD hdf
  obtain rfl : kV = .none := Dflts.noKw hD
  obtain ⟨a, vs, ns, rfl, rfl, hobj, hints, hlen⟩ := script_of hn hpre hwl
  refine enter_call (codeAny_mono (call w s₀ s₁ mg mb fa o pm cd doc a vs ns G Y ho (fd_plain hd) hcd hmg hobj hints hlen hg) fun r s' hq => ?_)
  obtain ⟨rfl, h2, h3, h4⟩ := hq
  exact ⟨.inl ⟨.bool true, .bool true, [], rfl, fun _ => rfl, .bool true, post_true l _, fun _ => ⟨List.Pairwise.nil, fun _ hm => (nomatch hm)⟩⟩, h2, h3, h4⟩
section
variable {prog : Program} {w : World} {A : Around} {E : Value → Shared → Prop} {s : Shared} {K : Frag}
def noObjs (h : Heap) : Heap := { h with objs := #[] }
def ledger (h : Heap) (L d : Addr) : List (Addr × Obj) := (List.range h.objs.size).filterMap fun a => if a = L ∨ a = d then none else (h.get? a).map fun o => (a, o)
end
end Att
namespace L2
open PySem PySem.Spec PyProof.Rows
theorem vals_ints : ∀ {vs : List Value} {ns : List Int}, IntsAre vs ns → Vals (ns.map V.int) vs
  | _, _, .nil => .nil
  | _, _, .cons n t h => .cons ⟨t, rfl⟩ (vals_ints h)
def Only (H : Hp) : Prop := ∀ b, H b = none ∨ ∃ o xs, H b = some (.frz o (.lst xs))
theorem law_call {P : Program} {w : World} {K : PySem.W.Frag} {mg mb : Str → Option Value} {CX : CXT} {k : Nat} {fa a : Addr} {fd : FuncData} {x : Str} {sp : Sp} {s₁ : Shared} {vs : List Value} {ns : List Int}
    (KX : K.In s₁.heap) (hns : s₁.heap.Ns mainGlobals mg) (hb : s₁.heap.Ns builtinsNs mb) (hbb : ∀ x : Str, x ≠ "__name__" → mb x = bootBuiltins x) (hlim : s₁.heap.NoLimit) (hg : s₁.gens = #[])
    (ha : s₁.heap.get? a = some { cls := .type "list", data := .seq vs.toArray }) (hi : IntsAre vs ns) (hl : ns.length ≤ sizeLine) (hr : Room k callerA)
    (F : ∀ base : Heap, K.In base → base.Ns mainGlobals mg → FnOk P w K mg base CX k fa fd [x] sp) (hbind : ∀ (s : Shared) (u : Value), BindsTo s fd ⟨[u], []⟩ [(x, u)])
    (hsp : ∀ H : Hp, Only H → SqL K H a (ns.map V.int) → sp [.ref a] H (fun v _ => v = .bl true) fun _ _ _ => False)
    (hCX : ∀ H e s', CX [] H s₁ (fun _ _ _ => False) e s' → False) :
    codeAny (model P w) callerA (.call (.ref fa) ⟨[.ref a], []⟩) (fun r s' => r = .ok (.ret (.bool true)) ∧ OldK s₁.heap s'.heap ∧ s'.os = s₁.os ∧ AllBare s'.gens) s₁ := by
  have rv := vals_ints hi
  have lenV := hi.length
  have core : ∀ H : Hp, Only H → SqL K H a (ns.map V.int) → HOk P w H s₁.heap → (∀ b, H b ≠ none → b = a) → (H a ≠ none → K.lookup a = none) →
      codeAny (model P w) callerA (.call (.ref fa) ⟨[.ref a], []⟩) (fun r s' => r = .ok (.ret (.bool true)) ∧ OldK s₁.heap s'.heap ∧ s'.os = s₁.os ∧ AllBare s'.gens) s₁ := by
    intro H hO hS hok hA hK
    have base_of : ∀ {b : Addr} {o : Obj}, s₁.heap.get? b = some o → H b = none → (hidT s₁.heap H).get? b = some o := fun e n => hidT_get e n
    have noA : ∀ {b : Addr} {o : Obj} {es : Array DictEntry} {ep : Nat}, s₁.heap.get? b = some o → o.data = .dict es ep → H b = none := fun {b o es ep} e d => by
      cases q : H b with
      | none => rfl
      | some u =>
        have e' : b = a := hA b (by rw [q]; simp)
        subst e'
        rw [ha] at e; cases e
        have d' : Data.seq vs.toArray _ = Data.dict es ep := d
        cases d'
    have nsK : ∀ {b : Addr} {m : Str → Option Value}, s₁.heap.Ns b m → (hidT s₁.heap H).Ns b m := fun {b m} ⟨o, es, ep, e, d, r⟩ => ⟨o, es, ep, base_of e (noA e d), d, r⟩
    have hKb : K.In (hidT s₁.heap H) := fun b o e => base_of (KX b o e) (by
      cases q : H b with
      | none => rfl
      | some u =>
        have e' : b = a := hA b (by rw [q]; simp)
        subst e'
        rw [hK (by rw [q]; simp)] at e; cases e)
    have hM : Mod K mg (hidT s₁.heap H) := ⟨hKb, nsK hns, ⟨mb, nsK hb, hbb⟩, let ⟨mc, h1, h2⟩ := hlim; ⟨mc, nsK h1, h2⟩⟩
    have e0 : Env0 P w K mg (hidT s₁.heap H) callerA [] s₁ H := ⟨rfl, hM, fun b o e => of_hidT e, Nat.le_of_eq (hidT_size _ _), trivial, fun b hb => absurd (show b ∈ ([] : List Addr) from hb) (by simp), hok, .of_eq hg⟩
    refine codeAny_mono ((F _ hKb (nsK hns)).run callerA [] s₁ H ⟨[.ref a], []⟩ [.ref a] [.ref a] _ _ hr e0 (hbind s₁ (.ref a)) (.cons rfl .nil) (hsp H hO hS)) fun r s' h => ?_
    cases r with
    | error e => exact (hCX H e s' h).elim
    | ok fl =>
      cases fl with
      | next => exact False.elim h
      | brk => exact False.elim h
      | cont => exact False.elim h
      | ret u =>
        obtain ⟨v, H', os, bare, un, hok', r', q⟩ := h
        have q' : v = .bl true := q
        subst q'
        obtain rfl : u = Value.bool true := r'
        refine ⟨rfl, OldK.of_keep fun b o e => ?_, os, bare⟩
        cases q : H b with
        | none => exact un.keep b o e q (by intro z; exact absurd (show b ∈ ([] : List Addr) from z) (by simp)) (by simp)
        | some u =>
          rcases hO b with z | ⟨ob, xs, z⟩
          · rw [q] at z; cases z
          · have z2 := un.frzs b ob _ z
            obtain ⟨e1, _⟩ := hok b _ z
            obtain ⟨e2, _⟩ := hok' b _ z2
            rw [e] at e1; cases e1
            exact e2
  cases hk : K.lookup a with
  | some o =>
    have e := KX a o hk
    rw [ha] at e
    cases e
    refine core (fun _ => none) (fun _ => .inl rfl) (.inr ⟨_, vs.toArray, _, hk, rfl, rfl, rfl, by rw [List.size_toArray, lenV]; exact hl, by simpa using rv⟩) (fun b u z => by have z' : (none : Option HO) = some u := z; cases z') (fun b z => absurd rfl z) fun z => absurd rfl z
  | none =>
    refine core (fun b => if b = a then some (.frz { cls := .type "list", data := .seq vs.toArray } (.lst (ns.map V.int))) else none) (fun b => ?_) (.inl (.inr ⟨{ cls := .type "list", data := .seq vs.toArray }, if_pos rfl⟩)) (fun b u z => ?_) (fun b z => ?_) fun _ => hk
    · by_cases hb : b = a
      · exact .inr ⟨_, _, if_pos hb⟩
      · exact .inl (if_neg hb)
    · by_cases hb : b = a
      · have z' := (if_pos hb).symm.trans z
        cases z'
        subst hb
        exact ⟨ha, by rw [List.length_map]; exact hl, vs, _, rv, ha⟩
      · have z' := (if_neg hb).symm.trans z
        cases z'
    · by_cases hb : b = a
      · exact hb
      · exact absurd (if_neg hb) z
end L2
namespace L2
open PySem PySem.Spec PyProof.Rows
abbrev KOf {K : PySem.W.Frag} {h : Heap} (_ : K.In h) : PySem.W.Frag := K
theorem walk_of {l : PySem.W.OpenLaw} {n k : Nat} {q : Program} {loose : List Str} {XP : (Str → Option Value) → Heap → Prop} {YP : World → Heap → Prop} {d : DefRec} {K : Params → PySem.W.Frag} {CX : World → CXT} {sp : World → Sp} {x : Str}
    (hn : l.most = some n) (hn2 : n ≤ sizeLine) (hdf : d.params.defaults = []) (hr : Room k callerA)
    (hY : ∀ (w : World) (h : Heap), YP w h → (K w.params).In h)
    (F : ∀ (w : World) (mg : Str → Option Value) (fa : Addr) (h : Heap), (K w.params).In h → h.Ns mainGlobals mg → mg d.name = some (.ref fa) →
      ∃ fd : FuncData, (∀ (s : Shared) (u : Value), BindsTo s fd ⟨[u], []⟩ [(x, u)]) ∧
        ∀ base : Heap, (K w.params).In base → base.Ns mainGlobals mg → FnOk l.prog w (K w.params) mg base (CX w) k fa fd [x] (sp w))
    (hsp : ∀ (w : World) (H : Hp) (a : Addr) (ns : List Int), ns.length ≤ n → Only H → SqL (K w.params) H a (ns.map V.int) → sp w [.ref a] H (fun v _ => v = .bl true) fun _ _ _ => False)
    (hCX : ∀ (w : World) (H : Hp) (s : Shared) (e : Value) (s' : Shared), CX w [] H s (fun _ _ _ => False) e s' → False) :
    PySem.W.WalkO q loose XP YP l.row.toRowW d [] (fun f vs => PySem.call f vs) := by
  refine Att.attach_call hn hdf fun w s₀ s₁ mg mb fa o pm cd doc a vs ns G Y ho hd hcd hmg hobj hints hlen hg => ?_
  have KX := hY w _ Y
  obtain ⟨fd, hb, hF⟩ := F w mg fa _ KX G.T.g hmg
  exact law_call KX G.T.g G.T.b G.T.builtins G.T.nolimit hg hobj hints (Nat.le_trans hlen hn2) hr hF hb (fun H hO hS => hsp w H a ns hlen hO hS) fun H e s' => hCX w H s₁ e s'
end L2
namespace L2
open PySem PySem.Spec PyProof.Rows
def inClass (s : Stmt) (j : Nat) : Stmt := match s with
  | .ClassDef _ _ _ body _ _ _ _ _ _ _ => body.getD j (.Pass ⟨0, 0, 0, 0⟩)
  | _ => .Pass ⟨0, 0, 0, 0⟩
def defArgs (s : Stmt) : Arguments := match s with
  | .FunctionDef _ a _ _ _ _ _ _ _ _ => a
  | _ => { posonlyargs := [], args := [], vararg := none, kwonlyargs := [], kw_defaults := [], kwarg := none, defaults := [] }
def defBody (s : Stmt) : List Stmt := match s with
  | .FunctionDef _ _ b _ _ _ _ _ _ _ => b
  | _ => []
def defScope (s : Stmt) : Scope := match s with
  | .FunctionDef _ _ _ _ _ _ sc _ _ _ => sc
  | _ => { kind := .function, names := [], isGenerator := false, isCoroutine := false }
abbrev CX0 : CXT := fun _ _ _ _ _ _ => False
abbrev E0 : XK := fun _ _ _ => False
theorem pass0 {X : Cx} : Passes CX0 X E0 := fun _ _ _ _ _ _ _ h => h.elim
structure Fun (K : PySem.W.Frag) (x qual : Str) (st : Stmt) (f : Addr) (fd : FuncData) : Prop where
  ex : ∃ (oc : Value) (od : Option Addr) (kV doc pm : Value) (an : Option Addr) (cdv ct : Value) (osl : Array (Option Value)),
    fd = PySem.W.fnOf x qual (defArgs st) (defBody st) (defScope st) .none kV doc pm an cdv ct ∧ K.lookup f = some ⟨oc, od, .func fd, osl⟩ ∧ PySem.W.codeIn K cdv qual = true
  kp : PySem.W.keepIn K (.ref f) = true
section
variable {P : Program} {w : World} {K : PySem.W.Frag} {mg : Str → Option Value} {base : Heap}
theorem Fun.ok {x qual : Str} {st : Stmt} {f : Addr} {fd : FuncData} {N ps : List Str} {k : Nat} {sp : Sp} (F : Fun K x qual st f fd) (S : FnScope N ps (defScope st)) (len : ∀ vs H Q E, sp vs H Q E → vs.length = ps.length)
    (hbody : ∀ (cdv : Value) (A : Around) (outer : List Env) (s : Shared) (H : Hp) (vs : List V) (Q : VK) (E : XK), Room k (A.deeper (envOfC qual (defScope st) s.heap.objs.size f cdv)) → sp vs H Q E →
      ∃ t, PSs (cxOf CX0 P w K mg base N qual (defScope st) f cdv A outer s H E).nox (defBody st) t ∧ t { nx := fun _ H' => Q .non H', rt := Q } (start N vs) H) : FnOk P w K mg base CX0 (k + 1) f fd ps sp := by
  obtain ⟨oc, od, kV, doc, pm, an, cdv, ct, osl, rfl, lk, hcd⟩ := F.ex
  refine fn_of lk hcd S len fun A outer s H vs Q E hr hsp => ?_
  obtain ⟨t, h, q⟩ := hbody cdv A outer s H vs Q E hr hsp
  exact ⟨t, h.nox, q⟩
theorem Fun.binds {x qual : Str} {st : Stmt} {f : Addr} {fd : FuncData} {ps : List Str} (F : Fun K x qual st f fd)
    (h : ∀ (kV doc pm : Value) (an : Option Addr) (cdv ct : Value) (us : List Value), us.length = ps.length → bindArgs (PySem.W.fnOf x qual (defArgs st) (defBody st) (defScope st) .none kV doc pm an cdv ct) ⟨us, []⟩ = pure (ps.zip us)) : Binds K fd ps [] := by
  obtain ⟨oc, od, kV, doc, pm, an, cdv, ct, osl, rfl, lk, hcd⟩ := F.ex
  exact .all (h kV doc pm an cdv ct)
theorem fun_mk {x qual : Str} {st : Stmt} {f : Addr} {oc : Value} {od an : Option Addr} {osl : Array (Option Value)} {kV doc pm cdv ct : Value} (l : K.lookup f = some ⟨oc, od, .func (PySem.W.fnOf x qual (defArgs st) (defBody st) (defScope st) .none kV doc pm an cdv ct), osl⟩)
    (c : PySem.W.codeIn K cdv qual = true) (k : PySem.W.keepIn K (.ref f) = true) : Fun K x qual st f (PySem.W.fnOf x qual (defArgs st) (defBody st) (defScope st) .none kV doc pm an cdv ct) := ⟨⟨oc, od, kV, doc, pm, an, cdv, ct, osl, rfl, l, c⟩, k⟩
end
theorem hu_of {A : Around} {k : Nat} (hr : Room k A) : A.units + 1 < cLine := Nat.lt_of_le_of_lt (Nat.add_le_add_left (by decide : 1 ≤ 64) _) hr.units
theorem small1000 {n : Nat} (h : n ≤ 1000) : n < sizeLine := Nat.lt_of_le_of_lt h (by decide)
section
variable {X : Cx}
theorem pv (i : Nat) {x : Str} {pos : Pos} (hN : X.N[i]? = some x := by rfl) (hv : Vis X.env.scope x := by first | exact Or.inl rfl | exact Or.inr (Or.inl rfl) | exact Or.inr (Or.inr rfl)) (hd : (x == ("__debug__" : Str)) = false := by decide)
    (hcd : (x == ("__classdict__" : Str)) = false := by decide) : PE X (.Name x pos) (tVar i) := pe_var hN hv hd hcd
end
theorem iteF {A B : Prop} (h : B) : if false = true then A else B := by
  rw [if_neg Bool.false_ne_true]
  exact h
theorem iteT {A B : Prop} (h : A) : if true = true then A else B := by
  rw [if_pos rfl]
  exact h
theorem ite2 {c A B : Prop} [Decidable c] (h1 : c → A) (h2 : ¬ c → B) : if c then A else B := by
  by_cases h : c
  · rw [if_pos h]
    exact h1 h
  · rw [if_neg h]
    exact h2 h
def Same (H H' : Hp) : Prop := ∀ b o, H b = some o → H' b = some o
theorem Same.refl (H : Hp) : Same H H := fun _ _ h => h
theorem Same.trans {H H1 H2 : Hp} (a : Same H H1) (b : Same H1 H2) : Same H H2 := fun c o h => b c o (a c o h)
theorem Same.free {H H' : Hp} (e : Same H H') {l : Addr} (h : H' l = Option.none) : H l = Option.none := by
  cases q : H l with
  | none => rfl
  | some o =>
    rw [e l o q] at h
    cases h
theorem Same.seq {K : PySem.W.Frag} {H H' : Hp} {a : Addr} {xs : List V} (e : Same H H') (h : SqL K H a xs) : SqL K H' a xs := by
  rcases h with (h | ⟨o, h⟩) | h
  · exact .inl (.inl (e _ _ h))
  · exact .inl (.inr ⟨o, e _ _ h⟩)
  · exact .inr h
section
variable {κ : Type} [DecidableEq κ]
end
end L2
set_option Elab.async false
set_option linter.all false
set_option maxRecDepth 100000
set_option maxHeartbeats 4000000
namespace L2
open PySem PySem.Spec PyProof.Rows
abbrev NoX : Value → Shared → Prop := fun _ _ => False
theorem noX {al : Type} {t : Sem al} {Q : al → Shared → Prop} {M : Model} {A : Around} {E : Value → Shared → Prop} {s : Shared} (h : wpAny M A t Q NoX s) : wpAny M A t Q E s :=
  wpAny_mono h (fun _ _ q => q) fun _ _ z => z.elim
def capSt (cap : List (Option Nat)) (σ : St) : St := cap.map fun o => match o with
  | none => none
  | some j => (σ[j]?).join
inductive Ext : St → St → Prop
  | nil : Ext [] []
  | skip {a b : St} {x : Option V} : Ext a b → Ext (none :: a) (x :: b)
  | keep {a b : St} {x : Option V} : Ext a b → Ext (x :: a) (x :: b)
theorem Ext.len {a b : St} (h : Ext a b) : a.length = b.length := by
  induction h with
  | nil => rfl
  | skip _ ih => simp [ih]
  | keep _ ih => simp [ih]
theorem Ext.get {a b : St} (h : Ext a b) : ∀ (i : Nat) v, a[i]? = some (some v) → b[i]? = some (some v) := by
  induction h with
  | nil => intro i v e; simp at e
  | skip _ ih =>
    intro i v e
    cases i with
    | zero => simp at e
    | succ i => simpa using ih i v (by simpa using e)
  | keep _ ih =>
    intro i v e
    cases i with
    | zero => simpa using e
    | succ i => simpa using ih i v (by simpa using e)
def Cx.block (X : Cx) (sc : Scope) (cl : List (Str × Addr)) (N : List Str) (s : Shared) (H : Hp) (C : Addr) (ex : List Addr) : Cx where
  prog := X.prog
  w := X.w
  K := X.K
  mg := X.mg
  base := X.base
  A := X.A
  N := N
  s₀ := s
  H₀ := H
  env := compEnvC sc cl C X.env
  outer := X.stack
  stack := X.stack
  ex := ex
  fn := fun _ => false
  calm := X.calm
  pn := []
  xe := NoX
theorem closure_ok {env : Env} : ∀ (names : List (Str × NameKind)) (cs : List (Str × Addr)), (∀ n, (n, NameKind.free) ∈ names → ∃ c, env.cells.lookup n = some c) →
    (∀ x c, cs.lookup x = some c → env.cells.lookup x = some c) →
    ∃ cl : List (Str × Addr), (forIn names cs fun (x : Str × NameKind) (r : List (Str × Addr)) => (if (x.2 == NameKind.free) = true then do let c ← cellOf env x.1; pure (ForInStep.yield ((x.1, c) :: r)) else pure (ForInStep.yield r)) : Sem (List (Str × Addr))) = pure cl ∧
      (∀ x c, cl.lookup x = some c → env.cells.lookup x = some c) ∧ (∀ n, (n, NameKind.free) ∈ names → ∃ c, cl.lookup n = some c) ∧ (∀ n c, cs.lookup n = some c → ∃ c, cl.lookup n = some c)
  | [], cs, _, hc => ⟨cs, rfl, hc, fun _ h => (nomatch h), fun n c e => ⟨c, e⟩⟩
  | (n, k) :: r, cs, h, hc => by
    by_cases hk : k = .free
    · subst hk
      obtain ⟨c, ec⟩ := h n List.mem_cons_self
      have hc' : ∀ x c', ((n, c) :: cs).lookup x = some c' → env.cells.lookup x = some c' := fun x c' e => by
        rw [List.lookup_cons] at e
        cases hx : x == n with
        | true => rw [hx] at e; cases e; rw [eq_of_beq hx]; exact ec
        | false => rw [hx] at e; exact hc x c' e
      obtain ⟨cl, e1, e2, e3, e4⟩ := closure_ok r ((n, c) :: cs) (fun m hm => h m (List.mem_cons_of_mem _ hm)) hc'
      refine ⟨cl, ?_, e2, fun m hm => ?_, fun m c' e => ?_⟩
      · rw [List.forIn_cons, ← e1]
        simp only [beq_self_eq_true, if_true, cellOf, ec]
        rfl
      · rcases List.mem_cons.mp hm with z | z
        · cases z
          exact e4 n c (by simp)
        · exact e3 m z
      · by_cases hm : m = n
        · subst hm; exact e4 m c (by simp)
        · exact e4 m c' (by rw [List.lookup_cons, beq_eq_false_iff_ne.mpr hm]; exact e)
    · have hb : (k == NameKind.free) = false := by simpa using hk
      obtain ⟨cl, e1, e2, e3, e4⟩ := closure_ok r cs (fun m hm => h m (List.mem_cons_of_mem _ hm)) hc
      refine ⟨cl, ?_, e2, fun m hm => ?_, e4⟩
      · rw [List.forIn_cons, ← e1]
        simp only [hb, Bool.false_eq_true, if_false]
        rfl
      · rcases List.mem_cons.mp hm with z | z
        · cases z; exact absurd rfl hk
        · exact e3 m z
theorem closure_of {sc : Scope} {env : Env} (h : ∀ n, (n, NameKind.free) ∈ sc.names → ∃ c, env.cells.lookup n = some c) :
    ∃ cl : List (Str × Addr), closureFor sc env = pure cl ∧ (∀ x c, cl.lookup x = some c → env.cells.lookup x = some c) ∧ (∀ n, (n, NameKind.free) ∈ sc.names → ∃ c, cl.lookup n = some c) := by
  obtain ⟨cl, e1, e2, e3, _⟩ := closure_ok (env := env) sc.names [] h (fun x c e => by simp at e)
  refine ⟨cl, ?_, e2, e3⟩
  unfold closureFor
  rw [← bind_pure (pure cl), ← e1]
theorem lookup_mem {names : List (Str × NameKind)} {x : Str} {k : NameKind} (h : names.lookup x = some k) : (x, k) ∈ names := by
  induction names with
  | nil => simp at h
  | cons p r ih =>
    obtain ⟨n, j⟩ := p
    rw [List.lookup_cons] at h
    cases hx : x == n with
    | true => rw [hx] at h; cases h; rw [eq_of_beq hx]; exact List.mem_cons_self
    | false => rw [hx] at h; exact List.mem_cons_of_mem _ (ih h)
theorem relabel_free {sc : Scope} {env : Env} {x : Str} {k : NameKind} (hk : k = .cell ∨ k = .free) (nc : ∀ y ∈ sc.names, y.2 ≠ .cell) (h : (relabel sc env).names.lookup x = some k) : (x, NameKind.free) ∈ sc.names := by
  have m := lookup_mem h
  obtain ⟨⟨n, j⟩, hm, e⟩ := List.mem_map.mp m
  have q : (if (j == NameKind.free && env.scope.kind == .function && env.kindOf n == some .cell) = true then (n, NameKind.cell) else (n, j)) = (x, k) := e
  split at q
  · rename_i c
    rw [Bool.and_eq_true, Bool.and_eq_true] at c
    have j' : j = .free := by simpa using c.1.1
    cases q
    rw [j'] at hm
    exact hm
  · cases q
    rcases hk with z | z
    · exact absurd z (nc _ hm)
    · rw [z] at hm; exact hm
theorem lookup_relabel_free {sc : Scope} {env : Env} {x : Str} : ∀ {names : List (Str × NameKind)}, names.lookup x = some .free →
    (names.map fun (n, k) => if (k == NameKind.free && env.scope.kind == .function && env.kindOf n == some .cell) then (n, NameKind.cell) else (n, k)).lookup x = some .cell ∨
    (names.map fun (n, k) => if (k == NameKind.free && env.scope.kind == .function && env.kindOf n == some .cell) then (n, NameKind.cell) else (n, k)).lookup x = some .free
  | [], h => by simp at h
  | (n, k) :: r, h => by
    have ih := @lookup_relabel_free sc env x r
    rw [List.lookup_cons] at h
    by_cases c : (k == NameKind.free && env.scope.kind == .function && env.kindOf n == some .cell) = true
    · rw [List.map_cons]
      simp only [c, if_true, List.lookup_cons]
      cases hx : x == n with
      | true => exact .inl rfl
      | false => rw [hx] at h; exact ih h
    · rw [List.map_cons]
      have c' := Bool.eq_false_iff.mpr c
      simp only [c', Bool.false_eq_true, if_false, List.lookup_cons]
      cases hx : x == n with
      | true => rw [hx] at h; cases h; exact .inr rfl
      | false => rw [hx] at h; exact ih h
theorem comp_loop {P : Program} {w : World} {A : Around} {R : Result → Shared → Prop} {s : Shared} {elt tg iter : Expr} {ifs : List Expr} {sc : Scope} {pos : Pos} {it acc : Value} {env : Env} (J : Nat → Shared → Prop)
    (turn : ∀ n s, J n s → wpAny (model P w) A (pyNext it) (fun r s1 => match r with
      | none => R (.ok .next) s1
      | some v => wpAny (model P w) A (letOwnedTupleGo tg it v) (fun _ s2 => wpAny (model P w) A (assign tg env v) (fun _ s3 =>
          wpAny (model P w) A (forIn ifs true fun c r => if r = true then do let ok ← isTrue c env (eval c env); pure (ForInStep.yield ok) else pure (ForInStep.yield r)) (fun ok s4 =>
            if ok = true then wpAny (model P w) A (eval elt env) (fun x s5 => wpAny (model P w) A (call (.builtin "list.append") [acc, x]) (fun _ s6 => ∃ m, m < n ∧ J m s6) NoX s5) NoX s4
            else ∃ m, m < n ∧ J m s4) NoX s3) NoX s2) NoX s1) NoX s) (n : Nat) (h : J n s) :
    codeAny (model P w) A (.compLoop (.ListComp elt [⟨tg, iter, ifs, 0⟩] sc pos) 0 it acc env) R s := by
  refine codeAny_loop rfl J (fun n s hJ => ?_) n h
  refine wpAny_noted ?_
  rw [compTurn_list]
  refine wpAny_bind (wpAny_standAt (wpAny_bind (noX (thn (turn n s hJ) fun r s1 h1 => ?_))))
  cases r with
  | none => exact wpAny_pure h1
  | some v =>
    refine wpAny_bind (noX (thn h1 fun _ s2 h2 => ?_))
    refine wpAny_bind (noX (thn h2 fun _ s3 h3 => ?_))
    refine wpAny_bind (noX (thn h3 fun ok s4 h4 => ?_))
    cases ok with
    | false => exact wpAny_pure ⟨rfl, h4⟩
    | true => exact wpAny_bind (wpAny_bind (noX (thn h4 fun x s5 h5 => wpAny_bind (noX (thn h5 fun _ s6 h6 => wpAny_pure (wpAny_pure ⟨rfl, h6⟩))))))
def PTs (X : Cx) (ifs : List Expr) (t : TT) : Prop :=
  ∀ (pins : List (Addr × Obj)) (s : Shared) (σ : St) (H : Hp) (Q : Bool → Hp → Prop), Inv X pins σ H s → t σ H Q →
    wpAny (model X.prog X.w) X.A (forIn ifs true fun c r => if r = true then do let ok ← isTrue c X.env (eval c X.env); pure (ForInStep.yield ok) else pure (ForInStep.yield r)) (TP X pins σ Q) X.xe s
def tYes : TT := fun _ H Q => Q true H
theorem pts_nil {X : Cx} : PTs X [] tYes := fun _ _ _ H _ I h => wpAny_tests_nil ⟨H, I, h⟩
def tComp (cap : List (Option Nat)) (wi : TI) (g : TG) (tt : TT) (te : TE) : TE := fun σ H Q => wi σ H fun J H1 => ∀ acc, H1 acc = none →
  ∃ W : Nat → Nat → Hp → Prop, (∃ m, W 0 m (upd H1 acc (.lst []))) ∧ ∀ i m H2, W i m H2 →
    (J.stop i H2 ∧ Q (.ref acc) H2) ∨ (J.go i H2 ∧ ∃ N : Hp → Prop, (∀ H', N H' → ∃ m', m' < m ∧ W (i + 1) m' H') ∧ ∀ x H3, J.yld i H2 x H3 → g x (capSt cap σ) H3 fun σ2 H4 => Ext (capSt cap σ) σ2 ∧ tt σ2 H4 fun b H5 =>
      if b = true then te σ2 H5 fun y H6 => ∃ zs, H6 acc = some (.lst zs) ∧ zs.length < sizeLine ∧ N (upd H6 acc (.lst (zs ++ [y])))
      else N H5)
theorem HOk.but {P : Program} {w : World} {H : Hp} {h h' : Heap} {C : Addr} (x : HOk P w H h) (n : H C = none) (sb : Heap.SameBut C h h') : HOk P w H h' := fun a o e =>
  (x a o e).stay (fun b u hb q => (sb.2 b (fun z => by
    subst z
    rcases hb with z | z
    · subst z; rw [n] at e; cases e
    · rw [n] at z; cases z)).trans q) (fun _ q => q) fun _ _ q => q
theorem Un.but {fs ex : List Addr} {H H' : Hp} {h h1 h2 : Heap} {C : Addr} (u : Un fs ex H H' h h1) (lt : h.objs.size ≤ C) (sb : Heap.SameBut C h1 h2) : Un fs ex H H' h h2 := by
  have ne : ∀ b o, h.get? b = some o → b ≠ C := fun b o e => Nat.ne_of_lt (Nat.lt_of_lt_of_le (Heap.lt_size e) lt)
  refine ⟨fun b o e n hb hx => (sb.2 b (ne b o e)).trans (u.keep b o e n hb hx), fun b o e n hb hx => ?_, u.free, fun b o e hx => ?_, u.tups, u.frzs, u.tbls⟩
  · obtain ⟨sl, q⟩ := u.slot b o e n hb hx
    exact ⟨sl, (sb.2 b (ne b o e)).trans q⟩
  · obtain ⟨o', q⟩ := u.there b o e hx
    exact ⟨o', (sb.2 b (ne b o e)).trans q⟩
section
variable {X : Cx}
theorem block_ok {pins : List (Addr × Obj)} {σ : St} {H : Hp} {s : Shared} {sc : Scope} {cl : List (Str × Addr)} {N : List Str} {C : Addr} {fp : List Addr} (I : Inv X pins σ H s) (hk : sc.kind = .function) (nc : ∀ y ∈ sc.names, y.2 ≠ .cell)
    (hC : s.heap.objs.size ≤ C) (hf : ∀ b ∈ fp, FpOk X pins H b) (hfo : ∀ b ∈ fp, ∃ o, s.heap.get? b = some o) (c1 : ∀ x c, cl.lookup x = some c → X.env.cells.lookup x = some c) (c2 : ∀ n, (n, NameKind.free) ∈ sc.names → ∃ c, cl.lookup n = some c) :
    (X.block sc cl N s H C fp).Ok where
  mod := I.ok.mod
  kind := hk
  glob := I.ok.glob
  blt := I.ok.blt
  above := hC
  inj := fun x y c e e' => I.ok.inj x y c (c1 x c e) (c1 y c e')
  has := fun x h => c2 x (h.elim (relabel_free (.inl rfl) nc) (relabel_free (.inr rfl) nc))
  cab := fun x c e => (nomatch e)
  hd := I.ok.hd
  frames := I.ok.frames
  stk := .inl rfl
  exf := fun b hb => ⟨fun z => by
    obtain ⟨o, e⟩ := hfo b hb
    have lt := Heap.lt_size e
    rw [z] at lt
    exact absurd (Nat.lt_of_lt_of_le lt hC) (Nat.lt_irrefl _), fun x c e => (hf b hb).2.2.2.2.1 x c (c1 x c e)⟩
  bs := I.bs
  bsz := Nat.le_trans I.ok.bsz I.sz
  noex := fun b o e hb => by
    rcases (hf b hb).2.2.2.1 with z | z
    · exact I.ok.noex b o e z
    · exact absurd (Nat.lt_of_lt_of_le (Heap.lt_size (I.ok.bs b o e).1) z) (Nat.lt_irrefl _)
  exfs := fun b hb hs => by
    rcases List.mem_cons.mp (I.stkSub b hs) with z | z
    · exact (hf b hb).2.1 z
    · exact (hf b hb).2.2.1 z
  funs := I.stack
  frf := I.stkFree
theorem pe_comp {elt tg iter : Expr} {ifs : List Expr} {sc : Scope} {pos : Pos} {wi : TI} {g : TG} {tt : TT} {te : TE} (N : List Str) (cap : List (Option Nat)) (hc : X.calm = true) (hi : PI X tg iter wi)
    (hg : ∀ cl s H C ex, PG (X.block sc cl N s H C ex) tg g) (ht : ∀ cl s H C ex, PTs (X.block sc cl N s H C ex) ifs tt) (he : ∀ cl s H C ex, PE (X.block sc cl N s H C ex) elt te)
    (hk : sc.kind = .function) (nc : ∀ y ∈ sc.names, y.2 ≠ .cell) (hnames : ∀ y ∈ sc.names, y.2 = .local → sc.names.lookup y.1 = some .local)
    (hfree : ∀ n, (n, NameKind.free) ∈ sc.names → X.env.kindOf n = some .cell)
    (hcap : ∀ (i j : Nat), cap[i]? = some (some j) → ∃ x, N[i]? = some x ∧ X.N[j]? = some x ∧ sc.names.lookup x = some .free) (hlen : cap.length = N.length)
    (hs : ∀ x, foldedSetIterable iter X.env x = pure x := by intro _; rfl) : PE X (.ListComp elt [⟨tg, iter, ifs, 0⟩] sc pos) (tComp cap wi g tt te) := by
  intro pins s σ H Q I h
  obtain ⟨cl, hclos, c1, c2⟩ := closure_of (sc := sc) (env := X.env) fun n hn => I.ok.has n (.inl (hfree n hn))
  rw [eval_ListComp]
  refine wpAny_comprehension_free (use := none) rfl hs hclos hk hnames ?_
  refine thn (hi pins s σ H _ I h) fun v s1 h1 => thn h1 fun itv s2 h2 => ?_
  obtain ⟨it, fp, tn, J, H2, e, I2, T, st2, f2, q2⟩ := h2
  subst e
  have hfr : H2 s2.heap.objs.size = none := I2.fresh
  obtain ⟨W, ⟨m0, w0⟩, turn⟩ := q2 s2.heap.objs.size hfr
  have I3 := I2.lnew (ys := []) (its := []) (t' := s2.toks) .nil (Nat.zero_le _)
  have hacc : H2 s2.heap.objs.size = none := hfr
  refine wpAny_newObj_type (wpAny_newFunctionEnv nc (by intro y hy; simp at hy) (fun h4 hns hsb => ?_) hk)
  generalize hs3 : ({ s2 with heap := s2.heap.push { cls := .type "list", data := .seq ([] : List Value).toArray } } : Shared) = s3 at hns hsb I3 ⊢
  have hheap : s3.heap = s2.heap.push { cls := .type "list", data := .seq ([] : List Value).toArray } := by rw [← hs3]
  generalize hH3 : upd H2 s2.heap.objs.size (.lst []) = H3 at I3 w0
  have up2 : ∀ b o, s2.heap.get? b = some o → s3.heap.get? b = some o := fun b o q => by rw [hheap]; exact Heap.get?_push_of_some _ q
  have neA : ∀ b ∈ fp, b ≠ s2.heap.objs.size := fun b hb => by
    obtain ⟨o, q, _⟩ := T.obj _ _ st2 b hb
    exact Nat.ne_of_lt (Heap.lt_size q)
  have f3 : ∀ b ∈ fp, FpOk X pins H3 b := fun b hb => ⟨by rw [← hH3, upd_ne (neA b hb)]; exact (f2 b hb).1, (f2 b hb).2⟩
  have o3 : ∀ b ∈ fp, ∃ o, s3.heap.get? b = some o := fun b hb => by
    obtain ⟨o, q, _⟩ := T.obj _ _ st2 b hb
    exact ⟨o, up2 b o q⟩
  have ok' := block_ok (N := N) (C := s3.heap.objs.size) I3 hk nc (Nat.le_refl _) f3 o3 c1 c2
  generalize hC : s3.heap.objs.size = C at hns hsb ok' ⊢
  have ltC : ∀ b o, s3.heap.get? b = some o → b ≠ C := fun b o q => by rw [← hC]; exact Nat.ne_of_lt (Heap.lt_size q)
  have up4 : ∀ b o, s3.heap.get? b = some o → h4.get? b = some o := fun b o q => hsb.extBut b o (ltC b o q) (Heap.get?_push_of_some _ q)
  have st4 : tn 0 h4 := T.keep _ _ _ st2 fun b hb o q => up4 b o (up2 b o q)
  have I4 : Inv (X.block sc cl N s3 H3 C fp) [] (capSt cap σ) H3 { s3 with heap := h4, toks := s3.toks + ([] : List (Str × Value)).length } := by
    refine ⟨ok', rfl, I3.bare, Un.kept up4, ⟨_, hns, fun i x v e1 e2 e3 => ?_⟩, fun x c q => ?_, ?_, fun x c q => I3.freeC x c (c1 x c q), fun p hp => (nomatch hp), I3.hok.kept up4, ?_⟩
    · have ee : ∃ j, cap[i]? = some (some j) ∧ σ[j]? = some (some v) := by
        unfold capSt at e2
        rw [List.getElem?_map] at e2
        cases q : cap[i]? with
        | none => rw [q] at e2; cases e2
        | some o =>
          rw [q] at e2
          cases o with
          | none => cases e2
          | some j =>
            refine ⟨j, rfl, ?_⟩
            have e2' : some ((σ[j]?).join) = some (some v) := e2
            cases z : σ[j]? with
            | none => rw [z] at e2'; cases e2'
            | some o' =>
              rw [z] at e2'
              have e2'' : o' = some v := Option.some.inj e2'
              rw [e2'']
      obtain ⟨j, ej, es⟩ := ee
      obtain ⟨x', n1, n2, n3⟩ := hcap i j ej
      have e1' : N[i]? = some x := e1
      rw [n1] at e1'
      cases e1'
      have hfr' : (x, NameKind.free) ∈ sc.names := lookup_mem n3
      have kc := hfree x hfr'
      obtain ⟨m, _, hl⟩ := I3.loc
      obtain ⟨u, r, l⟩ := hl j x v n2 es (.inr (.inl kc))
      refine ⟨u, r, ?_⟩
      rcases l with ⟨l, _⟩ | ⟨_, c, ec, z⟩
      · rw [kc] at l; cases l
      · obtain ⟨c', ec'⟩ := c2 x hfr'
        have := c1 x c' ec'
        rw [ec] at this
        cases this
        obtain ⟨oc, q1, q2⟩ := z
        exact .inr ⟨lookup_relabel_free (sc := sc) n3, c, ec', oc, up4 _ _ q1, q2⟩
    · obtain ⟨v, oc, q1, q2⟩ := I3.cell x c (c1 x c q)
      exact ⟨v, oc, up4 _ _ q1, q2⟩
    · exact I3.hok.fresh (by rw [hC]; exact Nat.le_refl _)
    · show (capSt cap σ).length = N.length
      unfold capSt
      rw [List.length_map, hlen]
  have loop : codeAny (model X.prog X.w) X.A (.compLoop (.ListComp elt [⟨tg, iter, ifs, 0⟩] sc pos) 0 (.ref it) (.ref s2.heap.objs.size) (compEnvC sc cl C X.env)) (compPost (model X.prog X.w) X.A X.xe none (EP X pins σ Q) (.ref s2.heap.objs.size) C)
      { s3 with heap := h4, toks := s3.toks + ([] : List (Str × Value)).length } := by
    have stat : ∀ {H' : Hp}, (∀ b ∈ fp, H' b = none) → ∀ b ∈ fp, FpOk (X.block sc cl N s3 H3 C fp) [] H' b := fun hn b hb =>
      ⟨hn b hb, (ok'.exf b hb).1, ok'.exfs b hb, .inl hb, (ok'.exf b hb).2, fun p hp => (nomatch hp)⟩
    refine comp_loop (fun n s' => ∃ i H', Inv (X.block sc cl N s3 H3 C fp) [] (capSt cap σ) H' s' ∧ tn i s'.heap ∧ (∀ b ∈ fp, H' b = none) ∧ W i n H') ?_ m0 ⟨0, H3, I4, st4, fun b hb => (f3 b hb).1, w0⟩
    rintro n s5 ⟨i, H5, I5, st5, fr5, w5⟩
    rcases turn i n H5 w5 with ⟨stop, qn⟩ | ⟨go, N', hN', step⟩
    · refine thn (T.done (X.block sc cl N s3 H3 C fp) rfl rfl rfl hc i [] s5 _ H5 NoX I5 (stat fr5) st5 stop) fun r s6 ⟨hr, I6⟩ => ?_
      subst hr
      obtain ⟨m, hm, _⟩ := I6.loc
      refine ⟨m, hm, fun h' sb => ⟨.ref s2.heap.objs.size, H5, ?_, rfl, qn⟩⟩
      refine I3.call' (s' := { s6 with heap := h' }) (ch := fp) I6.os (I6.base.but (by rw [← hC]; exact Nat.le_refl _) sb) (I6.hok.but I6.free sb) I6.bare fun b hb => ?_
      obtain ⟨g0, g1, g2, g3, g4, g5⟩ := f3 b hb
      exact ⟨g3, g1, g4, g5⟩
    · refine thn (T.item (X.block sc cl N s3 H3 C fp) rfl rfl rfl hc i [] s5 _ H5 NoX I5 (stat fr5) st5 go) fun r s6 ⟨u, hr, h6⟩ => ?_
      subst hr
      refine thn h6 fun _ s7 ⟨x, H7, I7, r7, y7, st7, fr7⟩ => ?_
      have I7' := I7.pinned (stat fr7) (T.obj _ _ st7)
      have again : ∀ {σ8 : St} {H8 : Hp} {s8 : Shared}, Inv (X.block sc cl N s3 H3 C fp) ([] ++ pinsAt fp s7.heap) σ8 H8 s8 → Ext (capSt cap σ) σ8 → N' H8 →
          ∃ m, m < n ∧ ∃ i H', Inv (X.block sc cl N s3 H3 C fp) [] (capSt cap σ) H' s8 ∧ tn i s8.heap ∧ (∀ b ∈ fp, H' b = none) ∧ W i m H' := fun {σ8 H8 s8} I8 ex n8 => by
        obtain ⟨m', hm, w8⟩ := hN' H8 n8
        have I8' := I8.unpinned.weak ex.len ex.get
        refine ⟨m', hm, i + 1, H8, I8', T.keep _ _ _ st7 fun b hb o q => (I8.pin (b, o) (List.mem_append_right _ (List.mem_append_right _ (mem_pinsAt hb q)))).1, fun b hb => ?_, w8⟩
        obtain ⟨o, q, d⟩ := T.obj _ _ st7 b hb
        exact (I8.pin (b, o) (List.mem_append_right _ (List.mem_append_right _ (mem_pinsAt hb q)))).2.1
      refine thn (hg cl s3 H3 C fp _ s7 _ H7 x u _ I7' r7 (step x H7 y7)) fun _ s8 ⟨σ8, H8, I8, ex8, q8⟩ => ?_
      refine thn (ht cl s3 H3 C fp _ s8 σ8 H8 _ I8 q8) fun b s9 ⟨H9, I9, q9⟩ => ?_
      cases b with
      | false => exact again I9 ex8 q9
      | true =>
        rw [if_pos rfl] at q9 ⊢
        refine thn (he cl s3 H3 C fp _ s9 σ8 H9 _ I9 q9) fun yv s10 ⟨y, H10, I10, r10, zs, e10, l10, q10⟩ => ?_
        refine thn (mt_append (X := X.block sc cl N s3 H3 C fp) _ s10 σ8 H10 (.ref s2.heap.objs.size) [y] (.ref s2.heap.objs.size) [yv] (fun _ H' => N' H') I10 rfl (.cons r10 .nil) ⟨_, zs, y, rfl, rfl, e10, l10, q10⟩) fun _ s11 ⟨_, H11, I11, _, q11⟩ => ?_
        exact again I11 ex8 q11
  exact codeAny_compStart_list loop (T.self X.A 0 _ _ _ st4 loop)
end
theorem comp_range {lo : Int} {n : Nat} {acc : Addr} {g : TG} {tt : TT} {te : TE} {σ : St} {H : Hp} {Q : VK} (Pv : Nat → Hp → Prop) (h0 : Pv 0 (upd H acc (.lst [])))
    (hs : ∀ i H, i < n → Pv i H → g (.int (lo + i)) σ H fun σ2 H4 => Ext σ σ2 ∧ tt σ2 H4 fun b H5 =>
      if b = true then te σ2 H5 fun y H6 => ∃ zs, H6 acc = some (.lst zs) ∧ zs.length < sizeLine ∧ Pv (i + 1) (upd H6 acc (.lst (zs ++ [y]))) else Pv (i + 1) H5) (hd : ∀ H, Pv n H → Q (.ref acc) H) :
    ∃ W : Nat → Nat → Hp → Prop, (∃ m, W 0 m (upd H acc (.lst []))) ∧ ∀ i m H2, W i m H2 →
      ((Itr lo n).stop i H2 ∧ Q (.ref acc) H2) ∨ ((Itr lo n).go i H2 ∧ ∃ N : Hp → Prop, (∀ H', N H' → ∃ m', m' < m ∧ W (i + 1) m' H') ∧ ∀ x H3, (Itr lo n).yld i H2 x H3 → g x σ H3 fun σ2 H4 => Ext σ σ2 ∧ tt σ2 H4 fun b H5 =>
        if b = true then te σ2 H5 fun y H6 => ∃ zs, H6 acc = some (.lst zs) ∧ zs.length < sizeLine ∧ N (upd H6 acc (.lst (zs ++ [y])))
        else N H5) := by
  refine ⟨fun i m H => m = n - i ∧ i ≤ n ∧ Pv i H, ⟨n, by simp, Nat.zero_le _, h0⟩, ?_⟩
  rintro i m H2 ⟨rfl, hi, p⟩
  by_cases hlt : i < n
  · refine .inr ⟨hlt, Pv (i + 1), fun H' p' => ⟨n - (i + 1), by omega, rfl, hlt, p'⟩, fun x H' y => ?_⟩
    obtain ⟨e, y⟩ := y
    subst e y
    exact hs i _ hlt p
  · have e : i = n := by omega
    subst e
    exact .inl ⟨Nat.le_refl _, hd H2 p⟩
def compCk (sc : Scope) (env : Env) (XN N : List Str) (cap : List (Option Nat)) : Bool :=
  (sc.kind == .function) && (sc.names.all fun y => y.2 != .cell) && (sc.names.all fun y => y.2 != .local || sc.names.lookup y.1 == some .local) &&
  (sc.names.all fun y => y.2 != .free || env.kindOf y.1 == some .cell) &&
  ((List.range cap.length).all fun i => match cap[i]? with
    | some (some j) => (match N[i]? with | some x => XN[j]? == some x && sc.names.lookup x == some .free | none => false)
    | _ => true) && (cap.length == N.length)
theorem pe_compB {X : Cx} {elt tg iter : Expr} {ifs : List Expr} {sc : Scope} {pos : Pos} {wi : TI} {g : TG} {tt : TT} {te : TE} (N : List Str) (cap : List (Option Nat)) (hc : X.calm = true) (hi : PI X tg iter wi)
    (hg : ∀ cl s H C ex, PG (X.block sc cl N s H C ex) tg g) (ht : ∀ cl s H C ex, PTs (X.block sc cl N s H C ex) ifs tt) (he : ∀ cl s H C ex, PE (X.block sc cl N s H C ex) elt te)
    (ck : compCk sc X.env X.N N cap = true) (hs : ∀ x, foldedSetIterable iter X.env x = pure x := by intro _; rfl) : PE X (.ListComp elt [⟨tg, iter, ifs, 0⟩] sc pos) (tComp cap wi g tt te) := by
  unfold compCk at ck
  simp only [Bool.and_eq_true] at ck
  obtain ⟨⟨⟨⟨⟨k1, k2⟩, k3⟩, k4⟩, k5⟩, k6⟩ := ck
  refine pe_comp N cap hc hi hg ht he (by simpa using k1) (fun y hy => ?_) (fun y hy z => ?_) (fun n hn => ?_) (fun i j e => ?_) (by simpa using k6) hs
  · have := List.all_eq_true.mp k2 y hy
    simpa using this
  · have := List.all_eq_true.mp k3 y hy
    rw [z] at this
    simpa using this
  · have := List.all_eq_true.mp k4 _ hn
    simpa using this
  · have hi : i < cap.length := (List.getElem?_eq_some_iff.mp e).1
    have := List.all_eq_true.mp k5 i (List.mem_range.mpr hi)
    rw [e] at this
    dsimp only at this
    cases q : N[i]? with
    | none => rw [q] at this; cases this
    | some x =>
      rw [q] at this
      dsimp only at this
      rw [Bool.and_eq_true] at this
      exact ⟨x, rfl, by simpa using this.1, by simpa using this.2⟩
end L2
set_option Elab.async false
set_option linter.all false
set_option maxRecDepth 100000
set_option maxHeartbeats 4000000
namespace L2
open PySem PySem.Spec PyProof.Rows
section
variable {prog : Program} {w : World} {A : Around} {E : Value → Shared → Prop} {s : Shared}
theorem next_tup_item {it t : Addr} {i : Nat} {items : Array Value} {x : Value} {Q : Value → Shared → Prop} (hit : s.heap.IsTupleIter it t i) (ht : s.heap.IsTuple t items) (hx : items[i]? = some x)
    (hQ : ∀ h', h'.IsTupleIter it t (i + 1) → Heap.SameBut it s.heap h' → Q x { s with heap := h' }) : wpAny (model prog w) A (Builtin.SmallTypes.nextOf (.ref it)) Q E s := by
  obtain ⟨o, ho, hc, hd⟩ := id hit; obtain ⟨ol, hol, _, nl, hdl⟩ := ht; unfold Builtin.SmallTypes.nextOf
  refine wpAny_bind (wpAny_callSpecial?_slot (name := Str.ofString "__next__") hit.typeIs F.slot_tuple_iterator_next (wpAny_call_entry F.slot_tuple_iterator_next hit.typeIs F.entry_tuple_iterator_next ?_ (F.args_tuple_iterator_next_1 _)))
  show wpAny _ _ (field (.ref it) 0 >>= _) _ _ s; refine wpAny_bind (wpAny_field ho hd (x := .ref t) rfl ?_)
  show wpAny _ _ (if (Value.ref t == Value.none) = true then _ else _) _ _ s; rw [if_neg (show ¬ ((Value.ref t == Value.none) = true) from Bool.false_ne_true)]
  show wpAny _ _ (field (.ref it) 1 >>= _) _ _ s; refine wpAny_bind (wpAny_field ho hd (x := .int i 0) rfl ?_)
  show wpAny _ _ (seqItems? (.ref t) >>= _) _ _ s; refine wpAny_bind (wpAny_seqItems hol hdl ?_); simp only [Int.toNat_natCast, hx]
  refine wpAny_bind (wpAny_setField ho hd (by simp) (wpAny_pure ⟨x, rfl, wpAny_pure (hQ _ ?_ (Heap.SameBut.update ..))⟩))
  exact ⟨_, Heap.get?_update_self _ ho (Obj.isFreed_of_fields (Obj.data_mapFields hd _)), (Obj.cls_mapFields ..).trans hc, by rw [Obj.data_mapFields hd]; simp [rawInt]⟩
theorem next_tup_end {it t : Addr} {i : Nat} {items : Array Value} {Q : Value → Shared → Prop} (hh : A.handled = none) (hit : s.heap.IsTupleIter it t i) (ht : s.heap.IsTuple t items) (hx : items[i]? = none)
    (hE : ∀ h' e, Heap.ExtBut it s.heap h' → (∃ o, h'.get? e = some o ∧ o.cls = .type "StopIteration") → E (.ref e) { s with heap := h' }) : wpAny (model prog w) A (Builtin.SmallTypes.nextOf (.ref it)) Q E s := by
  obtain ⟨o, ho, hc, hd⟩ := id hit; obtain ⟨ol, hol, _, nl, hdl⟩ := ht; unfold Builtin.SmallTypes.nextOf
  refine wpAny_bind (wpAny_callSpecial?_slot (name := Str.ofString "__next__") hit.typeIs F.slot_tuple_iterator_next (wpAny_call_entry F.slot_tuple_iterator_next hit.typeIs F.entry_tuple_iterator_next ?_ (F.args_tuple_iterator_next_1 _)))
  show wpAny _ _ (field (.ref it) 0 >>= _) _ _ s; refine wpAny_bind (wpAny_field ho hd (x := .ref t) rfl ?_)
  show wpAny _ _ (if (Value.ref t == Value.none) = true then _ else _) _ _ s; rw [if_neg (show ¬ ((Value.ref t == Value.none) = true) from Bool.false_ne_true)]
  show wpAny _ _ (field (.ref it) 1 >>= _) _ _ s; refine wpAny_bind (wpAny_field ho hd (x := .int i 0) rfl ?_)
  show wpAny _ _ (seqItems? (.ref t) >>= _) _ _ s; refine wpAny_bind (wpAny_seqItems hol hdl ?_); simp only [Int.toNat_natCast, hx]
  refine wpAny_bind (wpAny_rule (wpAny_bind (wpAny_setField ho hd (by simp) ?_))); show wpAny _ _ (newExc (.type "StopIteration") [] >>= _) _ _ _
  refine wpAny_bind ?_; simp only [newExc, newTuple]; refine wpAny_bind (wpAny_newObj_type ?_ (by size_fits))
  refine wpAny_bind (m := firstArgMember _ _) (wpAny_of_eq (a := Value.none) (by first | rfl | (simp only [firstArgMember]; rfl)) ?_); refine wpAny_newObj_type ?_ (by size_fits)
  simp only [raiseNew]; refine wpAny_bind (wpAny_handled ?_); first | rw [show A.in1.handled = none from hh] | rw [hh]
  refine wpAny_bind (wpAny_pure (wpAny_throw ?_)); exact hE _ _ (((Heap.SameBut.update ..).extBut.push _).push _) ⟨_, Heap.get?_push_size _ rfl, rfl⟩
end
section
variable {X : Cx} {pins : List (Addr × Obj)} {σ : St} {H : Hp} {s : Shared} {h' : Heap}
theorem Inv.turnedN {t' : Nat} {ch : List Addr} (I : Inv X pins σ H s) (k : ∀ b o, b ∉ ch → s.heap.get? b = some o → h'.get? b = some o) (hf : ∀ b ∈ ch, FpOk X pins H b) : Inv X pins σ H { s with heap := h', toks := t' } := by
  refine I.step (g' := s.gens) (d' := s.drawn) (ch := ch) (fun b hb => ?_) (fun b o _ _ hc e _ => k b o hc e) (fun b o _ _ hc e _ => ⟨o.slots, k b o hc e⟩) (fun _ _ _ _ n => n)
    (fun b o hc e => ⟨o, k b o hc e⟩) (fun _ _ e => e) (fun _ _ _ e => e) (fun b ps e => ⟨#[], by rw [e]; simp⟩) (fun m hm => ?_) (fun b u e => ?_) I.bare
  · obtain ⟨f0, f1, f2, f3, f4, f5⟩ := hf b hb
    exact ⟨f3, f1, f4, f5⟩
  · obtain ⟨o, es, ep, ho, r⟩ := hm
    exact ⟨o, es, ep, k _ o (fun z => (hf _ z).2.1 rfl) ho, r⟩
  · refine (I.hok b u e).stay (fun c v hc q => k c v (fun z => ?_) q) (fun _ q => q) fun _ _ q => q
    have n := (hf c z).1
    rcases hc with y | y
    · rw [y, e] at n; cases n
    · rw [y] at n; cases n
theorem Inv.turnedL {t' : Nat} {ch : List Addr} {a : Addr} {o : HO} (I : Inv X pins σ H s) (k : ∀ b o, b ∉ ch → s.heap.get? b = some o → h'.get? b = some o) (hf : ∀ b ∈ ch, FpOk X pins H b) (hp : s.heap.objs.size ≤ a)
    (new : ObjOk X.prog X.w (upd H a o) h' a o) : Inv X pins σ (upd H a o) { s with heap := h', toks := t' } := by
  have hn : H a = none := I.hok.fresh hp
  have ne : ∀ b u, s.heap.get? b = some u → b ≠ a := fun b u e => Nat.ne_of_lt (Nat.lt_of_lt_of_le (Heap.lt_size e) hp)
  refine I.step (g' := s.gens) (d' := s.drawn) (ch := ch) (fun b hb => ?_) (fun b o _ _ hc e _ => k b o hc e) (fun b o _ _ hc e _ => ⟨o.slots, k b o hc e⟩) (fun b u _ e n => by rw [upd_ne (ne b u e)]; exact n)
    (fun b o hc e => ⟨o, k b o hc e⟩) (fun b xs q => by rw [upd_ne (ne_of_none q hn)]; exact q) (fun b u xs q => by rw [upd_ne (ne_of_none q hn)]; exact q) (fun b ps q => ⟨#[], by rw [upd_ne (ne_of_none q hn), q]; simp⟩) (fun m hm => ?_) (fun b u e => ?_) I.bare
  · obtain ⟨f0, f1, f2, f3, f4, f5⟩ := hf b hb
    exact ⟨f3, f1, f4, f5⟩
  · obtain ⟨o, es, ep, ho, r⟩ := hm
    exact ⟨o, es, ep, k _ o (fun z => (hf _ z).2.1 rfl) ho, r⟩
  · by_cases hb : b = a
    · subst hb
      rw [upd_same] at e
      cases e
      exact new
    · rw [upd_ne hb] at e
      refine (I.hok b u e).stay (fun c v hc q => k c v (fun z => ?_) q) (fun c q => by rw [upd_ne (ne_of_none q hn)]; exact q) fun c xs q => by rw [upd_ne (ne_of_none q hn)]; exact q
      have n := (hf c z).1
      rcases hc with y | y
      · rw [y, e] at n; cases n
      · rw [y] at n; cases n
end
def Ite (K : PySem.W.Frag) (a : Addr) : It :=
  ⟨fun i H => ∃ xs x, SqT K H a xs ∧ xs[i]? = some x, fun i H x H' => ∃ T y, H T = none ∧ x = .ref T ∧ H' = upd H T (.tup [.int i, y]) ∧ ∀ xs, SqT K H a xs → xs[i]? = some y, fun i H => ∃ xs, SqT K H a xs ∧ xs.length ≤ i⟩
def iEnum (K : PySem.W.Frag) (ta : TA) : TI := fun σ H R => ta σ H fun vs H1 => ∃ a, vs = [.ref a] ∧ (∃ xs, SqT K H1 a xs) ∧ R (Ite K a) H1
end L2
set_option Elab.async false
set_option linter.all false
set_option maxRecDepth 100000
set_option maxHeartbeats 4000000
namespace L2
open PySem PySem.Spec PyProof.Rows
section
variable {X : Cx}
def rCatU (K : PySem.W.Frag) : R2 := fun x y H Q => ∃ a b xs ys, x = .ref a ∧ y = .ref b ∧ SqT K H a xs ∧ SqT K H b ys ∧ xs.length + ys.length ≤ sizeLine ∧
  ∀ p H', Same H H' → SqT K H' p (xs ++ ys) → Q (.ref p) H'
theorem same_upd {H : Hp} {p : Addr} {o : HO} (h : H p = none) : Same H (upd H p o) := fun b u q => by rw [upd_ne (ne_of_none q h)]; exact q
def rIsi (K : PySem.W.Frag) : List V → Hp → VK → Prop := fun xs H Q => ∃ x T t b, xs = [x, .ty T] ∧ TyOf K H x t ∧ PySem.W.kitOne K t (.type T) = some b ∧ Q (.bl b) H
theorem call_isi : CallR X (.builtin "isinstance") (rIsi X.K) := by
  intro pins s σ H xs us Q I r h
  obtain ⟨x, T, t, b, rfl, ty, e, q⟩ := h
  obtain ⟨u, w', rfl, ru, rw'⟩ := vals2 r
  cases rw'
  exact isinst_ok I ru ty e fun tk => ⟨.bl b, H, I.tok tk, rfl, q⟩
def rSlS : V → Option Int → Option Int → Hp → VK → Prop := fun x lo hi H Q => ∃ z, x = .str z ∧ z.length ≤ sizeLine ∧ ((Txt.slice z lo hi).length ≤ z.length → Q (.str (Txt.slice z lo hi)) H)
theorem part_of {v : Value} {o : Option Int} (p : IsPart v o) : ∃ q : Option (Int × Tok), q.map (·.1) = o ∧ v = (match q with | none => Value.none | some (i, t) => .int i t) := by
  cases p with
  | none => exact ⟨none, rfl, rfl⟩
  | int i t => exact ⟨some (i, t), rfl, rfl⟩
theorem sl_str : SlR X rSlS := by
  intro pins s σ H x v vl vu lo hi sl Q I rx hs pl pu h
  obtain ⟨z, rfl, hz, q⟩ := h
  obtain ⟨t, rfl⟩ := rx
  obtain ⟨l, hl, el⟩ := part_of pl
  obtain ⟨u, hu, eu⟩ := part_of pu
  subst hl hu
  refine ⟨"str", _, F.slot_str_getitem.lookup, typeIs_str _ _ _, wpAny_getItem_str_slice (l := l) (u := u) (st := none) ?_ rfl (post_val_or_str ⟨Nat.le_trans (Txt.slice_le z _ _) hz, fun t' k => ⟨.str (Txt.slice z _ _), H, I.kept (fun _ _ e => e), ⟨t', rfl⟩, q (Txt.slice_le z _ _)⟩⟩)⟩
  obtain ⟨o, ho, hc, hd⟩ := hs
  refine ⟨o, ho, hc, ?_⟩
  rw [hd, el, eu]
  cases l <;> cases u <;> rfl
theorem eqV_str (a b : Str) : eqV (.str a) (.str b) = true ↔ a = b := by
  constructor
  · intro h; simpa [eqV] using h
  · intro h; subst h; simp [eqV]
def rEqS (neg : Bool) : R2 := fun x y H Q => ∃ (p r : Addr) (xs ys : List Str), x = .ref p ∧ y = .ref r ∧ H p = some (.lst (xs.map V.str)) ∧ H r = some (.lst (ys.map V.str)) ∧ Q (.bl (if neg then !decide (xs = ys) else decide (xs = ys))) H
theorem flat_strs (xs : List Str) : (xs.map V.str).all flatV = true := by
  rw [List.all_eq_true]
  intro x hx
  obtain ⟨y, _, rfl⟩ := List.mem_map.mp hx
  rfl
def rSortD : List V → Hp → VK → Prop := fun xs H Q => ∃ (d : Addr) (kvs : List (Key × V)) (ks : List Str), xs = [.ref d] ∧ H d = some (.dK kvs) ∧ kvs.map (·.1) = ks.map Sum.inr ∧ ks.length < 64 ∧
  ∀ (l : Addr) (ss : List Str), H l = none → ss.Perm ks → ss.Pairwise (fun a b => ltCps b.cps.toList a.cps.toList = false) → Q (.ref l) (upd H l (.lst (ss.map V.str)))
end
end L2
set_option Elab.async false
set_option linter.all false
set_option maxRecDepth 100000
set_option maxHeartbeats 4000000
namespace L2
open PySem PySem.Spec PyProof.Rows
structure FnB (P : Program) (w : World) (K : PySem.W.Frag) (mg : Str → Option Value) (base : Heap) (k : Nat) (x : Str) (f : Addr) (fd : FuncData) (ps : List Str) (sp : Sp) : Prop where
  ok : FnOk P w K mg base CX0 k f fd ps sp
  bd : Binds K fd ps []
  kp : PySem.W.keepIn K (.ref f) = true
  gl : mg x = some (.ref f)
theorem FnB.up {P : Program} {w : World} {K : PySem.W.Frag} {mg : Str → Option Value} {base : Heap} {j k : Nat} {x : Str} {f : Addr} {fd : FuncData} {ps : List Str} {sp : Sp} (F : FnB P w K mg base j x f fd ps sp) (h : j ≤ k) : FnB P w K mg base k x f fd ps sp :=
  ⟨F.ok.mono h, F.bd, F.kp, F.gl⟩
def Tk (H H' : Hp) : Prop := ∀ b xs, H b = some (.tup xs) → H' b = some (.tup xs)
theorem Tk.refl (H : Hp) : Tk H H := fun _ _ h => h
theorem Tk.trans {H H1 H2 : Hp} (a : Tk H H1) (b : Tk H1 H2) : Tk H H2 := fun c xs h => b c xs (a c xs h)
theorem Same.tk {H H' : Hp} (h : Same H H') : Tk H H' := fun b xs e => h b _ e
theorem Tk.lst {H : Hp} {p : Addr} {xs : List V} {o : HO} (h : H p = some (.lst xs)) : Tk H (upd H p o) := fun b ys e => by
  rw [upd_ne (fun z => by subst z; rw [h] at e; cases e)]; exact e
theorem Tk.dk {H : Hp} {p : Addr} {kvs : List (Key × V)} {o : HO} (h : H p = some (.dK kvs)) : Tk H (upd H p o) := fun b ys e => by
  rw [upd_ne (fun z => by subst z; rw [h] at e; cases e)]; exact e
section
variable {X : Cx}
def rCatV : R2 := fun x y H Q => ∃ a b xs ys, x = .ref a ∧ y = .ref b ∧ H a = some (.tup xs) ∧ H b = some (.tup ys) ∧ xs.length + ys.length ≤ sizeLine ∧
  ∀ p H', Same H H' → H' p = some (.tup (xs ++ ys)) → Q (.ref p) H'
theorem op_catV : OpR X (binaryOp .Add) rCatV := by
  intro pins s σ H x y v u Q I rx ry h
  obtain ⟨a, b, xs, ys, rfl, rfl, ha, hb, hz, q⟩ := h
  by_cases hx : xs = []
  · subst hx
    cases rx
    cases ry
    obtain ⟨its, r1, p1, _⟩ := I.tuple (SqT.of ha)
    obtain ⟨its2, r2, p2, _⟩ := I.tuple (SqT.of hb)
    have e0 : its = [] := r1.nil_iff.mpr rfl
    subst e0
    obtain ⟨⟨cls, dd, data, sl⟩, ho, hc, n, hd⟩ := id p1
    obtain ⟨⟨cls2, dd2, data2, sl2⟩, ho2, hc2, n2, hd2⟩ := id p2
    simp only at hc hd hc2 hd2
    subst hc hd hc2 hd2
    exact concat_meets ⟨_, ho, rfl⟩ ⟨_, ho2, rfl⟩ noFill_tuple_add seq_tuple_add PySem.F.slot_tuple_add PySem.F.entry_tuple_add (PySem.F.args_tuple_add_2 _ _) (tuple_addW0 a b _ _ n n2 dd dd2 sl sl2 rfl) ⟨ho, ho2, ⟨.ref b, H, I, rfl, q b H (.refl H) hb⟩⟩
  · refine op_catT pins s σ H (.ref a) (.ref b) v u Q I rx ry ⟨a, b, xs, ys, rfl, rfl, SqT.of ha, SqT.of hb, hx, hz, fun e => ?_, fun e p hp => ?_⟩
    · subst e
      exact q a H (.refl H) (by rw [List.append_nil]; exact ha)
    · exact q p _ (same_upd hp) upd_same
def rSlV : V → Option Int → Option Int → Hp → VK → Prop := fun x lo hi H Q => ∃ a xs, x = .ref a ∧ H a = some (.tup xs) ∧
  ¬ (HT.sIx xs.length 0 lo = 0 ∧ HT.sIx xs.length xs.length hi = xs.length) ∧ ∀ p H', Same H H' → H' p = some (.tup (cutV xs lo hi)) → Q (.ref p) H'
theorem sl_tupV : SlR X rSlV := by
  intro pins s σ H x v vl vu lo hi sl Q I rx hs pl pu h
  obtain ⟨a, xs, rfl, ha, hw, q⟩ := h
  exact sl_tup pins s σ H (.ref a) v vl vu lo hi sl Q I rx hs pl pu ⟨a, xs, rfl, SqT.of ha, hw, fun p hp => q p _ (same_upd hp) upd_same⟩
end
inductive Atom where
  | name (x : Str) | num (n : Int) | gap (g : Str)
inductive Bin where
  | add | sub | mul | thn
def Bin.s : Bin → Str
  | .add => "add" | .sub => "sub" | .mul => "mul" | .thn => "then"
inductive Tr where
  | num (n : Int) | name (x : Str) | ask (x : Str) | stop (x : Str) | gap (g : Str) (as : List Atom)
  | say (a : Tr) | bin (o : Bin) (a b : Tr) | ite (a b c : Tr) | lett (x : Str) (a b : Tr)
def AtRep (H : Hp) : Atom → V → Prop
  | .name x, v => ∃ a, v = .ref a ∧ H a = some (.tup [.str "name", .str x])
  | .num n, v => ∃ a, v = .ref a ∧ H a = some (.tup [.str "num", .int n])
  | .gap g, v => ∃ a b, v = .ref a ∧ H a = some (.tup [.str "gap", .str g, .ref b]) ∧ H b = some (.tup [])
def Rep (H : Hp) : Tr → V → Prop
  | .num n, v => ∃ a, v = .ref a ∧ H a = some (.tup [.str "num", .int n])
  | .name x, v => ∃ a, v = .ref a ∧ H a = some (.tup [.str "name", .str x])
  | .ask x, v => ∃ a, v = .ref a ∧ H a = some (.tup [.str "ask", .str x])
  | .stop x, v => ∃ a, v = .ref a ∧ H a = some (.tup [.str "stop", .str x])
  | .gap g as, v => ∃ a b us, v = .ref a ∧ H a = some (.tup [.str "gap", .str g, .ref b]) ∧ H b = some (.tup us) ∧ us.length ≤ 1000 ∧ Paired (AtRep H) as us
  | .say t, v => ∃ a u, v = .ref a ∧ H a = some (.tup [.str "say", u]) ∧ Rep H t u
  | .bin o s t, v => ∃ a u w, v = .ref a ∧ H a = some (.tup [.str o.s, u, w]) ∧ Rep H s u ∧ Rep H t w
  | .ite r s t, v => ∃ a u w z, v = .ref a ∧ H a = some (.tup [.str "if", u, w, z]) ∧ Rep H r u ∧ Rep H s w ∧ Rep H t z
  | .lett x s t, v => ∃ a u w, v = .ref a ∧ H a = some (.tup [.str "let", .str x, u, w]) ∧ Rep H s u ∧ Rep H t w
theorem AtRep.mono {H H' : Hp} (k : Tk H H') : ∀ {t : Atom} {v : V}, AtRep H t v → AtRep H' t v
  | .name _, _, ⟨a, e, h⟩ => ⟨a, e, k _ _ h⟩
  | .num _, _, ⟨a, e, h⟩ => ⟨a, e, k _ _ h⟩
  | .gap _, _, ⟨a, b, e, h, h'⟩ => ⟨a, b, e, k _ _ h, k _ _ h'⟩
theorem Rep.mono {H H' : Hp} (k : Tk H H') : ∀ {t : Tr} {v : V}, Rep H t v → Rep H' t v
  | .num _, _, ⟨a, e, h⟩ => ⟨a, e, k _ _ h⟩
  | .name _, _, ⟨a, e, h⟩ => ⟨a, e, k _ _ h⟩
  | .ask _, _, ⟨a, e, h⟩ => ⟨a, e, k _ _ h⟩
  | .stop _, _, ⟨a, e, h⟩ => ⟨a, e, k _ _ h⟩
  | .gap _ _, _, ⟨a, b, us, e, h, h', n, p⟩ => ⟨a, b, us, e, k _ _ h, k _ _ h', n, Paired.mapP p fun _ _ z => z.mono k⟩
  | .say _, _, ⟨a, u, e, h, r⟩ => ⟨a, u, e, k _ _ h, r.mono k⟩
  | .bin _ _ _, _, ⟨a, u, w, e, h, r, s⟩ => ⟨a, u, w, e, k _ _ h, r.mono k, s.mono k⟩
  | .ite _ _ _, _, ⟨a, u, w, z, e, h, r, s, t⟩ => ⟨a, u, w, z, e, k _ _ h, r.mono k, s.mono k, t.mono k⟩
  | .lett _ _ _, _, ⟨a, u, w, e, h, r, s⟩ => ⟨a, u, w, e, k _ _ h, r.mono k, s.mono k⟩
inductive Kd where
  | num | name | ask | stop | gap | say | add | sub | mul | thn | ite | lett
  deriving DecidableEq
def Kd.s : Kd → Str
  | .num => "num" | .name => "name" | .ask => "ask" | .stop => "stop" | .gap => "gap"
  | .say => "say" | .add => "add" | .sub => "sub" | .mul => "mul" | .thn => "then" | .ite => "if" | .lett => "let"
def Kd.leaf : Kd → Bool
  | .num => true | .name => true | .ask => true | .stop => true | .gap => true
  | _ => false
theorem Kd.inj {a b : Kd} (h : a.s = b.s) : a = b := by
  revert h
  cases a <;> cases b <;> first | (intro _; rfl) | (intro h; exact absurd h (by decide +kernel))
theorem Kd.eq_iff {a b : Kd} : (V.str a.s = V.str b.s) ↔ a = b := ⟨fun h => Kd.inj (V.str.inj h), fun h => by rw [h]⟩
def Bin.kd : Bin → Kd
  | .add => .add | .sub => .sub | .mul => .mul | .thn => .thn
def Tr.kd : Tr → Kd
  | .num _ => .num | .name _ => .name | .ask _ => .ask | .stop _ => .stop | .gap _ _ => .gap
  | .say _ => .say | .bin o _ _ => o.kd | .ite _ _ _ => .ite | .lett _ _ _ => .lett
def Tr.sign (t : Tr) : Str := t.kd.s
theorem Bin.kd_s (o : Bin) : o.kd.s = o.s := by cases o <;> rfl
def Tr.parts : Tr → List Tr
  | .say a => [a] | .bin _ a b => [a, b] | .ite a b c => [a, b, c] | .lett _ a b => [a, b]
  | _ => []
def Tr.head : Tr → Nat
  | .gap _ _ => 3 | .say _ => 1 | .bin _ _ _ => 1 | .ite _ _ _ => 1
  | _ => 2
theorem Rep.all {H : Hp} : ∀ {t : Tr} {v : V}, Rep H t v → ∃ a hs us, v = .ref a ∧ H a = some (.tup (.str t.sign :: hs ++ us)) ∧ hs.length + 1 = t.head ∧ Paired (Rep H) t.parts us
  | .num n, _, ⟨a, e, h⟩ => ⟨a, [.int n], [], e, h, rfl, .nil⟩
  | .name x, _, ⟨a, e, h⟩ => ⟨a, [.str x], [], e, h, rfl, .nil⟩
  | .ask x, _, ⟨a, e, h⟩ => ⟨a, [.str x], [], e, h, rfl, .nil⟩
  | .stop x, _, ⟨a, e, h⟩ => ⟨a, [.str x], [], e, h, rfl, .nil⟩
  | .gap g _, _, ⟨a, b, us, e, h, h', _, p⟩ => ⟨a, [.str g, .ref b], [], e, h, rfl, .nil⟩
  | .say _, _, ⟨a, u, e, h, r⟩ => ⟨a, [], [u], e, h, rfl, .cons r .nil⟩
  | .bin o _ _, _, ⟨a, u, w, e, h, r, s⟩ => ⟨a, [], [u, w], e, (by show _ = some (HO.tup [V.str o.kd.s, u, w]); rw [Bin.kd_s]; exact h), rfl, .cons r (.cons s .nil)⟩
  | .ite _ _ _, _, ⟨a, u, w, z, e, h, r, s, t⟩ => ⟨a, [], [u, w, z], e, h, rfl, .cons r (.cons s (.cons t .nil))⟩
  | .lett x _ _, _, ⟨a, u, w, e, h, r, s⟩ => ⟨a, [.str x], [u, w], e, h, rfl, .cons r (.cons s .nil)⟩
def Tr.size : Tr → Nat
  | .say a => a.size + 1 | .bin _ a b => a.size + b.size + 1 | .ite a b c => a.size + b.size + c.size + 1 | .lett _ a b => a.size + b.size + 1
  | _ => 1
theorem paired_get {α : Type} {F : α → V → Prop} : ∀ {as : List α} {us : List V} {i : Nat} {u : V}, Paired F as us → us[i]? = some u → ∃ a, as[i]? = some a ∧ F a u
  | _, _, _, _, .nil, e => by simp at e
  | _, _, 0, _, .cons r _, e => by simp at e; subst e; exact ⟨_, rfl, r⟩
  | _, _, i + 1, u, .cons _ t, e => by
    obtain ⟨a, h1, h2⟩ := paired_get (i := i) (u := u) t (by simpa using e)
    exact ⟨a, by simpa using h1, h2⟩
theorem same_set {H H' : Hp} {p : Addr} {o : HO} (g : Same H H') (h : H p = none) : Same H (upd H' p o) := fun b u q => by rw [upd_ne (ne_of_none q h)]; exact g b u q
theorem take_next {α : Type} {as : List α} {i : Nat} {a : α} (h : as[i]? = some a) : as.take (i + 1) = as.take i ++ [a] := by
  rw [List.take_add_one, h]; rfl
def Atom.names : Atom → List Str
  | .name x => [x]
  | _ => []
def Tr.names : Tr → List Str
  | .name x => [x]
  | .gap _ as => as.flatMap Atom.names
  | _ => []
theorem iteY {c : Prop} [Decidable c] {A B : Prop} (hc : c) (h : A) : if decide c = true then A else B := by rw [if_pos (decide_eq_true hc)]; exact h
theorem iteN {c : Prop} [Decidable c] {A B : Prop} (hc : ¬ c) (h : B) : if decide c = true then A else B := by rw [if_neg (by rw [decide_eq_false hc]; exact Bool.false_ne_true)]; exact h
theorem line1000 {n : Nat} (h : n ≤ 1000) : n ≤ sizeLine := Nat.le_of_lt (small1000 h)
def constVs : List Expr → Option (List V)
  | [] => some []
  | .Constant (.str x) _ _ :: r => (constVs r).map fun l => V.str x :: l
  | .Constant (.int i) _ _ :: r => (constVs r).map fun l => V.int i :: l
  | _ => none
def tRow (vs : List V) : TA := fun _ H Q => Q vs H
theorem pa_row {X : Cx} : ∀ {es : List Expr} (vs : List V), constVs es = some vs → PA X es (tRow vs)
  | [], vs, h => by cases h; exact pa_nil
  | .Constant (.str x) j p :: r, vs, h => by
    obtain ⟨l, hl, e⟩ := Option.map_eq_some_iff.mp (show (constVs r).map (fun l => V.str x :: l) = some vs from h)
    subst e
    exact pa_cons pe_str (pa_row l hl)
  | .Constant (.int x) j p :: r, vs, h => by
    obtain ⟨l, hl, e⟩ := Option.map_eq_some_iff.mp (show (constVs r).map (fun l => V.int x :: l) = some vs from h)
    subst e
    exact pa_cons pe_int (pa_row l hl)
def rowT : Expr → Option (List V)
  | .Tuple es _ _ => constVs es
  | _ => none
def rowL : Expr → Option (List V)
  | .List es _ => constVs es
  | _ => none
theorem pe_tupR {X : Cx} {e : Expr} (vs : List V) (h : rowT e = some vs) : PE X e (tTup (tRow vs)) := by
  unfold rowT at h
  split at h
  · exact pe_tup (pa_row vs h)
  · cases h
theorem pe_lstR {X : Cx} {e : Expr} (vs : List V) (h : rowL e = some vs) : PE X e (tLst (tRow vs)) := by
  unfold rowL at h
  split at h
  · exact pe_lst (pa_row vs h)
  · cases h
end L2
set_option Elab.async false
set_option linter.all false
set_option maxRecDepth 100000
set_option maxHeartbeats 4000000
namespace L2
open PySem
abbrev DRow := Str × (Str ⊕ Int)
abbrev En := Str → Int
abbrev Res := List DRow × (Int ⊕ Str)
def askR (x : Str) : DRow := ("ask", .inl x)
def sayR (n : Int) : DRow := ("say", .inr n)
def Bin.op : Bin → Int → Int → Int
  | .add, m, n => (m + n) % 10 ^ 30
  | .sub, m, n => (m - n) % 10 ^ 30
  | .mul, m, n => (m * n) % 10 ^ 30
  | .thn, _, n => n
def En.set (e : En) (x : Str) (n : Int) : En := fun y => if y = x then n else e y
def pre (D : List DRow) (o : Option Res) : Option Res := o.map fun q => (D ++ q.1, q.2)
def seqR (r : Option Res) (k : Int → Option Res) : Option Res := r.bind fun r => match r.2 with
  | .inr w => some (r.1, .inr w)
  | .inl n => pre r.1 (k n)
def ev (a : En) : Tr → En → Option Res
  | .num n, _ => some ([], .inl n)
  | .name x, e => some ([], .inl (e x))
  | .ask x, _ => some ([askR x], .inl (a x))
  | .stop x, _ => some ([], .inr x)
  | .gap _ _, _ => none
  | .say t, e => seqR (ev a t e) fun n => some ([sayR n], .inl n)
  | .bin o s t, e => seqR (ev a s e) fun m => seqR (ev a t e) fun n => some ([], .inl (o.op m n))
  | .ite c s t, e => seqR (ev a c e) fun n => if n = 0 then ev a t e else ev a s e
  | .lett x s t, e => seqR (ev a s e) fun n => ev a t (e.set x n)
def aft (a : En) (t : Tr) (e : En) (E : List Int) : Option (Option Res × List Int) :=
  match t with
  | .say _ => match E with
    | n :: E => some (some ([sayR n], .inl n), E)
    | _ => none
  | .bin .thn _ t => match E with
    | _ :: E => some (ev a t e, E)
    | _ => none
  | .bin o _ _ => match E with
    | n :: m :: E => some (some ([], .inl (o.op m n)), E)
    | _ => none
  | .ite _ s t => match E with
    | n :: E => some (if n = 0 then ev a t e else ev a s e, E)
    | _ => none
  | .lett x _ t => match E with
    | n :: E => some (ev a t (e.set x n), E)
    | _ => none
  | _ => none
abbrev Item := Tr × En × Bool
def cont (a : En) : List Item → List Int → Option Res
  | [], [] => none
  | [], n :: _ => some ([], .inl n)
  | (t, e, false) :: W, E => seqR (ev a t e) fun n => cont a W (n :: E)
  | (t, e, true) :: W, E => (aft a t e E).bind fun p => seqR p.1 fun n => cont a W (n :: p.2)
section
variable {a e : En} {W : List Item} {E : List Int}
end
def wtR : Tr → Nat
  | .bin .thn _ t => 2 * t.size + 1
  | .ite _ s t => 2 * s.size + 2 * t.size + 1
  | .lett _ _ t => 2 * t.size + 1
  | _ => 1
def wtI : Item → Nat
  | (t, _, false) => 2 * t.size
  | (t, _, true) => wtR t
def wt (W : List Item) : Nat := (W.map wtI).sum
end L2
set_option Elab.async false
set_option linter.all false
set_option maxRecDepth 100000
set_option maxHeartbeats 4000000
namespace L2
open PySem PySem.Spec PyProof.Rows
def tOrT (K : PySem.W.Frag) (ta tb : TE) : TE := fun σ H Q => ta σ H fun x H1 => ∃ k, TruV K x H1 k ∧ if k = true then Q x H1 else tb σ H1 Q
theorem call_dictD {X : Cx} : CallR X (.type "dict") (fun xs H Q => ∃ a kvs, xs = [V.ref a] ∧ H a = some (.dK kvs) ∧ ∀ p, H p = none → Q (.ref p) (upd H p (.dK kvs))) := by
  intro pins s σ H xs us Q I r h
  obtain ⟨a, kvs, rfl, ha, q⟩ := h
  obtain ⟨u, rfl, ru⟩ := vals1 r
  cases ru
  exact d_copyOf I (.inl ha) fun p s' hp I' => ⟨.ref p, _, I', rfl, q p hp⟩
def eqDk (ka kb : List (Key × V)) : Bool := ka.length == kb.length && ka.all fun p => match valV kb p.1 with
  | none => false
  | some y => eqV p.2 y
def rEqDk (neg : Bool) : R2 := fun x y H Q => ∃ (a b : Addr) (ka kb : List (Key × V)), x = .ref a ∧ y = .ref b ∧ H a = some (.dK ka) ∧ H b = some (.dK kb) ∧ (∀ p ∈ ka, flatV p.2 = true) ∧ (∀ p ∈ kb, flatV p.2 = true) ∧
  Q (.bl (if neg then !eqDk ka kb else eqDk ka kb)) H
def CMulB (i j : Int) : Prop := i.natAbs < 2 ^ 100 ∧ j.natAbs < 2 ^ 100
structure FunD (K : PySem.W.Frag) (x qual : Str) (st : Stmt) (f : Addr) (fd : FuncData) (dvs : List Value) : Prop where
  ex : ∃ (oc : Value) (od : Option Addr) (kV doc pm : Value) (an : Option Addr) (cdv ct : Value) (osl : Array (Option Value)) (dt : Addr) (o : Obj) (n : Nat),
    fd = PySem.W.fnOf x qual (defArgs st) (defBody st) (defScope st) (.ref dt) kV doc pm an cdv ct ∧ K.lookup f = some ⟨oc, od, .func fd, osl⟩ ∧ PySem.W.codeIn K cdv qual = true ∧ K.lookup dt = some o ∧ o.data = .seq dvs.toArray n
  kp : PySem.W.keepIn K (.ref f) = true
section
variable {P : Program} {w : World} {K : PySem.W.Frag} {mg : Str → Option Value} {base : Heap}
structure FnD (P : Program) (w : World) (K : PySem.W.Frag) (mg : Str → Option Value) (base : Heap) (k : Nat) (x : Str) (f : Addr) (fd : FuncData) (ps : List Str) (sp : Sp) : Prop where
  ok : FnOk P w K mg base CX0 k f fd ps sp
  bd0 : Binds K fd ps []
  bd1 : Binds K fd ps [.none]
  bd2 : Binds K fd ps [.none, .none]
  kp : PySem.W.keepIn K (.ref f) = true
  gl : mg x = some (.ref f)
structure FnM (P : Program) (w : World) (K : PySem.W.Frag) (mg : Str → Option Value) (base : Heap) (k : Nat) (C : Addr) (m : Str) (f : Addr) (fd : FuncData) (ps : List Str) (sp : Sp) : Prop where
  ok : FnOk P w K mg base CX0 k f fd ps sp
  bd : Binds K fd ps []
  mt : Meth K C m f
end
end L2
set_option Elab.async false
set_option linter.all false
set_option maxRecDepth 100000
set_option maxHeartbeats 4000000
namespace L2
open PySem PySem.Spec PyProof.Rows
theorem rv_owner : Manifest.owners.lookup (String.ofList ['d', 'e', 's', 'r', 'e', 'v', 'e', 'r'].reverse) = some Manifest.sig_reversed := by kernel_rfl
theorem rv_next : Slot "reversed" "__next__" "reversed.__next__" := .of (owner := "reversed") (n := "__next__") (by rw [typeLookup_type, builtinLookup_eq_fast]; kernel_rfl) (by decide +kernel) (by decide +kernel) (by decide +kernel) (by first | exact .inl (by decide +kernel) | exact .inr (by decide +kernel)) (by rw [isSubtype_type]; kernel_rfl)
theorem rv_next_entry : entryFor table "reversed.__next__" = some Builtin.«reversed.__next__» := entryFor_of_tree (by kernel_rfl)
theorem rv_next_args (a : Value) : argsOk "reversed.__next__" ⟨[a], []⟩ := by unfold argsOk; rw [signature?_of (id := "reversed.__next__") (n := ['_', '_', 't', 'x', 'e', 'n', '_', '_']) (o := ['d', 'e', 's', 'r', 'e', 'v', 'e', 'r']) (by kernel_rfl) rv_owner]; kernel_rfl
theorem rv_iter : Slot "reversed" "__iter__" "reversed.__iter__" := .of (owner := "reversed") (n := "__iter__") (by rw [typeLookup_type, builtinLookup_eq_fast]; kernel_rfl) (by decide +kernel) (by decide +kernel) (by decide +kernel) (by first | exact .inl (by decide +kernel) | exact .inr (by decide +kernel)) (by rw [isSubtype_type]; kernel_rfl)
theorem rv_iter_args (a : Value) : argsOk "reversed.__iter__" ⟨[a], []⟩ := by unfold argsOk; rw [signature?_of (id := "reversed.__iter__") (n := ['_', '_', 'r', 'e', 't', 'i', '_', '_']) (o := ['d', 'e', 's', 'r', 'e', 'v', 'e', 'r']) (by kernel_rfl) rv_owner]; kernel_rfl
theorem rv_iter_entry : entryFor table "reversed.__iter__" = some Builtin.«dict_keyiterator.__iter__» := entryFor_alias (id' := "dict_keyiterator.__iter__") (by kernel_rfl) (by first | rfl | decide +kernel | (unfold String.splitOn; simp +decide [String.splitOnAux])) (by decide +kernel) (by kernel_rfl)
theorem rv_init : Slot "reversed" "__init__" "object.__init__" := .of (owner := "object") (n := "__init__") (by rw [typeLookup_type, builtinLookup_eq_fast]; kernel_rfl) (by decide +kernel) (by decide +kernel) (by decide +kernel) (by first | exact .inl (by decide +kernel) | exact .inr (by decide +kernel)) (by rw [isSubtype_type]; kernel_rfl)
theorem rv_called : TypeCalled "reversed" "reversed.__new__" "object.__init__" := ⟨by decide +kernel, F.create_reversed, ⟨_, _, F.mro_reversed⟩, F.made_reversed, F.plain_reversed_new, F.sub_reversed_self, rv_init⟩
theorem tup_no_rev : typeLookup (.type "tuple") "__reversed__" = pure none := by rw [typeLookup_type, builtinLookup_eq_fast]; kernel_rfl
def rvObj (l : Addr) (i : Int) : Obj := { cls := .type "reversed", data := .fields #[.ref l, rawInt i] }
theorem meets_revT (l : Addr) (items : Array Value) (hz : (items.size : Int) < 2 ^ 63) :
    Meets (Builtin.«reversed.__new__» ⟨[.type "reversed", .ref l], []⟩) (fun _ R s => IsTup s.heap l items ∧ R (.ok (.ret (.ref s.heap.objs.size))) { s with heap := s.heap.push (rvObj l ((items.size : Int) - 1)), toks := s.toks + 1 + 1 }) :=
  .of_wp fun prog w A R s h => by
    obtain ⟨ht, h⟩ := h
    unfold Builtin.«reversed.__new__»
    refine wpAny_bind (wpAny_of_eq (newClass_reversed _) ?_); dsimp only
    refine wpAny_bind (wpAny_of_eq (a := ()) (by first | rfl | kernel_rfl) ?_); refine wpAny_bind (wpAny_of_eq (a := ()) (by first | rfl | kernel_rfl) ?_); try dsimp only
    refine wpAny_bind (wpAny_specialOf ht.typeIs tup_no_rev ?_); dsimp only
    refine wpAny_bind ?_; show wpAny _ _ (isInstance (.ref l) (.type "dict") >>= _) _ _ s; refine wpAny_bind (wpAny_isInstance ht.typeIs F.sub_tuple_dict ?_)
    show wpAny _ _ (specialOf (.ref l) "__getitem__" >>= _) _ _ s; refine wpAny_bind (wpAny_specialOf ht.typeIs slot_tuple_getitem.lookup ?_)
    dsimp only; rw [if_pos (by decide)]; refine wpAny_pure ?_
    show wpAny _ _ (call (.builtin "len") [.ref l] >>= _) _ _ s; refine wpAny_bind (len_tuple ht hz ?_)
    refine wpAny_bind (wpAny_of_eq (a := some (items.size : Int)) rfl ?_); dsimp only
    refine wpAny_bind ?_; unfold Builtin.SmallTypes.newRecord; dsimp only; refine wpAny_newObj_type ?_ (by size_fits); exact wpAny_pure ⟨_, rfl, h⟩
section
variable {prog : Program} {w : World} {A : Around} {E : Value → Shared → Prop} {s : Shared}
theorem call_revT {l : Addr} {items : Array Value} {Q : Value → Shared → Prop} (ht : IsTup s.heap l items) (hz : (items.size : Int) < 2 ^ 63) (h : Q (.ref s.heap.objs.size) { s with heap := s.heap.push (rvObj l ((items.size : Int) - 1)), toks := s.toks + 1 + 1 }) :
    wpAny (model prog w) A (call (.type "reversed") [.ref l]) Q E s := by
  refine callType_new rv_called (by decide) (F.typeCall_reversed_1 _) (F.newCall_reversed_1 _) (fun obj => F.args_object_init_2 obj _) F.entry_reversed_new (meets_revT l items hz) ⟨ht, ?_⟩
  exact ⟨⟨_, Heap.get?_push_size _ rfl, rfl⟩, h⟩
theorem iter_rv {it t : Addr} {i : Int} {Q : Value → Shared → Prop} (hit : s.heap.get? it = some (rvObj t i)) (h : Q (.ref it) s) : wpAny (model prog w) A (pyIter (.ref it)) Q E s := by
  have hT : s.TypeIs (.ref it) "reversed" := ⟨_, hit, rfl⟩
  refine wpAny_pyIter_slot hT rv_iter (wpAny_call_entry rv_iter hT rv_iter_entry ?_ (rv_iter_args _)); show wpAny _ _ (ret (.ref it)) _ _ s
  exact wpAny_pure ⟨_, rfl, "reversed", _, hT, rv_next.lookup, h⟩
theorem next_rv {it t : Addr} {i : Nat} {items : Array Value} {x : Value} {Q : Option Value → Shared → Prop} (hit : s.heap.get? it = some (rvObj t (i : Int))) (ht : IsTup s.heap t items) (hne : t ≠ it) (hz : (items.size : Int) < 2 ^ 63) (hx : items[i]? = some x)
    (hQ : ∀ h' tk, h'.get? it = some (rvObj t ((i : Int) - 1)) → Heap.SameBut it s.heap h' → Q (some x) { s with heap := h', toks := tk }) : wpAny (model prog w) A (pyNext (.ref it)) Q E s := by
  have hT : s.TypeIs (.ref it) "reversed" := ⟨_, hit, rfl⟩
  have hi : i < items.size := by
    rcases Nat.lt_or_ge i items.size with h | h
    · exact h
    · rw [Array.getElem?_eq_none h] at hx; cases hx
  unfold pyNext
  refine wpAny_bind (wpAny_attempt (wpAny_callSpecial?_slot (name := Str.ofString "__next__") hT rv_next (wpAny_call_entry rv_next hT rv_next_entry ?_ (rv_next_args _))))
  unfold Builtin.«reversed.__next__»; refine wpAny_bind (wpAny_of_eq (a := (Value.ref it, [])) rfl ?_); dsimp only
  refine wpAny_bind (wpAny_field hit rfl (x := .ref t) rfl ?_); refine wpAny_bind (wpAny_field hit rfl (x := rawInt (i : Int)) rfl ?_)
  show wpAny _ _ (if (i : Int) < 0 then _ else _) _ _ s; rw [if_neg (by omega)]
  show wpAny _ _ (specialOf (.ref t) "__getitem__" >>= _) _ _ s; refine wpAny_bind (wpAny_specialOf ht.typeIs slot_tuple_getitem.lookup ?_)
  rw [if_neg (by decide)]
  show wpAny _ _ (mkInt (i : Int) >>= _) _ _ s; refine wpAny_bind (wpAny_mkInt ?_)
  refine wpAny_bind (wpAny_attempt (getItem_tuple (j := i) (x := x) ht (by omega) (by omega) (seqIndex_of (by omega) (by omega)) hx ?_)); dsimp only
  refine wpAny_bind (wpAny_field hit rfl (x := rawInt (i : Int)) rfl ?_)
  refine wpAny_bind (wpAny_setField_rec hit (by simp) fun q1 h1 hs1 => ?_)
  refine wpAny_pure ⟨x, rfl, wpAny_pure (hQ q1 _ ?_ hs1)⟩
  exact h1
theorem end_rv {it t : Addr} {i : Int} {Q : Option Value → Shared → Prop} (hh : A.handled = none) (hit : s.heap.get? it = some (rvObj t i)) (hi : i < 0)
    (hQ : ∀ h' tk, Heap.ExtBut it s.heap h' → Q none { s with heap := h', toks := tk }) : wpAny (model prog w) A (pyNext (.ref it)) Q E s := by
  have hT : s.TypeIs (.ref it) "reversed" := ⟨_, hit, rfl⟩
  unfold pyNext
  refine wpAny_bind (wpAny_attempt (wpAny_callSpecial?_slot (name := Str.ofString "__next__") hT rv_next (wpAny_call_entry rv_next hT rv_next_entry ?_ (rv_next_args _))))
  unfold Builtin.«reversed.__next__»; refine wpAny_bind (wpAny_of_eq (a := (Value.ref it, [])) rfl ?_); dsimp only
  refine wpAny_bind (wpAny_field hit rfl (x := .ref t) rfl ?_); refine wpAny_bind (wpAny_field hit rfl (x := rawInt i) rfl ?_)
  show wpAny _ _ (if i < 0 then _ else _) _ _ s; rw [if_pos hi]; refine wpAny_bind (wpAny_rule ?_)
  refine wpAny_bind ?_; show wpAny _ _ (setField (.ref it) 1 (rawInt (-1)) >>= _) _ _ s; refine wpAny_bind (wpAny_setField_rec hit (by simp) fun q1 h1 hs1 => ?_)
  refine wpAny_setField_rec h1 (by simp) fun q2 h2 hs2 => ?_
  refine wpAny_bind ?_; show wpAny _ _ (newExc (.type "StopIteration") [] >>= _) _ _ _; refine wpAny_bind ?_; simp only [newExc, newTuple]; refine wpAny_bind (wpAny_newObj_type ?_ (by size_fits))
  refine wpAny_bind (m := firstArgMember _ _) (wpAny_of_eq (a := Value.none) (by first | rfl | (simp only [firstArgMember]; rfl)) ?_); refine wpAny_newObj_type ?_ (by size_fits)
  simp only [raiseNew]; refine wpAny_bind (wpAny_handled ?_); first | rw [show A.in1.handled = none from hh] | rw [hh]
  refine wpAny_bind (wpAny_pure (wpAny_throw ?_)); refine wpAny_bind (wpAny_isInstance (T := "StopIteration") (b := true) ⟨_, Heap.get?_push_size _ rfl, rfl⟩ isSubtype_stop ?_)
  exact wpAny_pure (hQ _ _ (((hs1.extBut.trans hs2.extBut).push _).push _))
end
def Itv (K : PySem.W.Frag) (a : Addr) (n : Nat) : It :=
  ⟨fun i H => i < n ∧ ∃ xs x, SqT K H a xs ∧ xs.length = n ∧ xs[n - 1 - i]? = some x, fun i H x H' => H' = H ∧ ∀ xs, SqT K H a xs → xs[n - 1 - i]? = some x, fun i _ => n ≤ i⟩
theorem turn_rv {P : Program} {w : World} {K : PySem.W.Frag} {tg : Expr} (a it : Addr) (n : Nat) : Turn P w K tg (Itv K a n) [it] it (fun i h => h.get? it = some (rvObj a ((n : Int) - 1 - (i : Nat)))) where
  mem := by simp
  obj := fun i h st b hb => by
    have e : b = it := by simpa using hb
    subst e
    exact ⟨_, st, fun v z => by have z' : Data.fields _ = Data.cell v := z; cases z'⟩
  keep := fun i h h' st k => k it (by simp) _ st
  item := by
    intro X hP hw hK hc i pins s σ H E I hf st hg
    subst hP hw hK
    obtain ⟨hin, xs, x, hq, hl, hx⟩ := hg
    obtain ⟨its, rv, p, hz⟩ := I.tuple hq
    obtain ⟨u, hu, ru⟩ := rv.get hx
    obtain ⟨f0, f1, f2, f3, f4, f5⟩ := hf it (by simp)
    have hn := line63
    have hlv := rv.length
    have hai : a ≠ it := fun z => by
      obtain ⟨o1, q1, c1, _⟩ := p
      rw [z, st] at q1; cases q1; injection c1 with c3; exact absurd c3 (by decide)
    have e : (n : Int) - 1 - (i : Nat) = ((n - 1 - i : Nat) : Int) := by omega
    rw [e] at st
    refine next_rv st p hai (by rw [List.size_toArray]; omega) (x := u) (by simpa using hu) fun h' tk st' sb => ?_
    have I1 : Inv X pins σ H { s with heap := h', toks := tk } := I.turned (t' := tk) (fun b o hb e => (sb.2 b hb).trans e) f0 f1 f3 f4 f5
    refine ⟨u, rfl, go_of (s := { s with heap := h', toks := tk }) (n := "reversed") st' rfl rfl (by decide) ⟨x, H, I1, ru, ⟨rfl, fun ys hy => by rw [I.tuple_inj hy hq]; exact hx⟩, ?_, fun b hb => (hf b hb).1⟩⟩
    have e2 : (n : Int) - 1 - ((i + 1 : Nat) : Int) = ((n - 1 - i : Nat) : Int) - 1 := by omega
    show h'.get? it = some (rvObj a ((n : Int) - 1 - ((i + 1 : Nat) : Int)))
    rw [e2]
    exact st'
  done := by
    intro X hP hw hK hc i pins s σ H E I hf st hg
    subst hP hw hK
    obtain ⟨f0, f1, f2, f3, f4, f5⟩ := hf it (by simp)
    have hg' : n ≤ i := hg
    exact end_rv (I.ok.hd hc) st (by omega) fun h' tk eb => ⟨rfl, I.turned (t' := tk) (fun b o hb e => eb b o hb e) f0 f1 f3 f4 f5⟩
  self := fun _ _ _ _ _ st h => iter_rv st h
def iRev (K : PySem.W.Frag) (ta : TA) : TI := fun σ H R => ta σ H fun vs H1 => ∃ a, vs = [.ref a] ∧ ∃ xs, SqT K H1 a xs ∧ R (Itv K a xs.length) H1
theorem pi_revT {X : Cx} {tg a : Expr} {ta : TA} {p pos : Pos} (hg : Gl X "reversed") (hm : X.mg "reversed" = none) (ha : PA X [a] ta) (hs : starEach [a] X.env = [(false, eval a X.env)] := by rfl) : PI X tg (.Call (.Name "reversed" p) [a] [] pos) (iRev X.K ta) := by
  intro pins s σ H R I h
  refine Call_ (ld_blt I hg hm boot_reversed (PyProof.Rows.callWith_type1 (thn (ha pos pins s σ H _ I h) fun us s1 ⟨vs, H1, I1, r1, q1⟩ => ?_) hs rfl))
  obtain ⟨b, e, xs, hq, q⟩ := q1
  subst e
  obtain ⟨u, rfl, ru⟩ := vals1 r1
  cases ru
  obtain ⟨its, rv, tp, hz⟩ := I1.tuple hq
  have hl := rv.length
  have hn := line63
  refine call_revT tp (by rw [List.size_toArray]; omega) ?_
  have hnew : (s1.heap.push (rvObj b ((its.toArray.size : Int) - 1))).get? s1.heap.objs.size = some (rvObj b ((its.toArray.size : Int) - 1)) := Heap.get?_push_size _ rfl
  refine iter_rv hnew ⟨_, [s1.heap.objs.size], _, _, H1, rfl, I1.kept (t' := s1.toks + 1 + 1) (fun c o e => Heap.get?_push_of_some _ e), turn_rv b _ xs.length, ?_, fun c hc => ?_, q⟩
  · show _ = some (rvObj b ((xs.length : Int) - 1 - ((0 : Nat) : Int)))
    rw [hnew, List.size_toArray, hl]
    simp
  · have e := List.mem_singleton.mp hc
    subst e
    exact I1.fpOk (Nat.le_refl _) (I1.hok.fresh (Nat.le_refl _))
theorem for_rev {K : PySem.W.Frag} {a : Addr} {xs : List V} {g : TG} {tb : TS} {D : Ends} {σ : St} {H : Hp} (Pv : Nat → St → Hp → Prop) (h0 : Pv 0 σ H) (hl : ∀ i σ H, i ≤ xs.length → Pv i σ H → SqT K H a xs)
    (hs : ∀ i x σ H, i < xs.length → xs[xs.length - 1 - i]? = some x → Pv i σ H → g x σ H fun σ2 H2 => tb { D with nx := Pv (i + 1), ct := Pv (i + 1), bk := D.nx } σ2 H2) (hd : ∀ σ H, Pv xs.length σ H → D.nx σ H) :
    ∃ W : Nat → Nat → St → Hp → Prop, (∃ m, W 0 m σ H) ∧ ∀ i m σ H, W i m σ H →
      ((Itv K a xs.length).stop i H ∧ D.nx σ H) ∨ ((Itv K a xs.length).go i H ∧ ∃ N : St → Hp → Prop, (∀ σ' H', N σ' H' → ∃ m', m' < m ∧ W (i + 1) m' σ' H') ∧ ∀ x H', (Itv K a xs.length).yld i H x H' → g x σ H' fun σ2 H2 => tb { D with nx := N, ct := N, bk := D.nx } σ2 H2) := by
  refine ⟨fun i m σ H => m = xs.length - i ∧ i ≤ xs.length ∧ Pv i σ H, ⟨xs.length, by simp, Nat.zero_le _, h0⟩, ?_⟩
  rintro i m σ H ⟨rfl, hi, p⟩
  have q := hl i σ H hi p
  by_cases hlt : i < xs.length
  · have hk : xs.length - 1 - i < xs.length := by omega
    refine .inr ⟨⟨hlt, xs, xs[xs.length - 1 - i], q, rfl, by simp [hk]⟩, Pv (i + 1), fun σ' H' p' => ⟨xs.length - (i + 1), by omega, rfl, hlt, p'⟩, fun x H' y => ?_⟩
    obtain ⟨eH, y⟩ := y
    subst eH
    exact hs i x σ _ hlt (y xs q) p
  · have e : i = xs.length := by omega
    subst e
    exact .inl ⟨Nat.le_refl _, hd σ H p⟩
end L2
set_option Elab.async false
set_option linter.all false
set_option maxRecDepth 100000
set_option maxHeartbeats 4000000
namespace L2
open PySem PySem.Spec PyProof.Rows
def rJoin : V → List V → Hp → VK → Prop := fun x xs H Q => ∃ (z : Str) (l : Addr) (ys : List Str), x = .str z ∧ xs = [.ref l] ∧ H l = some (.lst (ys.map V.str)) ∧ z.length ≤ 16 ∧ (ys.map (·.length)).sum + ys.length ≤ 1048576 ∧ Q (.str (Txt.join z ys)) H
def Itw (K : PySem.W.Frag) (a : Addr) (n : Nat) : It :=
  ⟨fun i H => i < n ∧ ∃ xs x, SqL K H a xs ∧ xs.length = n ∧ xs[n - 1 - i]? = some x, fun i H x H' => H' = H ∧ ∀ xs, SqL K H a xs → xs[n - 1 - i]? = some x, fun i _ => i = n⟩
theorem turn_rvL {P : Program} {w : World} {K : PySem.W.Frag} {tg : Expr} (a it : Addr) (n : Nat) : Turn P w K tg (Itw K a n) [it] it (fun i h => h.IsRevIter it a ((n : Int) - 1 - (i : Nat))) where
  mem := by simp
  obj := fun i h st b hb => by
    have e : b = it := by simpa using hb
    subst e
    obtain ⟨o, e, c, d⟩ := st
    exact ⟨o, e, fun v z => by rw [d] at z; cases z⟩
  keep := fun i h h' st k => st.at fun o e => k it (by simp) o e
  item := by
    intro X hP hw hK hc i pins s σ H E I hf st hg
    subst hP hw hK
    obtain ⟨hin, xs, x, hq, hl, hx⟩ := hg
    obtain ⟨its, rv, p, hz⟩ := I.list hq
    obtain ⟨u, hu, ru⟩ := rv.get hx
    obtain ⟨f0, f1, f2, f3, f4, f5⟩ := hf it (by simp)
    have e : (n : Int) - 1 - (i : Nat) = ((n - 1 - i : Nat) : Int) := by omega
    rw [e] at st
    refine wpAny_pyNext_rev_item st p.isList (x := u) (by simpa using hu) fun h' st' sb => ?_
    have I1 : Inv X pins σ H { s with heap := h' } := I.turned (t' := s.toks) (fun b o hb e => (sb.2 b hb).trans e) f0 f1 f3 f4 f5
    obtain ⟨o, eo, c, d⟩ := id st'
    refine ⟨u, rfl, go_of (s := { s with heap := h' }) eo c d (by decide) ⟨x, H, I1, ru, ⟨rfl, fun ys hy => by rw [I.list_inj hy hq]; exact hx⟩, ?_, fun b hb => (hf b hb).1⟩⟩
    have e2 : (n : Int) - 1 - ((i + 1 : Nat) : Int) = ((n - 1 - i : Nat) : Int) - 1 := by omega
    show h'.IsRevIter it a ((n : Int) - 1 - ((i + 1 : Nat) : Int))
    rw [e2]
    exact st'
  done := by
    intro X hP hw hK hc i pins s σ H E I hf st hg
    subst hP hw hK
    obtain ⟨f0, f1, f2, f3, f4, f5⟩ := hf it (by simp)
    have hg' : i = n := hg
    subst hg'
    have e : (i : Int) - 1 - (i : Nat) = -1 := by omega
    rw [e] at st
    exact wpAny_pyNext_rev_end (I.ok.hd hc) st fun h' eb => ⟨rfl, I.turned (t' := s.toks) (fun b o hb e => eb b o hb e) f0 f1 f3 f4 f5⟩
  self := fun _ _ _ _ _ st h => wpAny_pyIter_revIter st h
def iRevL (K : PySem.W.Frag) (ta : TA) : TI := fun σ H R => ta σ H fun vs H1 => ∃ a, vs = [.ref a] ∧ ∃ xs, SqL K H1 a xs ∧ R (Itw K a xs.length) H1
theorem pi_revL {X : Cx} {tg a : Expr} {ta : TA} {p pos : Pos} (hg : Gl X "reversed") (hm : X.mg "reversed" = none) (ha : PA X [a] ta) (hs : starEach [a] X.env = [(false, eval a X.env)] := by rfl) : PI X tg (.Call (.Name "reversed" p) [a] [] pos) (iRevL X.K ta) := by
  intro pins s σ H R I h
  refine Call_ (ld_blt I hg hm boot_reversed (PyProof.Rows.callWith_type1 (thn (ha pos pins s σ H _ I h) fun us s1 ⟨vs, H1, I1, r1, q1⟩ => ?_) hs rfl))
  obtain ⟨b, e, xs, hq, q⟩ := q1
  subst e
  obtain ⟨u, rfl, ru⟩ := vals1 r1
  cases ru
  obtain ⟨its, rv, tp, hz⟩ := I1.list hq
  have hl := rv.length
  refine call_reversed_list tp.isList ?_
  have hnew : Heap.IsRevIter (s1.heap.push (revObj b ((its.toArray.size : Int) - 1))) s1.heap.objs.size b ((its.toArray.size : Int) - 1) := ⟨_, Heap.get?_push_size _ rfl, rfl, rfl⟩
  refine wpAny_pyIter_revIter hnew ⟨_, [s1.heap.objs.size], _, _, H1, rfl, I1.kept (t' := s1.toks) (fun c o e => Heap.get?_push_of_some _ e), turn_rvL b _ xs.length, ?_, fun c hc => ?_, q⟩
  · have e : (xs.length : Int) - 1 - ((0 : Nat) : Int) = (its.toArray.size : Int) - 1 := by rw [List.size_toArray]; omega
    show Heap.IsRevIter _ _ _ ((xs.length : Int) - 1 - ((0 : Nat) : Int))
    rw [e]
    exact hnew
  · have e := List.mem_singleton.mp hc
    subst e
    exact I1.fpOk (Nat.le_refl _) (I1.hok.fresh (Nat.le_refl _))
theorem for_revL {K : PySem.W.Frag} {a : Addr} {xs : List V} {g : TG} {tb : TS} {D : Ends} {σ : L2.St} {H : Hp} (Pv : Nat → St → Hp → Prop) (h0 : Pv 0 σ H) (hl : ∀ i σ H, i ≤ xs.length → Pv i σ H → SqL K H a xs)
    (hs : ∀ i x σ H, i < xs.length → xs[xs.length - 1 - i]? = some x → Pv i σ H → g x σ H fun σ2 H2 => tb { D with nx := Pv (i + 1), ct := Pv (i + 1), bk := D.nx } σ2 H2) (hd : ∀ σ H, Pv xs.length σ H → D.nx σ H) :
    ∃ W : Nat → Nat → St → Hp → Prop, (∃ m, W 0 m σ H) ∧ ∀ i m σ H, W i m σ H →
      ((Itw K a xs.length).stop i H ∧ D.nx σ H) ∨ ((Itw K a xs.length).go i H ∧ ∃ N : St → Hp → Prop, (∀ σ' H', N σ' H' → ∃ m', m' < m ∧ W (i + 1) m' σ' H') ∧ ∀ x H', (Itw K a xs.length).yld i H x H' → g x σ H' fun σ2 H2 => tb { D with nx := N, ct := N, bk := D.nx } σ2 H2) := by
  refine ⟨fun i m σ H => m = xs.length - i ∧ i ≤ xs.length ∧ Pv i σ H, ⟨xs.length, by simp, Nat.zero_le _, h0⟩, ?_⟩
  rintro i m σ H ⟨rfl, hi, p⟩
  have q := hl i σ H hi p
  by_cases hlt : i < xs.length
  · have hk : xs.length - 1 - i < xs.length := by omega
    refine .inr ⟨⟨hlt, xs, xs[xs.length - 1 - i], q, rfl, by simp [hk]⟩, Pv (i + 1), fun σ' H' p' => ⟨xs.length - (i + 1), by omega, rfl, hlt, p'⟩, fun x H' y => ?_⟩
    obtain ⟨eH, y⟩ := y
    subst eH
    exact hs i x σ _ hlt (y xs q) p
  · have e : i = xs.length := by omega
    subst e
    exact .inl ⟨rfl, hd σ H p⟩
end L2
set_option Elab.async false
set_option linter.all false
set_option maxRecDepth 100000
set_option maxHeartbeats 4000000
namespace L2
open PySem PySem.Spec PyProof.Rows
def Itr2 (n : Nat) : It := ⟨fun i _ => i < n, fun i H x H' => H' = H ∧ x = .int ((i : Int) * 2), fun i _ => n ≤ i⟩
def iRng3 (ta : TA) : TI := fun σ H R => ta σ H fun vs H1 => ∃ j : Int, vs = [.int 0, .int j, .int 2] ∧ 0 ≤ j ∧ j < 1000 ∧ R (Itr2 ((j + 1) / 2).toNat) H1
end L2
set_option Elab.async false
set_option linter.all false
set_option maxRecDepth 100000
set_option maxHeartbeats 4000000
namespace L2
open PySem PySem.Spec PyProof.Rows
section
variable {prog : Program} {w : World}
def EqT (prog : Program) (w : World) (A : Around) (s : Shared) (y x : Value) : Prop := ∀ (E : Value → Shared → Prop) (Q : Bool → Shared → Prop), Q true s → wpAny (model prog w) A (eqBool y x) Q E s
open AutoSeq1 (wpAny_loadPart')
open MeetsSeq MeetsSeq2 MeetsSeq3 SeqAt
end
def DEq (H : Hp) (a b : Addr) : Prop := a ≠ b ∧ ∃ ka kb, H a = some (.dK ka) ∧ H b = some (.dK kb) ∧ (∀ p ∈ ka, flatV p.2 = true) ∧ (∀ p ∈ kb, flatV p.2 = true) ∧ eqDk ka kb = true
def rEqLD (neg : Bool) : R2 := fun x y H Q => ∃ (p r : Addr) (ps qs : List Addr), x = .ref p ∧ y = .ref r ∧ H p = some (.lst (ps.map V.ref)) ∧ H r = some (.lst (qs.map V.ref)) ∧ ps.length = qs.length ∧ (∀ (j : Nat) (a b : Addr), ps[j]? = some a → qs[j]? = some b → DEq H a b) ∧ Q (.bl (!neg)) H
end L2
set_option Elab.async false
set_option linter.all false
set_option maxRecDepth 100000
set_option maxHeartbeats 1000000
namespace L2
open PySem PySem.Spec PyProof.Rows
section
variable {X : Cx}
end
end L2
set_option Elab.async false
set_option linter.all false
set_option maxRecDepth 100000
set_option maxHeartbeats 4000000
namespace L2
open PySem PySem.Spec PyProof.Rows
inductive Dt where
  | int (i : Int) | str (x : Str) | tup (ds : List Dt)
mutual
def Dt.beq : Dt → Dt → Bool
  | .int i, .int j => decide (i = j)
  | .str x, .str y => decide (x = y)
  | .tup ds, .tup es => Dt.beqs ds es
  | _, _ => false
def Dt.beqs : List Dt → List Dt → Bool
  | [], [] => true
  | d :: ds, e :: es => Dt.beq d e && Dt.beqs ds es
  | _, _ => false
end
mutual
theorem Dt.beq_iff : ∀ {d e : Dt}, Dt.beq d e = true ↔ d = e
  | .int i, .int j => by simp [Dt.beq]
  | .str x, .str y => by simp [Dt.beq]
  | .tup ds, .tup es => by
    have := Dt.beqs_iff (ds := ds) (es := es)
    simp [Dt.beq, this]
  | .int _, .str _ => by simp [Dt.beq]
  | .int _, .tup _ => by simp [Dt.beq]
  | .str _, .int _ => by simp [Dt.beq]
  | .str _, .tup _ => by simp [Dt.beq]
  | .tup _, .int _ => by simp [Dt.beq]
  | .tup _, .str _ => by simp [Dt.beq]
theorem Dt.beqs_iff : ∀ {ds es : List Dt}, Dt.beqs ds es = true ↔ ds = es
  | [], [] => by simp [Dt.beqs]
  | [], _ :: _ => by simp [Dt.beqs]
  | _ :: _, [] => by simp [Dt.beqs]
  | d :: ds, e :: es => by
    have h1 := Dt.beq_iff (d := d) (e := e)
    have h2 := Dt.beqs_iff (ds := ds) (es := es)
    simp [Dt.beqs, h1, h2]
end
mutual
def Dt.deep : Dt → Nat
  | .tup ds => Dt.deeps ds + 1
  | _ => 0
def Dt.deeps : List Dt → Nat
  | [] => 0
  | d :: ds => max (Dt.deep d) (Dt.deeps ds)
end
mutual
inductive DR (H : Hp) : Dt → V → Prop
  | int (i : Int) : DR H (.int i) (.int i)
  | str (x : Str) : DR H (.str x) (.str x)
  | tup {a : Addr} {xs : List V} {ds : List Dt} : H a = some (.tup xs) → DRs H ds xs → DR H (.tup ds) (.ref a)
inductive DRs (H : Hp) : List Dt → List V → Prop
  | nil : DRs H [] []
  | cons {d : Dt} {v : V} {ds : List Dt} {vs : List V} : DR H d v → DRs H ds vs → DRs H (d :: ds) (v :: vs)
end
mutual
theorem DR.mono {H H' : Hp} (k : Tk H H') : ∀ {d : Dt} {v : V}, DR H d v → DR H' d v
  | _, _, .int i => .int i
  | _, _, .str x => .str x
  | _, _, .tup h r => .tup (k _ _ h) (DRs.mono k r)
theorem DRs.mono {H H' : Hp} (k : Tk H H') : ∀ {ds : List Dt} {vs : List V}, DRs H ds vs → DRs H' ds vs
  | _, _, .nil => .nil
  | _, _, .cons r t => .cons (DR.mono k r) (DRs.mono k t)
end
theorem DRs.length {H : Hp} : ∀ {ds : List Dt} {vs : List V}, DRs H ds vs → ds.length = vs.length
  | _, _, .nil => rfl
  | _, _, .cons _ t => congrArg (· + 1) t.length
mutual
theorem DR.inj {H : Hp} : ∀ {d e : Dt} {v : V}, DR H d v → DR H e v → d = e
  | _, _, _, .int _, .int _ => rfl
  | _, _, _, .str _, .str _ => rfl
  | _, _, _, .tup h r, .tup h' r' => by
    rw [h] at h'
    cases h'
    rw [DRs.inj r r']
theorem DRs.inj {H : Hp} : ∀ {ds es : List Dt} {vs : List V}, DRs H ds vs → DRs H es vs → ds = es
  | _, _, _, .nil, .nil => rfl
  | _, _, _, .cons r t, .cons r' t' => by rw [DR.inj r r', DRs.inj t t']
end
theorem DRs.get {H : Hp} : ∀ {ds : List Dt} {vs : List V} {j : Nat} {v : V}, DRs H ds vs → vs[j]? = some v → ∃ d, ds[j]? = some d ∧ DR H d v
  | _, _, _, _, .nil, e => by simp at e
  | _, _, 0, _, .cons r _, e => by simp at e; subst e; exact ⟨_, rfl, r⟩
  | _, _, j + 1, v, .cons _ t, e => by
    obtain ⟨d, h1, h2⟩ := DRs.get (j := j) (v := v) t (by simpa using e)
    exact ⟨d, by simpa using h1, h2⟩
theorem deep_get : ∀ {ds : List Dt} {j : Nat} {d : Dt}, ds[j]? = some d → d.deep ≤ Dt.deeps ds
  | [], _, _, h => by simp at h
  | e :: ds, 0, d, h => by simp at h; subst h; simp [Dt.deeps]; omega
  | e :: ds, j + 1, d, h => by
    have := deep_get (ds := ds) (j := j) (d := d) (by simpa using h)
    simp [Dt.deeps]; omega
theorem beqs_all : ∀ (ds es : List Dt), Dt.beqs ds es = ((List.range (min ds.length es.length)).all (fun j => match ds[j]?, es[j]? with | some d, some e => Dt.beq d e | _, _ => false) && ds.length == es.length) := by
  intro ds es
  rw [Bool.eq_iff_iff, Dt.beqs_iff, Bool.and_eq_true, List.all_eq_true]
  constructor
  · rintro rfl
    refine ⟨fun j hj => ?_, by simp⟩
    have hj' : j < ds.length := by simpa using List.mem_range.mp hj
    simp [List.getElem?_eq_getElem hj', Dt.beq_iff]
  · rintro ⟨h, hl⟩
    have hl' : ds.length = es.length := by simpa using hl
    refine List.ext_getElem hl' fun j h1 h2 => ?_
    have := h j (List.mem_range.mpr (by omega))
    simpa [List.getElem?_eq_getElem h1, List.getElem?_eq_getElem h2, Dt.beq_iff] using this
section
variable {X : Cx} {pins : List (Addr × Obj)} {σ : St} {H : Hp} {s : Shared}
theorem eqAt_DR (I : Inv X pins σ H s) : ∀ (n : Nat) (A : Around) {d e : Dt} {v z : V} {u y : Value}, d.deep ≤ n → DR H d v → DR H e z → RelV v u → RelV z y → A.units + n < cLine → SeqAt.EqAt A s u y (Dt.beq d e) := by
  intro n
  induction n with
  | zero =>
    intro A d e v z u y hn rd re ru ry hu
    cases rd with
    | int i =>
      obtain ⟨t, rfl⟩ := ru
      cases re with
      | int j => obtain ⟨t', rfl⟩ := ry; rw [show Dt.beq (.int i) (.int j) = (i == j) by simp [Dt.beq, Bool.beq_eq_decide_eq]]; exact SeqAt.EqAt.int_int i t j t'
      | str x => obtain ⟨t', rfl⟩ := ry; exact SeqAt.EqAt.int_str i t x t'
      | tup h r =>
        cases ry
        obtain ⟨its, rv, p, _⟩ := I.tuple (SqT.of h)
        exact SeqAt.EqAt.int_tuple i t (show s.heap.IsTuple _ its.toArray from p) (by omega)
    | str x =>
      obtain ⟨t, rfl⟩ := ru
      cases re with
      | int j => obtain ⟨t', rfl⟩ := ry; exact SeqAt.EqAt.str_int x t j t'
      | str w' => obtain ⟨t', rfl⟩ := ry; rw [show Dt.beq (.str x) (.str w') = (x == w') by simp [Dt.beq, Bool.beq_eq_decide_eq]]; exact SeqAt.EqAt.str_str x t w' t'
      | tup h r =>
        cases ry
        obtain ⟨its, rv, p, _⟩ := I.tuple (SqT.of h)
        exact SeqAt.EqAt.str_tuple x t (show s.heap.IsTuple _ its.toArray from p) (by omega)
    | tup h r => simp [Dt.deep] at hn
  | succ n ih =>
    intro A d e v z u y hn rd re ru ry hu
    cases rd with
    | int i =>
      obtain ⟨t, rfl⟩ := ru
      cases re with
      | int j => obtain ⟨t', rfl⟩ := ry; rw [show Dt.beq (.int i) (.int j) = (i == j) by simp [Dt.beq, Bool.beq_eq_decide_eq]]; exact SeqAt.EqAt.int_int i t j t'
      | str x => obtain ⟨t', rfl⟩ := ry; exact SeqAt.EqAt.int_str i t x t'
      | tup h r =>
        cases ry
        obtain ⟨its, rv, p, _⟩ := I.tuple (SqT.of h)
        exact SeqAt.EqAt.int_tuple i t (show s.heap.IsTuple _ its.toArray from p) (by omega)
    | str x =>
      obtain ⟨t, rfl⟩ := ru
      cases re with
      | int j => obtain ⟨t', rfl⟩ := ry; exact SeqAt.EqAt.str_int x t j t'
      | str w' => obtain ⟨t', rfl⟩ := ry; rw [show Dt.beq (.str x) (.str w') = (x == w') by simp [Dt.beq, Bool.beq_eq_decide_eq]]; exact SeqAt.EqAt.str_str x t w' t'
      | tup h r =>
        cases ry
        obtain ⟨its, rv, p, _⟩ := I.tuple (SqT.of h)
        exact SeqAt.EqAt.str_tuple x t (show s.heap.IsTuple _ its.toArray from p) (by omega)
    | @tup a xs ds ha rs =>
      cases ru
      obtain ⟨its, rv, p, _⟩ := I.tuple (SqT.of ha)
      have hn' : Dt.deeps ds ≤ n := by simpa [Dt.deep] using hn
      cases re with
      | int j => obtain ⟨t', rfl⟩ := ry; exact SeqAt.EqAt.tuple_int j t' (show s.heap.IsTuple _ its.toArray from p) (by omega)
      | str w' => obtain ⟨t', rfl⟩ := ry; exact SeqAt.EqAt.tuple_str w' t' (show s.heap.IsTuple _ its.toArray from p) (by omega)
      | @tup b ys es hb rs' =>
        cases ry
        by_cases hab : a = b
        · subst hab
          rw [ha] at hb
          cases hb
          have : ds = es := DRs.inj rs rs'
          subst this
          rw [show Dt.beq (.tup ds) (.tup ds) = true from Dt.beq_iff.mpr rfl]
          exact SeqAt.EqAt.same _
        · obtain ⟨its2, rv2, p2, _⟩ := I.tuple (SqT.of hb)
          refine SeqAt.EqAt.of_refs hab ?_
          have l1 := rv.length
          have l2 := rv2.length
          have m1 := rs.length
          have m2 := rs'.length
          have key := SeqAt.RcAt.tuples (A := A) (s := s) (e := fun j => match ds[j]?, es[j]? with | some d, some e => Dt.beq d e | _, _ => false) (show s.heap.IsTuple _ its.toArray from p) (show s.heap.IsTuple _ its2.toArray from p2) (by omega) fun j h1 h2 => by
            have g1 : j < xs.length := by rw [l1]; simpa using h1
            have g2 : j < ys.length := by rw [l2]; simpa using h2
            obtain ⟨u1, eu, r1⟩ := rv.get (List.getElem?_eq_getElem g1)
            obtain ⟨u2, ev, r2⟩ := rv2.get (List.getElem?_eq_getElem g2)
            obtain ⟨d1, ed, rd1⟩ := rs.get (List.getElem?_eq_getElem g1)
            obtain ⟨d2, ed2, rd2⟩ := rs'.get (List.getElem?_eq_getElem g2)
            have e1 : its.toArray[j] = u1 := by obtain ⟨_, q⟩ := List.getElem?_eq_some_iff.mp eu; simpa using q
            have e2 : its2.toArray[j] = u2 := by obtain ⟨_, q⟩ := List.getElem?_eq_some_iff.mp ev; simpa using q
            simp only [ed, ed2, e1, e2]
            exact ih A.in1 (Nat.le_trans (deep_get ed) hn') rd1 rd2 r1 r2 (by rw [show A.in1.units = A.units + 1 from rfl]; omega)
          have ez : Dt.beq (.tup ds) (.tup es) = ((List.range (min its.toArray.size its2.toArray.size)).all (fun j => match ds[j]?, es[j]? with | some d, some e => Dt.beq d e | _, _ => false) && its.toArray.size == its2.toArray.size) := by
            rw [show Dt.beq (.tup ds) (.tup es) = Dt.beqs ds es by simp [Dt.beq], beqs_all]
            have a1 : its.toArray.size = ds.length := by simp; omega
            have a2 : its2.toArray.size = es.length := by simp; omega
            rw [a1, a2]
          rw [ez]
          exact key
def rEqD (neg : Bool) : R2 := fun x y H Q => ∃ (ds es : List Dt), DR H (.tup ds) x ∧ DR H (.tup es) y ∧ (Dt.tup ds).deep ≤ 150 ∧ Q (.bl (if neg then !Dt.beqs ds es else Dt.beqs ds es)) H
theorem eqD_parts (I : Inv X pins σ H s) {a b : Addr} {ds es : List Dt} (hd : DR H (.tup ds) (.ref a)) (he : DR H (.tup es) (.ref b)) (hdeep : (Dt.tup ds).deep ≤ 150) (hu : X.A.units + 150 < cLine) :
    ∃ its its2 : List Value, s.heap.IsTuple a its.toArray ∧ s.heap.IsTuple b its2.toArray ∧ its.toArray.size = ds.length ∧ its2.toArray.size = es.length ∧
      ∀ j (h1 : j < its.toArray.size) (h2 : j < its2.toArray.size), SeqAt.EqAt X.A.in1 s its.toArray[j] its2.toArray[j] ((fun j => match ds[j]?, es[j]? with | some d, some e => Dt.beq d e | _, _ => false) j) := by
  cases hd with
  | @tup _ xs _ ha rs =>
    cases he with
    | @tup _ ys _ hb rs' =>
      obtain ⟨its, rv, p, _⟩ := I.tuple (SqT.of ha)
      obtain ⟨its2, rv2, p2, _⟩ := I.tuple (SqT.of hb)
      have l1 := rv.length
      have l2 := rv2.length
      have m1 := rs.length
      have m2 := rs'.length
      refine ⟨its, its2, p, p2, by simp; omega, by simp; omega, fun j h1 h2 => ?_⟩
      have g1 : j < xs.length := by rw [l1]; simpa using h1
      have g2 : j < ys.length := by rw [l2]; simpa using h2
      obtain ⟨u1, eu, r1⟩ := rv.get (List.getElem?_eq_getElem g1)
      obtain ⟨u2, ev, r2⟩ := rv2.get (List.getElem?_eq_getElem g2)
      obtain ⟨d1, ed, rd1⟩ := rs.get (List.getElem?_eq_getElem g1)
      obtain ⟨d2, ed2, rd2⟩ := rs'.get (List.getElem?_eq_getElem g2)
      have e1 : its.toArray[j] = u1 := by obtain ⟨_, q⟩ := List.getElem?_eq_some_iff.mp eu; simpa using q
      have e2 : its2.toArray[j] = u2 := by obtain ⟨_, q⟩ := List.getElem?_eq_some_iff.mp ev; simpa using q
      simp only [ed, ed2, e1, e2]
      have dd : Dt.deeps ds + 1 ≤ 150 := by simpa [Dt.deep] using hdeep
      exact eqAt_DR I 149 X.A.in1 (Nat.le_trans (deep_get ed) (by omega)) rd1 rd2 r1 r2 (by rw [show X.A.in1.units = X.A.units + 1 from rfl]; omega)
theorem op_eqD (hu : X.A.units + 150 < cLine) : OpR X (compareOp .Eq) (rEqD false) := by
  intro pins s σ H x y v u Q I rx ry h
  obtain ⟨ds, es, hd, he, hdeep, q⟩ := h
  obtain ⟨a, rfl⟩ : ∃ a, x = .ref a := by cases hd; exact ⟨_, rfl⟩
  obtain ⟨b, rfl⟩ : ∃ b, y = .ref b := by cases he; exact ⟨_, rfl⟩
  cases rx
  cases ry
  obtain ⟨its, its2, p, p2, z1, z2, hall⟩ := eqD_parts I hd he hdeep hu
  refine SeqAt.eq_tupleAt p p2 (by omega) hall ?_
  rw [z1, z2, ← beqs_all]
  exact ⟨.bl (Dt.beqs ds es), H, I, rfl, by simpa using q⟩
theorem hu150 {k : Nat} {A : Around} (hr : Room k A) : A.units + 150 < cLine := by have := hr.un; omega
end
end L2
set_option Elab.async false
set_option linter.all false
set_option maxRecDepth 100000
set_option maxHeartbeats 4000000
namespace L2
open PySem PySem.Spec PyProof.Rows
theorem itB {h h' : Heap} {a b t : Addr} {i : Nat} (x : h.IsTupleIter a t i) (e : Heap.SameBut b h h') (n : a ≠ b) : h'.IsTupleIter a t i := x.extBut e.extBut n
theorem tpB {h h' : Heap} {a b : Addr} {xs : Array Value} (x : h.IsTuple a xs) (e : Heap.SameBut b h h') (n : a ≠ b) : h'.IsTuple a xs := let ⟨o, ho, r⟩ := x; ⟨o, e.extBut a o n ho, r⟩
section
variable {prog : Program} {w : World} {A : Around} {E : Value → Shared → Prop} {s : Shared}
theorem zipT_item {z TI TO i1 i2 l1 l2 : Addr} {k : Nat} {xs ys : Array Value} {x y a b : Value} {Q : Option Value → Shared → Prop} (D : ZipApart z TI TO i1 i2 l1 l2)
    (hz : IsZip s.heap z TI TO .none) (hTI : IsPair s.heap TI (.ref i1) (.ref i2)) (hTO : IsPair s.heap TO a b) (h1 : s.heap.IsTupleIter i1 l1 k) (h2 : s.heap.IsTupleIter i2 l2 k)
    (hl1 : s.heap.IsTuple l1 xs) (hl2 : s.heap.IsTuple l2 ys) (hx : xs[k]? = some x) (hy : ys[k]? = some y)
    (hQ : ∀ h', IsZip h' z TI TO (rawInt s.heap.objs.size) → IsPair h' TO x y → h'.IsTupleIter i1 l1 (k + 1) → h'.IsTupleIter i2 l2 (k + 1) → IsPair h' s.heap.objs.size x y →
      (∀ c o, c ≠ z → c ≠ TO → c ≠ i1 → c ≠ i2 → s.heap.get? c = some o → h'.get? c = some o) → Q (some (.ref s.heap.objs.size)) { s with heap := h' }) : wpAny (model prog w) A (pyNext (.ref z)) Q E s := by
  have hT : s.TypeIs (.ref z) "zip" := ⟨_, hz, rfl⟩
  unfold pyNext
  refine wpAny_bind (wpAny_attempt (wpAny_callSpecial?_slot (name := Str.ofString "__next__") hT F.slot_zip_next (wpAny_call_entry F.slot_zip_next hT F.entry_zip_next ?_ (F.args_zip_next_1 _))))
  show wpAny _ _ (field (.ref z) 2 >>= _) _ _ _; refine wpAny_bind (wpAny_field hz rfl (x := .bool false) rfl ?_)
  show wpAny _ _ (field (.ref z) 3 >>= _) _ _ _; refine wpAny_bind (wpAny_field hz rfl (x := .ref TI) rfl ?_); refine wpAny_bind (wpAny_seqItems hTI rfl ?_)
  show wpAny _ _ (Builtin.SmallTypes.ownedTupleIsFree (.ref z) >>= _) _ _ _; refine wpAny_bind ?_; unfold Builtin.SmallTypes.ownedTupleIsFree
  refine wpAny_bind (wpAny_field hz rfl (x := .none) rfl (wpAny_pure ?_)); simp only [if_true]; refine wpAny_bind (wpAny_rule ?_); refine wpAny_bind (wpAny_field hz rfl (x := .ref TO) rfl ?_)
  refine wpAny_bind (wpAny_setField_rec hz (by simp) fun q1 hz1 hs1 => ?_); replace hz1 : IsZip q1 z TI TO .ellipsis := hz1
  refine wpAny_bind ?_; simp only [List.zipIdx_cons, List.zipIdx_nil, List.forIn_cons, List.forIn_nil]
  refine wpAny_bind (wpAny_bind (wpAny_onRaise ?_)); show wpAny _ _ (Builtin.SmallTypes.nextOf (.ref i1) >>= _) _ _ _
  refine wpAny_bind (next_tup_item (itB h1 hs1 D.i1z) (tpB hl1 hs1 D.l1z) hx fun q2 j1 hs2 => wpAny_pure ?_)
  have hTO2 : IsPair q2 TO a b := hs2.extBut _ _ D.TOi1 (hs1.extBut _ _ D.TOz hTO)
  refine wpAny_bind (wpAny_seqItems hTO2 rfl ?_); refine wpAny_bind (wpAny_updateSeq_pair hTO2 fun q3 hTO3 hs3 => ?_); replace hTO3 : IsPair q3 TO x b := hTO3
  refine wpAny_bind (wpAny_letGo (wpAny_pure ?_)); refine wpAny_bind (wpAny_bind (wpAny_onRaise ?_)); show wpAny _ _ (Builtin.SmallTypes.nextOf (.ref i2) >>= _) _ _ _
  refine wpAny_bind (next_tup_item (itB (itB (itB h2 hs1 D.i2z) hs2 D.i12.symm) hs3 D.TOi2.symm) (tpB (tpB (tpB hl2 hs1 D.l2z) hs2 D.l2i1) hs3 D.l2TO) hy fun q4 j2 hs4 => wpAny_pure ?_)
  have hTO4 : IsPair q4 TO x b := hs4.extBut _ _ D.TOi2 hTO3
  refine wpAny_bind (wpAny_seqItems hTO4 rfl ?_); refine wpAny_bind (wpAny_updateSeq_pair hTO4 fun q5 hTO5 hs5 => ?_); replace hTO5 : IsPair q5 TO x y := hTO5
  refine wpAny_bind (wpAny_letGo (wpAny_pure (wpAny_pure ?_))); refine wpAny_bind (wpAny_seqItems hTO5 rfl ?_); refine wpAny_bind (wpAny_newTuple ?_)
  have hsz : q5.objs.size = s.heap.objs.size := by rw [hs5.1, hs4.1, hs3.1, hs2.1, hs1.1]
  have hz5 : IsZip q5 z TI TO .ellipsis := hs5.extBut _ _ D.TOz.symm (hs4.extBut _ _ D.i2z.symm (hs3.extBut _ _ D.TOz.symm (hs2.extBut _ _ D.i1z.symm hz1)))
  have hk5 : ∀ c o, c ≠ z → c ≠ TO → c ≠ i1 → c ≠ i2 → s.heap.get? c = some o → q5.get? c = some o := fun c o c1 c2 c3 c4 e => hs5.extBut _ _ c2 (hs4.extBut _ _ c4 (hs3.extBut _ _ c2 (hs2.extBut _ _ c3 (hs1.extBut _ _ c1 e))))
  have j15 : q5.IsTupleIter i1 l1 (k + 1) := itB (itB (itB j1 hs3 D.TOi1.symm) hs4 D.i12) hs5 D.TOi1.symm
  have j25 : q5.IsTupleIter i2 l2 (k + 1) := itB j2 hs5 D.TOi2.symm
  have hzlt : z < q5.objs.size := Heap.lt_size hz5
  show wpAny _ _ (Builtin.SmallTypes.ownedTupleHandOut (.ref z) (.ref q5.objs.size) >>= _) _ _ _; refine wpAny_bind ?_; unfold Builtin.SmallTypes.ownedTupleHandOut
  have hz6 : IsZip (q5.push { cls := .type "tuple", data := .seq #[x, y] }) z TI TO .ellipsis := Heap.get?_push_of_some _ hz5
  refine wpAny_bind (wpAny_setField_rec hz6 (by simp) fun q7 hz7 hs7 => ?_); replace hz7 : IsZip q7 z TI TO (rawInt q5.objs.size) := hz7
  refine wpAny_setField_rec hz7 (by simp) fun q8 hz8 hs8 => ?_; replace hz8 : IsZip q8 z TI TO (rawInt q5.objs.size) := hz8
  have up : ∀ c o, c ≠ z → q5.get? c = some o → q8.get? c = some o := fun c o c1 e => hs8.extBut _ _ c1 (hs7.extBut _ _ c1 (Heap.get?_push_of_some _ e))
  have hT8 : IsPair q8 q5.objs.size x y := hs8.extBut _ _ (Nat.ne_of_gt hzlt) (hs7.extBut _ _ (Nat.ne_of_gt hzlt) (Heap.get?_push_size _ rfl))
  rw [hsz] at hz8 hT8
  refine wpAny_pure ⟨_, rfl, wpAny_pure ?_⟩
  show Q (some (.ref q5.objs.size)) _
  rw [hsz]
  exact hQ q8 hz8 (up _ _ D.TOz hTO5) (let ⟨o, e, r⟩ := j15; ⟨o, up _ o D.i1z e, r⟩) (let ⟨o, e, r⟩ := j25; ⟨o, up _ o D.i2z e, r⟩) hT8 fun c o c1 c2 c3 c4 e => up c o c1 (hk5 c o c1 c2 c3 c4 e)
theorem zipT_end {z TI TO i1 i2 l1 l2 : Addr} {k : Nat} {xs ys : Array Value} {a b : Value} {Q : Option Value → Shared → Prop} (hh : A.handled = none) (D : ZipApart z TI TO i1 i2 l1 l2)
    (hz : IsZip s.heap z TI TO .none) (hTI : IsPair s.heap TI (.ref i1) (.ref i2)) (hTO : IsPair s.heap TO a b) (h1 : s.heap.IsTupleIter i1 l1 k) (h2 : s.heap.IsTupleIter i2 l2 k)
    (hl1 : s.heap.IsTuple l1 xs) (hl2 : s.heap.IsTuple l2 ys) (hend : xs[k]? = none ∨ ys[k]? = none)
    (hQ : ∀ h', (∀ c o, c ≠ z → c ≠ TO → c ≠ i1 → c ≠ i2 → s.heap.get? c = some o → h'.get? c = some o) → Q none { s with heap := h' }) : wpAny (model prog w) A (pyNext (.ref z)) Q E s := by
  have hT : s.TypeIs (.ref z) "zip" := ⟨_, hz, rfl⟩
  unfold pyNext
  have fin : ∀ (h' : Heap) (e : Addr), (∀ c o, c ≠ z → c ≠ TO → c ≠ i1 → c ≠ i2 → s.heap.get? c = some o → h'.get? c = some o) → (∃ o, h'.get? e = some o ∧ o.cls = .type "StopIteration") →
      wpAny (model prog w) A (do if ← isInstance (.ref e) (.type "StopIteration") then pure none else throw (.ref e)) Q E { s with heap := h' } := fun h' e hk ⟨o, ho, hc⟩ =>
    wpAny_bind (wpAny_isInstance (T := "StopIteration") (b := true) ⟨o, ho, hc⟩ isSubtype_stop (wpAny_pure (hQ _ hk)))
  refine wpAny_bind (wpAny_attempt (wpAny_callSpecial?_slot (name := Str.ofString "__next__") hT F.slot_zip_next (wpAny_call_entry F.slot_zip_next hT F.entry_zip_next ?_ (F.args_zip_next_1 _))))
  show wpAny _ _ (field (.ref z) 2 >>= _) _ _ _; refine wpAny_bind (wpAny_field hz rfl (x := .bool false) rfl ?_)
  show wpAny _ _ (field (.ref z) 3 >>= _) _ _ _; refine wpAny_bind (wpAny_field hz rfl (x := .ref TI) rfl ?_); refine wpAny_bind (wpAny_seqItems hTI rfl ?_)
  show wpAny _ _ (Builtin.SmallTypes.ownedTupleIsFree (.ref z) >>= _) _ _ _; refine wpAny_bind ?_; unfold Builtin.SmallTypes.ownedTupleIsFree
  refine wpAny_bind (wpAny_field hz rfl (x := .none) rfl (wpAny_pure ?_)); simp only [if_true]; refine wpAny_bind (wpAny_rule ?_); refine wpAny_bind (wpAny_field hz rfl (x := .ref TO) rfl ?_)
  refine wpAny_bind (wpAny_setField_rec hz (by simp) fun q1 hz1 hs1 => ?_); replace hz1 : IsZip q1 z TI TO .ellipsis := hz1
  refine wpAny_bind ?_; simp only [List.zipIdx_cons, List.zipIdx_nil, List.forIn_cons, List.forIn_nil]
  refine wpAny_bind (wpAny_bind (wpAny_onRaise ?_)); show wpAny _ _ (Builtin.SmallTypes.nextOf (.ref i1) >>= _) _ _ _
  cases hx : xs[k]? with
  | none =>
    refine wpAny_bind (next_tup_end hh (itB h1 hs1 D.i1z) (tpB hl1 hs1 D.l1z) hx fun q2 e hs2 he => ?_)
    obtain ⟨oe, hoe, hce⟩ := he
    have hz2 : IsZip q2 z TI TO .ellipsis := hs2 _ _ D.i1z.symm hz1
    have hez : e ≠ z := fun x => by subst x; rw [hz2] at hoe; cases hoe; simp at hce
    exact wpAny_setField_rec hz2 (by simp) fun q3 _ hs3 => fin q3 e (fun c o c1 _ c3 _ x => hs3.extBut _ _ c1 (hs2 _ _ c3 (hs1.extBut _ _ c1 x))) ⟨oe, hs3.extBut _ _ hez hoe, hce⟩
  | some x =>
    have hy : ys[k]? = none := by rcases hend with h | h; rw [hx] at h; cases h; exact h
    refine wpAny_bind (next_tup_item (itB h1 hs1 D.i1z) (tpB hl1 hs1 D.l1z) hx fun q2 j1 hs2 => wpAny_pure ?_)
    have hTO2 : IsPair q2 TO a b := hs2.extBut _ _ D.TOi1 (hs1.extBut _ _ D.TOz hTO)
    refine wpAny_bind (wpAny_seqItems hTO2 rfl ?_); refine wpAny_bind (wpAny_updateSeq_pair hTO2 fun q3 hTO3 hs3 => ?_)
    refine wpAny_bind (wpAny_letGo (wpAny_pure ?_)); refine wpAny_bind (wpAny_bind (wpAny_onRaise ?_)); show wpAny _ _ (Builtin.SmallTypes.nextOf (.ref i2) >>= _) _ _ _
    refine wpAny_bind (next_tup_end hh (itB (itB (itB h2 hs1 D.i2z) hs2 D.i12.symm) hs3 D.TOi2.symm) (tpB (tpB (tpB hl2 hs1 D.l2z) hs2 D.l2i1) hs3 D.l2TO) hy fun q4 e hs4 he => ?_)
    obtain ⟨oe, hoe, hce⟩ := he
    have hz4 : IsZip q4 z TI TO .ellipsis := hs4 _ _ D.i2z.symm (hs3.extBut _ _ D.TOz.symm (hs2.extBut _ _ D.i1z.symm hz1))
    have hez : e ≠ z := fun x => by subst x; rw [hz4] at hoe; cases hoe; simp at hce
    exact wpAny_setField_rec hz4 (by simp) fun q5 _ hs5 => fin q5 e (fun c o c1 c2 c3 c4 x => hs5.extBut _ _ c1 (hs4 _ _ c4 (hs3.extBut _ _ c2 (hs2.extBut _ _ c3 (hs1.extBut _ _ c1 x))))) ⟨oe, hs5.extBut _ _ hez hoe, hce⟩
end
theorem meets_zipT (l1 l2 : Addr) (xs ys : Array Value) :
    Meets (Builtin.«zip.__new__» ⟨[.type "zip", .ref l1, .ref l2], []⟩) (fun _ R s => s.heap.IsTuple l1 xs ∧ s.heap.IsTuple l2 ys ∧
      ∀ (h' : Heap) (z TI TO i1 i2 : Addr), (∀ c o, s.heap.get? c = some o → h'.get? c = some o) → s.heap.objs.size ≤ z → s.heap.objs.size ≤ TI → s.heap.objs.size ≤ TO → s.heap.objs.size ≤ i1 → s.heap.objs.size ≤ i2 →
        (TI ≠ z ∧ TO ≠ z ∧ i1 ≠ z ∧ i2 ≠ z ∧ TI ≠ TO ∧ TI ≠ i1 ∧ TI ≠ i2 ∧ TO ≠ i1 ∧ TO ≠ i2 ∧ i1 ≠ i2) → IsZip h' z TI TO .none → IsPair h' TI (.ref i1) (.ref i2) → IsPair h' TO .none .none → h'.IsTupleIter i1 l1 0 → h'.IsTupleIter i2 l2 0 →
        R (.ok (.ret (.ref z))) { s with heap := h' }) :=
  .of_wp fun prog w A R s h => by
    obtain ⟨hp, g, d, tk, os⟩ := s; obtain ⟨hl1, hl2, h⟩ := h; have hsub := sub_zip
    have hL1 : Heap.IsTuple (Shared.heap ⟨hp, g, d, tk, os⟩) l1 xs := hl1
    have hL2 : Heap.IsTuple (Shared.heap ⟨hp.push { cls := .type "tuple_iterator", data := .fields #[.ref l1, .int 0 0] }, g, d, tk, os⟩) l2 ys := let ⟨o, ho, r⟩ := hl2; ⟨o, Heap.get?_push_of_some _ ho, r⟩
    wp_walk using wpAny_pyIter_tuple hL1, wpAny_pyIter_tuple hL2
    refine ⟨_, rfl, h _ _ _ _ _ _ (fun c o e => Heap.get?_push_of_some _ (Heap.get?_push_of_some _ (Heap.get?_push_of_some _ (Heap.get?_push_of_some _ (Heap.get?_push_of_some _ e))))) ?_ ?_ ?_ ?_ ?_ ?_ (Heap.get?_push_size _ rfl) (Heap.get?_push_of_some _ (Heap.get?_push_of_some _ (Heap.get?_push_size _ rfl))) (Heap.get?_push_of_some _ (Heap.get?_push_size _ rfl))
      ⟨_, Heap.get?_push_of_some _ (Heap.get?_push_of_some _ (Heap.get?_push_of_some _ (Heap.get?_push_of_some _ (Heap.get?_push_size _ rfl)))), rfl, rfl⟩ ⟨_, Heap.get?_push_of_some _ (Heap.get?_push_of_some _ (Heap.get?_push_of_some _ (Heap.get?_push_size _ rfl))), rfl, rfl⟩⟩
    all_goals simp only [Heap.size_push]
    all_goals first
      | omega
      | (refine ⟨?_, ?_, ?_, ?_, ?_, ?_, ?_, ?_, ?_, ?_⟩ <;> (intro e; have e' : @Eq Nat _ _ := e; omega))
section
variable {prog : Program} {w : World} {A : Around} {E : Value → Shared → Prop} {s : Shared}
theorem call_zipT {l1 l2 : Addr} {xs ys : Array Value} {Q : Value → Shared → Prop} (hl1 : s.heap.IsTuple l1 xs) (hl2 : s.heap.IsTuple l2 ys)
    (h : ∀ (h' : Heap) (z TI TO i1 i2 : Addr), (∀ c o, s.heap.get? c = some o → h'.get? c = some o) → s.heap.objs.size ≤ z → s.heap.objs.size ≤ TI → s.heap.objs.size ≤ TO → s.heap.objs.size ≤ i1 → s.heap.objs.size ≤ i2 →
        (TI ≠ z ∧ TO ≠ z ∧ i1 ≠ z ∧ i2 ≠ z ∧ TI ≠ TO ∧ TI ≠ i1 ∧ TI ≠ i2 ∧ TO ≠ i1 ∧ TO ≠ i2 ∧ i1 ≠ i2) → IsZip h' z TI TO .none → IsPair h' TI (.ref i1) (.ref i2) → IsPair h' TO .none .none → h'.IsTupleIter i1 l1 0 → h'.IsTupleIter i2 l2 0 → Q (.ref z) { s with heap := h' }) :
    wpAny (model prog w) A (call (.type "zip") [.ref l1, .ref l2]) Q E s := by
  refine callType_new F.called_zip (by decide) (F.typeCall_zip_2 _ _) (F.newCall_zip_2 _ _) (fun obj => F.args_object_init_3 obj _ _) F.entry_zip_new (meets_zipT l1 l2 xs ys) ⟨hl1, hl2, fun h' z TI TO i1 i2 a0 a1 a2 a3 a4 a5 a6 a7 a8 a9 b1 b2 => ?_⟩
  exact ⟨⟨_, a7, rfl⟩, h h' z TI TO i1 i2 a0 a1 a2 a3 a4 a5 a6 a7 a8 a9 b1 b2⟩
end
def Itz (a b : Addr) : It :=
  ⟨fun i H => ∃ xs ys x y, H a = some (.tup xs) ∧ H b = some (.tup ys) ∧ xs[i]? = some x ∧ ys[i]? = some y,
   fun i H v H' => ∃ T x y, H T = none ∧ v = .ref T ∧ H' = upd H T (.tup [x, y]) ∧ (∀ xs, H a = some (.tup xs) → xs[i]? = some x) ∧ ∀ ys, H b = some (.tup ys) → ys[i]? = some y,
   fun i H => ∃ xs ys, H a = some (.tup xs) ∧ H b = some (.tup ys) ∧ (xs.length ≤ i ∨ ys.length ≤ i)⟩
theorem turn_zip {P : Program} {w : World} {K : PySem.W.Frag} {es : List Expr} {kk : Nat} {pos : Pos} (a b z TI TO i1 i2 : Addr)
    (ap : TI ≠ z ∧ TO ≠ z ∧ i1 ≠ z ∧ i2 ≠ z ∧ TI ≠ TO ∧ TI ≠ i1 ∧ TI ≠ i2 ∧ TO ≠ i1 ∧ TO ≠ i2 ∧ i1 ≠ i2) :
    Turn P w K (.Tuple es kk pos) (Itz a b) [z, TI, TO, i1, i2] z (fun i h => IsZip h z TI TO .none ∧ IsPair h TI (.ref i1) (.ref i2) ∧ (∃ p q, IsPair h TO p q) ∧ h.IsTupleIter i1 a i ∧ h.IsTupleIter i2 b i) where
  mem := by simp
  obj := fun i h st c hc => by
    obtain ⟨hz, hTI, ⟨p, q, hTO⟩, ⟨o1, e1, c1, d1⟩, o2, e2, c2, d2⟩ := st
    simp only [List.mem_cons, List.not_mem_nil, or_false] at hc
    rcases hc with rfl | rfl | rfl | rfl | rfl
    · exact ⟨_, hz, fun v z => by have z' : Data.fields _ = Data.cell v := z; cases z'⟩
    · exact ⟨_, hTI, fun v z => by have z' : Data.seq _ _ = Data.cell v := z; cases z'⟩
    · exact ⟨_, hTO, fun v z => by have z' : Data.seq _ _ = Data.cell v := z; cases z'⟩
    · exact ⟨o1, e1, fun v z => by rw [d1] at z; cases z⟩
    · exact ⟨o2, e2, fun v z => by rw [d2] at z; cases z⟩
  keep := fun i h h' st k => by
    obtain ⟨hz, hTI, ⟨p, q, hTO⟩, ⟨o1, e1, r1⟩, o2, e2, r2⟩ := st
    exact ⟨k z (by simp) _ hz, k TI (by simp) _ hTI, ⟨p, q, k TO (by simp) _ hTO⟩, ⟨o1, k i1 (by simp) _ e1, r1⟩, o2, k i2 (by simp) _ e2, r2⟩
  item := by
    intro X hP hw hK hc i pins s σ H E I hf st hg
    subst hP hw hK
    obtain ⟨xs, ys, x, y, ha, hb, hx, hy⟩ := hg
    obtain ⟨hz, hTI, ⟨p, q, hTO⟩, h1, h2⟩ := st
    obtain ⟨its, rv, t1, _⟩ := I.tuple (SqT.of ha)
    obtain ⟨its2, rv2, t2, _⟩ := I.tuple (SqT.of hb)
    obtain ⟨u, hu, ru⟩ := rv.get hx
    obtain ⟨u2, hu2, ru2⟩ := rv2.get hy
    obtain ⟨n1, n2, n3, n4, n5, n6, n7, n8, n9, n10⟩ := ap
    have ne : ∀ {c d : Addr} {o : HO}, H c = some o → d ∈ [z, TI, TO, i1, i2] → c ≠ d := fun e hd => ne_of_none e (hf _ hd).1
    have D : ZipApart z TI TO i1 i2 a b := ⟨n1, n2, n3, n4, n5, n6, n7, n8, n9, n10, ne ha (by simp), ne ha (by simp), ne ha (by simp), ne ha (by simp), ne hb (by simp), ne hb (by simp), ne hb (by simp), ne hb (by simp)⟩
    refine zipT_item D hz hTI hTO h1 h2 (show s.heap.IsTuple a its.toArray from t1) (show s.heap.IsTuple b its2.toArray from t2) (by simpa using hu) (by simpa using hu2) fun q1 hz1 hTO1 j1 j2 hT hk => ⟨_, rfl, ?_⟩
    have hn : H s.heap.objs.size = none := I.fresh
    have hT1 : IsPair q1 TI (.ref i1) (.ref i2) := hk _ _ n1 n5 n6 n7 hTI
    have neT : ∀ c ∈ [z, TI, TO, i1, i2], c ≠ s.heap.objs.size := fun c hc => by
      simp only [List.mem_cons, List.not_mem_nil, or_false] at hc
      rcases hc with rfl | rfl | rfl | rfl | rfl
      · exact Nat.ne_of_lt (Heap.lt_size (show s.heap.get? _ = some _ from hz))
      · exact Nat.ne_of_lt (Heap.lt_size (show s.heap.get? _ = some _ from hTI))
      · exact Nat.ne_of_lt (Heap.lt_size (show s.heap.get? _ = some _ from hTO))
      · obtain ⟨_, e, _⟩ := h1; exact Nat.ne_of_lt (Heap.lt_size e)
      · obtain ⟨_, e, _⟩ := h2; exact Nat.ne_of_lt (Heap.lt_size e)
    have I1 : Inv X pins σ (upd H s.heap.objs.size (.tup [x, y])) { s with heap := q1, toks := s.toks } := I.turnedL (ch := [z, TO, i1, i2]) (fun c o hc e => hk c o (fun q => hc (by simp [q])) (fun q => hc (by simp [q])) (fun q => hc (by simp [q])) (fun q => hc (by simp [q])) e)
      (fun c hc => hf c (by simp at hc ⊢; rcases hc with r | r | r | r <;> simp [r])) (Nat.le_refl _) ⟨Nat.le_of_lt (small1000 (show 2 ≤ 1000 by decide)), [u, u2], .cons ru (.cons ru2 .nil), _, hT, rfl, _, rfl⟩
    refine wpAny_letOwnedTupleGo_zip (s := { s with heap := q1 }) hz1 fun q2 hz2 hs2 => ⟨.ref s.heap.objs.size, _, ?_, rfl, ⟨_, x, y, hn, rfl, rfl, fun ws e => by rw [ha] at e; cases e; exact hx, fun ws e => by rw [hb] at e; cases e; exact hy⟩, ⟨hz2, hs2.extBut _ _ n1 hT1, ⟨_, _, hs2.extBut _ _ n2 hTO1⟩, itB j1 hs2 n3, itB j2 hs2 n4⟩, fun c hc => ?_⟩
    · refine I1.turnedN (t' := s.toks) (ch := [z]) (fun c o hc e => (hs2.2 c (fun q => hc (by simp [q]))).trans e) fun c hc => ?_
      have ec := List.mem_singleton.mp hc
      subst ec
      obtain ⟨f0, f⟩ := hf c (by simp)
      exact ⟨by rw [upd_ne (neT c (by simp))]; exact f0, f⟩
    · rw [upd_ne (neT c hc)]; exact (hf c hc).1
  done := by
    intro X hP hw hK hc i pins s σ H E I hf st hg
    subst hP hw hK
    obtain ⟨xs, ys, ha, hb, hend⟩ := hg
    obtain ⟨hz, hTI, ⟨p, q, hTO⟩, h1, h2⟩ := st
    obtain ⟨its, rv, t1, _⟩ := I.tuple (SqT.of ha)
    obtain ⟨its2, rv2, t2, _⟩ := I.tuple (SqT.of hb)
    have l1 := rv.length
    have l2 := rv2.length
    obtain ⟨n1, n2, n3, n4, n5, n6, n7, n8, n9, n10⟩ := ap
    have ne : ∀ {c d : Addr} {o : HO}, H c = some o → d ∈ [z, TI, TO, i1, i2] → c ≠ d := fun e hd => ne_of_none e (hf _ hd).1
    have D : ZipApart z TI TO i1 i2 a b := ⟨n1, n2, n3, n4, n5, n6, n7, n8, n9, n10, ne ha (by simp), ne ha (by simp), ne ha (by simp), ne ha (by simp), ne hb (by simp), ne hb (by simp), ne hb (by simp), ne hb (by simp)⟩
    refine zipT_end (I.ok.hd hc) D hz hTI hTO h1 h2 (show s.heap.IsTuple a its.toArray from t1) (show s.heap.IsTuple b its2.toArray from t2) ?_ fun q1 hk => ⟨rfl, ?_⟩
    · rcases hend with h | h
      · exact .inl (by simp; omega)
      · exact .inr (by simp; omega)
    · exact I.turnedN (t' := s.toks) (ch := [z, TO, i1, i2]) (fun c o hc e => hk c o (fun q => hc (by simp [q])) (fun q => hc (by simp [q])) (fun q => hc (by simp [q])) (fun q => hc (by simp [q])) e) (fun c hc => hf c (by simp at hc ⊢; rcases hc with r | r | r | r <;> simp [r]))
  self := fun _ _ _ _ _ st h => wpAny_pyIter_zip st.1 h
theorem boot_zip' : bootBuiltins "zip" = some (.type "zip") := by decide +kernel
def iZip (ta : TA) : TI := fun σ H R => ta σ H fun vs H1 => ∃ a b xs ys, vs = [.ref a, .ref b] ∧ H1 a = some (.tup xs) ∧ H1 b = some (.tup ys) ∧ R (Itz a b) H1
theorem pi_zip {X : Cx} {es : List Expr} {k : Nat} {tpos : Pos} {a b : Expr} {ta : TA} {p pos : Pos} (hg : Gl X "zip") (hm : X.mg "zip" = none) (ha : PA X [a, b] ta) (hs : starEach [a, b] X.env = [(false, eval a X.env), (false, eval b X.env)] := by rfl) (hs2 : starEach [b] X.env = [(false, eval b X.env)] := by rfl) :
    PI X (.Tuple es k tpos) (.Call (.Name "zip" p) [a, b] [] pos) (iZip ta) := by
  intro pins s σ H R I h
  refine Call_ (ld_blt I hg hm boot_zip' (PyProof.Rows.callWith_type1 (thn (ha pos pins s σ H _ I h) fun us s1 ⟨vs, H1, I1, r1, q1⟩ => ?_) (by rw [hs, hs2]) (by rw [hs2]; rfl)))
  obtain ⟨l1, l2, xs, ys, e, h1, h2, q⟩ := q1
  subst e
  obtain ⟨u, w', rfl, ru, rw'⟩ := vals2 r1
  cases ru
  cases rw'
  obtain ⟨its, rv, t1, _⟩ := I1.tuple (SqT.of h1)
  obtain ⟨its2, rv2, t2, _⟩ := I1.tuple (SqT.of h2)
  refine call_zipT (show s1.heap.IsTuple l1 its.toArray from t1) (show s1.heap.IsTuple l2 its2.toArray from t2) fun h' z TI TO i1 i2 a0 a1 a2 a3 a4 a5 a6 a7 a8 a9 b1 b2 => ?_
  refine wpAny_pyIter_zip a7 ⟨_, [z, TI, TO, i1, i2], _, _, H1, rfl, I1.kept (t' := s1.toks) a0, turn_zip l1 l2 z TI TO i1 i2 a6, ⟨a7, a8, ⟨_, _, a9⟩, b1, b2⟩, fun c hc => ?_, q⟩
  have ge : s1.heap.objs.size ≤ c := by
    simp only [List.mem_cons, List.not_mem_nil, or_false] at hc
    rcases hc with rfl | rfl | rfl | rfl | rfl <;> assumption
  exact I1.fpOk ge (I1.hok.fresh ge)
end L2
set_option Elab.async false
set_option linter.all false
set_option maxRecDepth 100000
set_option maxHeartbeats 4000000
namespace L2
open PySem PySem.Spec PyProof.Rows
def Itzl (K : PySem.W.Frag) (a b : Addr) : It :=
  ⟨fun i H => ∃ xs ys x y, H a = some (.lst xs) ∧ H b = some (.lst ys) ∧ xs[i]? = some x ∧ ys[i]? = some y,
   fun i H v H' => ∃ T x y, H T = none ∧ v = .ref T ∧ H' = upd H T (.tup [x, y]) ∧ (∀ xs, H a = some (.lst xs) → xs[i]? = some x) ∧ ∀ ys, H b = some (.lst ys) → ys[i]? = some y,
   fun i H => ∃ xs ys, H a = some (.lst xs) ∧ H b = some (.lst ys) ∧ (xs.length ≤ i ∨ ys.length ≤ i)⟩
def iZipL (K : PySem.W.Frag) (ta : TA) : TI := fun σ H R => ta σ H fun vs H1 => ∃ a b xs ys, vs = [.ref a, .ref b] ∧ H1 a = some (.lst xs) ∧ H1 b = some (.lst ys) ∧ R (Itzl K a b) H1
theorem comp_zipR {a b : Addr} {xs ys : List V} {acc : Addr} {g : TG} {tt : TT} {te : TE} {σ : L2.St} {H : Hp} {R : Hp → Prop} (Pv : Nat → Hp → Prop) (h0 : Pv 0 (upd H acc (.lst []))) (hl : ∀ i H, i ≤ min xs.length ys.length → Pv i H → H a = some (.tup xs) ∧ H b = some (.tup ys))
    (hs : ∀ i x y T H, xs[i]? = some x → ys[i]? = some y → Pv i H → H T = none → g (.ref T) σ (upd H T (.tup [x, y])) fun σ2 H4 => Ext σ σ2 ∧ tt σ2 H4 fun b H5 =>
      if b = true then te σ2 H5 fun y H6 => ∃ zs, H6 acc = some (.lst zs) ∧ zs.length < sizeLine ∧ Pv (i + 1) (upd H6 acc (.lst (zs ++ [y]))) else Pv (i + 1) H5) (hd : ∀ H, Pv (min xs.length ys.length) H → R H) :
    ∃ W : Nat → Nat → Hp → Prop, (∃ m, W 0 m (upd H acc (.lst []))) ∧ ∀ i m H2, W i m H2 →
      ((Itz a b).stop i H2 ∧ R H2) ∨ ((Itz a b).go i H2 ∧ ∃ N : Hp → Prop, (∀ H', N H' → ∃ m', m' < m ∧ W (i + 1) m' H') ∧ ∀ x H3, (Itz a b).yld i H2 x H3 → g x σ H3 fun σ2 H4 => Ext σ σ2 ∧ tt σ2 H4 fun b H5 =>
        if b = true then te σ2 H5 fun y H6 => ∃ zs, H6 acc = some (.lst zs) ∧ zs.length < sizeLine ∧ N (upd H6 acc (.lst (zs ++ [y])))
        else N H5) := by
  refine ⟨fun i m H => m = min xs.length ys.length - i ∧ i ≤ min xs.length ys.length ∧ Pv i H, ⟨min xs.length ys.length, by simp, Nat.zero_le _, h0⟩, ?_⟩
  rintro i m H2 ⟨rfl, hi, p⟩
  obtain ⟨ha, hb⟩ := hl i H2 hi p
  by_cases hlt : i < min xs.length ys.length
  · have hx : i < xs.length := by omega
    have hy : i < ys.length := by omega
    refine .inr ⟨⟨xs, ys, xs[i], ys[i], ha, hb, by simp [hx], by simp [hy]⟩, Pv (i + 1), fun H' p' => ⟨min xs.length ys.length - (i + 1), by omega, rfl, hlt, p'⟩, fun x H' y => ?_⟩
    obtain ⟨T, u, v, hT, ex, eH, e1, e2⟩ := y
    subst ex eH
    exact hs i u v T H2 (e1 xs ha) (e2 ys hb) p hT
  · have e : i = min xs.length ys.length := by omega
    subst e
    exact .inl ⟨⟨xs, ys, ha, hb, by omega⟩, hd H2 p⟩
def Itd (o : Obj) (a : Addr) (kvs : List (Key × V)) : It :=
  ⟨fun i H => H a = some (.frz o (.dK kvs)) ∧ i < kvs.length, fun i H x H' => H' = H ∧ ∃ p, kvs[i]? = some p ∧ x = kV p.1, fun i H => H a = some (.frz o (.dK kvs)) ∧ kvs.length ≤ i⟩
def iDict (tl : TE) : TI := fun σ H R => tl σ H fun x H1 => ∃ a kvs, x = .ref a ∧ ((∃ o, H1 a = some (.frz o (.dK kvs)) ∧ R (Itd o a kvs) H1) ∨ (H1 a = some (.dK kvs) ∧ ∀ o, R (Itd o a kvs) (upd H1 a (.frz o (.dK kvs)))))
end L2
set_option Elab.async false
set_option linter.all false
set_option maxRecDepth 100000
set_option maxHeartbeats 4000000
namespace L2
open PySem PySem.Spec PyProof.Rows
theorem comp_tupR {K : PySem.W.Frag} {a : Addr} {xs : List V} {acc : Addr} {g : TG} {tt : TT} {te : TE} {σ : L2.St} {H : Hp} {R : Hp → Prop} (Pv : Nat → Hp → Prop) (h0 : Pv 0 (upd H acc (.lst []))) (hl : ∀ i H, i ≤ xs.length → Pv i H → SqT K H a xs)
    (hs : ∀ i x H, xs[i]? = some x → Pv i H → g x σ H fun σ2 H4 => Ext σ σ2 ∧ tt σ2 H4 fun b H5 =>
      if b = true then te σ2 H5 fun y H6 => ∃ zs, H6 acc = some (.lst zs) ∧ zs.length < sizeLine ∧ Pv (i + 1) (upd H6 acc (.lst (zs ++ [y]))) else Pv (i + 1) H5) (hd : ∀ H, Pv xs.length H → R H) :
    ∃ W : Nat → Nat → Hp → Prop, (∃ m, W 0 m (upd H acc (.lst []))) ∧ ∀ i m H2, W i m H2 →
      ((Itt K a).stop i H2 ∧ R H2) ∨ ((Itt K a).go i H2 ∧ ∃ N : Hp → Prop, (∀ H', N H' → ∃ m', m' < m ∧ W (i + 1) m' H') ∧ ∀ x H3, (Itt K a).yld i H2 x H3 → g x σ H3 fun σ2 H4 => Ext σ σ2 ∧ tt σ2 H4 fun b H5 =>
        if b = true then te σ2 H5 fun y H6 => ∃ zs, H6 acc = some (.lst zs) ∧ zs.length < sizeLine ∧ N (upd H6 acc (.lst (zs ++ [y])))
        else N H5) := by
  refine ⟨fun i m H => m = xs.length - i ∧ i ≤ xs.length ∧ Pv i H, ⟨xs.length, by simp, Nat.zero_le _, h0⟩, ?_⟩
  rintro i m H2 ⟨rfl, hi, p⟩
  have q := hl i H2 hi p
  by_cases hlt : i < xs.length
  · refine .inr ⟨⟨xs, xs[i], q, by simp [hlt]⟩, Pv (i + 1), fun H' p' => ⟨xs.length - (i + 1), by omega, rfl, hlt, p'⟩, fun x H' y => ?_⟩
    obtain ⟨e, y⟩ := y
    subst e
    exact hs i x _ (y xs q) p
  · have e : i = xs.length := by omega
    subst e
    exact .inl ⟨⟨xs, q, Nat.le_refl _⟩, hd H2 p⟩
theorem pg_tupK {X : Cx} {K : PySem.W.Frag} {es : List Expr} {k : Nat} {t : TGs} {n : Nat} {pos : Pos} (hK : X.K = K) (hc : X.calm = true) (h : PGs X es t)
    (hn : (assignEach es X.env).length = n := by rfl) (hst : (assignEach es X.env).findIdx? (·.1) = none := by rfl) : PG X (.Tuple es k pos) (gTup K n t) := hK ▸ pg_tup hc h hn hst
section
variable {X : Cx}
theorem bools_back : ∀ {bs : List Bool} {us : List Value}, Vals (bs.map V.bl) us → LSm.BoolsAre us bs
  | [], _, h => by cases h; exact .nil
  | b :: bs, _, h => by
    cases h with
    | cons r t =>
      cases r
      exact .cons b (bools_back t)
theorem call_allL (hc : X.calm = true) : CallR X (.builtin "all") (fun xs H Q => ∃ (l : Addr) (bs : List Bool), xs = [.ref l] ∧ H l = some (.lst (bs.map V.bl)) ∧ Q (.bl (bs.all id)) H) := by
  intro pins s σ H xs us Q I r h
  obtain ⟨l, bs, rfl, hl, q⟩ := h
  obtain ⟨u, rfl, ru⟩ := vals1 r
  cases ru
  obtain ⟨_, its, n, rv, le, e⟩ := I.lstM hl
  have L1 : s.heap.IsList l its.toArray := ⟨_, e, rfl, _, rfl⟩
  have hb := bools_back rv
  have hlt : l < s.heap.objs.size := Heap.lt_size e
  refine call_all_walk (wpAny_pyIter_list L1 ?_)
  refine ⟨s.heap.objs.size, [s.heap.objs.size, l], [s.heap.objs.size], its.toArray.size, _, _, fun i => (bs[i]?).getD true, rfl, Walks.list (A := X.A.in1) (I.ok.hd hc) _ l (Nat.ne_of_lt hlt) its.toArray,
    ⟨⟨_, Heap.get?_push_size _ rfl, rfl, rfl⟩, L1.push _⟩, fun i v s' Q' E' hP hQ => ?_, fun h' tk hk => ?_⟩
  · obtain ⟨b, e, rfl⟩ := hb.get i v (by simpa using hP)
    simp only [e, Option.getD_some] at hQ
    exact wpAny_truthy_bool hQ
  · have e : ((List.range its.toArray.size).all fun i => (bs[i]?).getD true) = bs.all id := by
      rw [List.size_toArray, hb.length]; exact LSm.range_all bs
    rw [e]
    exact ⟨.bl (bs.all id), H, I.kept (LSm.kept_iter hk), rfl, q⟩
def CMulC (i j : Int) : Prop := i.natAbs < 2 ^ 500 ∧ j.natAbs < 2 ^ 500
structure KDic (K : PySem.W.Frag) (P : Params) (d : Addr) : Prop where
  ex : ∃ (es : Array DictEntry) (n : Nat), K.lookup d = some ⟨.type "dict", none, .dict es n, #[]⟩ ∧ PySem.W.KeysLit P es.toList
  sy : (d == sysModules) = false
def rNotInK (d : Addr) : R2 := fun x y H Q => ∃ (z : Str) (r : Option Value), x = .str z ∧ y = .ref d ∧ PySem.W.nsIn X.K d z = some r ∧ Q (.bl (!r.isSome)) H
def rIxK (d : Addr) : R2 := fun x y H Q => ∃ (z : Str) (r : Value) (v : V), x = .ref d ∧ y = .str z ∧ PySem.W.nsIn X.K d z = some (some r) ∧ RelV v r ∧ Q v H
theorem getItem_tuple_whole {prog : Program} {w : World} {A : Around} {E : Value → Shared → Prop} {s : Shared} {t sl : Addr} {items : Array Value} {vl vu : Value} {lo hi : Option Int} {Q : Value → Shared → Prop} (ht : IsTup s.heap t items) (hs : s.heap.IsSliceOf sl vl vu .none) (pl : IsPart vl lo) (pu : IsPart vu hi)
    (hw : HT.sIx items.size 0 lo = 0 ∧ HT.sIx items.size items.size hi = items.size) (h : Q (.ref t) s) : wpAny (model prog w) A (getItem (.ref t) (.ref sl)) Q E s := by
  obtain ⟨os, hos, hcs, hds⟩ := id hs
  have hTs : s.TypeIs (.ref sl) "slice" := ⟨os, hos, hcs⟩
  unfold getItem
  try with_reducible refine wpAny_holding ?_
  first | refine wpAny_bind (wpAny_pure ?_) | skip
  refine wpAny_bind (wpAny_sequenceKey ht.typeIs (by decide) ?_)
  refine wpAny_bind (wpAny_callSpecial?_slot (name := Str.ofString "__getitem__") ht.typeIs PyProof.Rows.slot_tuple_getitem
    (wpAny_call_entry PyProof.Rows.slot_tuple_getitem ht.typeIs entry_tuple_getitem ?_ (args_tuple_getitem _ _)))
  show wpAny _ _ (Builtin.Tuple.tupleItemsOf (.ref t) >>= _) _ _ s
  refine wpAny_bind (tupleItemsOf_ ht ?_)
  refine wpAny_bind (wpAny_typeOf hTs ?_)
  rw [if_pos (by decide)]
  refine wpAny_bind (HT.sliceApplied_gen hs pl pu ?_)
  have hyes : (((HT.sIx items.size 0 lo : Nat) : Int) == 0 && (1 : Int) == 1 && (HT.sIx items.size items.size hi - HT.sIx items.size 0 lo) == items.size) = true := by
    rw [hw.1, hw.2]; simp
  show wpAny _ _ (if (((HT.sIx items.size 0 lo : Nat) : Int) == 0 && (1 : Int) == 1 && (HT.sIx items.size items.size hi - HT.sIx items.size 0 lo) == items.size) = true then _ else _) _ _ s
  rw [if_pos hyes]
  refine wpAny_bind ?_
  unfold Builtin.Tuple.tupleIsExact
  refine wpAny_bind (wpAny_typeOf ht.typeIs (wpAny_pure ?_))
  rw [if_pos (by decide)]
  first
    | exact wpAny_bind (wpAny_rule (wpAny_bind (wpAny_pure (wpAny_pure ⟨_, rfl, wpAny_pure h⟩))))
    | exact wpAny_bind (wpAny_rule (wpAny_pure ⟨_, rfl, wpAny_pure h⟩))
    | exact wpAny_bind (wpAny_rule (wpAny_bind (wpAny_pure ⟨_, rfl, wpAny_pure h⟩)))
def rSlW : V → Option Int → Option Int → Hp → VK → Prop := fun x lo hi H Q => ∃ a xs, x = .ref a ∧ H a = some (.tup xs) ∧ ∀ p H', Same H H' → H' p = some (.tup (cutV xs lo hi)) → Q (.ref p) H'
theorem sl_tupW : SlR X rSlW := by
  intro pins s σ H x v vl vu lo hi sl Q I rx hs pl pu h
  obtain ⟨a, xs, rfl, ha, q⟩ := h
  by_cases hw : HT.sIx xs.length 0 lo = 0 ∧ HT.sIx xs.length xs.length hi = xs.length
  · cases rx
    obtain ⟨its, r, ht, hz⟩ := I.tuple (SqT.of ha)
    have hlen : its.toArray.size = xs.length := by rw [List.size_toArray]; exact r.length.symm
    refine ⟨"tuple", _, PyProof.Rows.slot_tuple_getitem.lookup, ht.typeIs, ?_⟩
    refine getItem_tuple_whole ht hs pl pu (by rw [hlen]; exact hw) ⟨.ref a, H, I, rfl, q a H (.refl H) ?_⟩
    rw [ha]
    unfold cutV
    rw [hw.1, hw.2]
    simp
  · exact sl_tup pins s σ H (.ref a) v vl vu lo hi sl Q I rx hs pl pu ⟨a, xs, rfl, SqT.of ha, hw, fun p hp => q p _ (same_upd hp) upd_same⟩
end
structure Sd (p : Prop) : Prop where
  un : p
section
variable {X : Cx} {st : Stmt} {rest : List Stmt} {t u : TS} {e a b : Expr} {es : List Expr} {te ta tb : TE} {tA : TA} {pos : Pos}
theorem pss_consS (h1 : Sd (PS X st t)) (h2 : Sd (PSs X rest u)) : Sd (PSs X (st :: rest) (tSeq t u)) := ⟨pss_cons h1.un h2.un⟩
theorem pss_oneS (h1 : Sd (PS X st t)) : Sd (PSs X [st] t) := ⟨pss_one h1.un⟩
theorem ps_ifS {c : Expr} {x y : List Stmt} {tc : TT} (hc : Sd (PT X c tc)) (ha : Sd (PSs X x t)) (hb : Sd (PSs X y u)) : Sd (PS X (.If c x y pos) (tIfS tc t u)) := ⟨ps_if hc.un ha.un hb.un⟩
theorem ps_retS (he : Sd (PE X e te)) : Sd (PS X (.Return (some e) pos) (tRet te)) := ⟨ps_ret he.un⟩
theorem ps_setS {i : Nat} {x : Str} {pos' : Pos} (hN : X.N.Nodup) (hi : X.N[i]? = some x) (hx : Loc X.env.scope x) (he : Sd (PE X e te)) (hs : swapsWith e (some (.Name x pos')) pos.line X.env = pure false := by rfl) (hf : X.fn x = true ∨ X.env.scope.names.lookup x = some .local := by first | exact .inl rfl | exact .inr rfl | assumption) :
    Sd (PS X (.Assign [.Name x pos'] e pos) (tAsg te (gName i))) := ⟨ps_set hN hi hx he.un hs hf⟩
theorem pe_tupS {k : Nat} (h : Sd (PA X es tA)) : Sd (PE X (.Tuple es k pos) (tTup tA)) := ⟨pe_tup h.un⟩
theorem pe_lstS (h : Sd (PA X es tA)) : Sd (PE X (.List es pos) (tLst tA)) := ⟨pe_lst h.un⟩
theorem pa_consS (ha : Sd (PE X e te)) (hr : Sd (PA X es tA)) (hs : starEach (e :: es) X.env = (false, eval e X.env) :: starEach es X.env := by rfl) : Sd (PA X (e :: es) (tCons te tA)) := ⟨pa_cons ha.un hr.un hs⟩
theorem pe_ixS {r : R2} (hr : IxR X r) (ha : Sd (PE X a ta)) (hb : Sd (PE X b tb)) (hs : PlainIx b) : Sd (PE X (.Subscript a b pos) (tOp r ta tb)) := ⟨pe_ix hr ha.un hb.un hs⟩
end
end L2
set_option Elab.async false
set_option linter.all false
set_option maxRecDepth 100000
set_option maxHeartbeats 4000000
namespace L2
open PySem PySem.Spec PyProof.Rows
section
variable {prog : Program} {w : World} {A : Around} {E : Value → Shared → Prop} {s : Shared}
abbrev ZipF (h : Heap) (z TI TO : Addr) (f0 : Value) (f1 : Bool) : Prop := h.get? z = some { cls := .type "zip", data := .fields #[f0, .bool f1, .bool false, .ref TI, .ref TO] }
def ZipS (h : Heap) (z TI TO : Addr) : Prop := ∃ f0 f1, ZipF h z TI TO f0 f1 ∧ (f0 = .none ∨ ∃ n : Nat, f0 = rawInt n)
theorem wpAny_alive {M : Model} {a : Addr} {Q : Option Obj → Shared → Prop} (h : Q (s.heap.get? a) s) : wpAny M A (loadIfAlive a) Q E s := by
  intro Γ p hΓ
  show Sem.wp M Γ (Sem.loadIfAlive a pure) _ _ p s
  rw [Sem.wp_loadIfAlive]
  exact h
theorem zip_free {z TI TO : Addr} {f0 : Value} {f1 : Bool} {Q : Bool → Shared → Prop} (hz : ZipF s.heap z TI TO f0 f1) (hf : f0 = .none ∨ ∃ n : Nat, f0 = rawInt n) (h1 : Q true s)
    (h2 : ∀ h', ZipF h' z TI TO f0 true → Heap.SameBut z s.heap h' → Q false { s with heap := h' }) : wpAny (model prog w) A (Builtin.SmallTypes.ownedTupleIsFree (.ref z)) Q E s := by
  unfold Builtin.SmallTypes.ownedTupleIsFree
  refine wpAny_bind (wpAny_field hz rfl (x := f0) rfl ?_)
  rcases hf with rfl | ⟨n, rfl⟩
  · exact wpAny_pure h1
  · show wpAny _ _ (loadIfAlive ((n : Int)).toNat >>= _) _ _ _
    refine wpAny_bind (wpAny_alive ?_)
    cases hg : s.heap.get? ((n : Int)).toNat with
    | none => exact wpAny_pure h1
    | some o =>
      show wpAny _ _ (field (.ref z) 1 >>= _) _ _ _
      refine wpAny_bind (wpAny_field hz rfl (x := .bool f1) rfl ?_)
      cases f1 with
      | true => exact wpAny_pure (h2 s.heap hz ⟨rfl, fun _ _ => rfl⟩)
      | false =>
        show wpAny _ _ (setField (.ref z) 1 (.bool true) >>= _) _ _ _
        exact wpAny_bind (wpAny_setField_rec hz (by simp) fun q hz1 hs1 => wpAny_pure (h2 q hz1 hs1))
theorem zipS_item {z TI TO i1 i2 l1 l2 : Addr} {k : Nat} {xs ys : Array Value} {x y a b : Value} {Q : Value → Shared → Prop} (D : ZipApart z TI TO i1 i2 l1 l2)
    (hz : ZipS s.heap z TI TO) (hTI : IsPair s.heap TI (.ref i1) (.ref i2)) (hTO : IsPair s.heap TO a b) (h1 : s.heap.IsTupleIter i1 l1 k) (h2 : s.heap.IsTupleIter i2 l2 k)
    (hl1 : s.heap.IsTuple l1 xs) (hl2 : s.heap.IsTuple l2 ys) (hx : xs[k]? = some x) (hy : ys[k]? = some y)
    (hQ : ∀ h', ZipS h' z TI TO → (∃ p q, IsPair h' TO p q) → h'.IsTupleIter i1 l1 (k + 1) → h'.IsTupleIter i2 l2 (k + 1) → IsPair h' s.heap.objs.size x y → h'.objs.size = s.heap.objs.size + 1 →
      (∀ c o, c ≠ z → c ≠ TO → c ≠ i1 → c ≠ i2 → s.heap.get? c = some o → h'.get? c = some o) → Q (.ref s.heap.objs.size) { s with heap := h' }) : wpAny (model prog w) A (Builtin.SmallTypes.nextOf (.ref z)) Q E s := by
  obtain ⟨f0, f1, hz, hf⟩ := hz
  have hT : s.TypeIs (.ref z) "zip" := ⟨_, hz, rfl⟩
  unfold Builtin.SmallTypes.nextOf
  refine wpAny_bind (wpAny_callSpecial?_slot (name := Str.ofString "__next__") hT F.slot_zip_next (wpAny_call_entry F.slot_zip_next hT F.entry_zip_next ?_ (F.args_zip_next_1 _)))
  show wpAny _ _ (field (.ref z) 2 >>= _) _ _ _; refine wpAny_bind (wpAny_field hz rfl (x := .bool false) rfl ?_)
  show wpAny _ _ (field (.ref z) 3 >>= _) _ _ _; refine wpAny_bind (wpAny_field hz rfl (x := .ref TI) rfl ?_); refine wpAny_bind (wpAny_seqItems hTI rfl ?_)
  show wpAny _ _ (Builtin.SmallTypes.ownedTupleIsFree (.ref z) >>= _) _ _ _
  refine wpAny_bind (zip_free hz hf ?_ fun q1 hz1 hs1 => ?_)
  · simp only [if_true]; refine wpAny_bind (wpAny_rule ?_); refine wpAny_bind (wpAny_field hz rfl (x := .ref TO) rfl ?_)
    refine wpAny_bind (wpAny_setField_rec hz (by simp) fun q1 hz1 hs1 => ?_); replace hz1 : ZipF q1 z TI TO .ellipsis f1 := hz1
    refine wpAny_bind ?_; simp only [List.zipIdx_cons, List.zipIdx_nil, List.forIn_cons, List.forIn_nil]
    refine wpAny_bind (wpAny_bind (wpAny_onRaise ?_)); show wpAny _ _ (Builtin.SmallTypes.nextOf (.ref i1) >>= _) _ _ _
    refine wpAny_bind (next_tup_item (itB h1 hs1 D.i1z) (tpB hl1 hs1 D.l1z) hx fun q2 j1 hs2 => wpAny_pure ?_)
    have hTO2 : IsPair q2 TO a b := hs2.extBut _ _ D.TOi1 (hs1.extBut _ _ D.TOz hTO)
    refine wpAny_bind (wpAny_seqItems hTO2 rfl ?_); refine wpAny_bind (wpAny_updateSeq_pair hTO2 fun q3 hTO3 hs3 => ?_); replace hTO3 : IsPair q3 TO x b := hTO3
    refine wpAny_bind (wpAny_letGo (wpAny_pure ?_)); refine wpAny_bind (wpAny_bind (wpAny_onRaise ?_)); show wpAny _ _ (Builtin.SmallTypes.nextOf (.ref i2) >>= _) _ _ _
    refine wpAny_bind (next_tup_item (itB (itB (itB h2 hs1 D.i2z) hs2 D.i12.symm) hs3 D.TOi2.symm) (tpB (tpB (tpB hl2 hs1 D.l2z) hs2 D.l2i1) hs3 D.l2TO) hy fun q4 j2 hs4 => wpAny_pure ?_)
    have hTO4 : IsPair q4 TO x b := hs4.extBut _ _ D.TOi2 hTO3
    refine wpAny_bind (wpAny_seqItems hTO4 rfl ?_); refine wpAny_bind (wpAny_updateSeq_pair hTO4 fun q5 hTO5 hs5 => ?_); replace hTO5 : IsPair q5 TO x y := hTO5
    refine wpAny_bind (wpAny_letGo (wpAny_pure (wpAny_pure ?_))); refine wpAny_bind (wpAny_seqItems hTO5 rfl ?_); refine wpAny_bind (wpAny_newTuple ?_)
    have hsz : q5.objs.size = s.heap.objs.size := by rw [hs5.1, hs4.1, hs3.1, hs2.1, hs1.1]
    have hz5 : ZipF q5 z TI TO .ellipsis f1 := hs5.extBut _ _ D.TOz.symm (hs4.extBut _ _ D.i2z.symm (hs3.extBut _ _ D.TOz.symm (hs2.extBut _ _ D.i1z.symm hz1)))
    have hk5 : ∀ c o, c ≠ z → c ≠ TO → c ≠ i1 → c ≠ i2 → s.heap.get? c = some o → q5.get? c = some o := fun c o c1 c2 c3 c4 e => hs5.extBut _ _ c2 (hs4.extBut _ _ c4 (hs3.extBut _ _ c2 (hs2.extBut _ _ c3 (hs1.extBut _ _ c1 e))))
    have j15 : q5.IsTupleIter i1 l1 (k + 1) := itB (itB (itB j1 hs3 D.TOi1.symm) hs4 D.i12) hs5 D.TOi1.symm
    have j25 : q5.IsTupleIter i2 l2 (k + 1) := itB j2 hs5 D.TOi2.symm
    have hzlt : z < q5.objs.size := Heap.lt_size hz5
    show wpAny _ _ (Builtin.SmallTypes.ownedTupleHandOut (.ref z) (.ref q5.objs.size) >>= _) _ _ _; refine wpAny_bind ?_; unfold Builtin.SmallTypes.ownedTupleHandOut
    have hz6 : ZipF (q5.push { cls := .type "tuple", data := .seq #[x, y] }) z TI TO .ellipsis f1 := Heap.get?_push_of_some _ hz5
    refine wpAny_bind (wpAny_setField_rec hz6 (by simp) fun q7 hz7 hs7 => ?_); replace hz7 : ZipF q7 z TI TO (rawInt q5.objs.size) f1 := hz7
    refine wpAny_setField_rec hz7 (by simp) fun q8 hz8 hs8 => ?_; replace hz8 : ZipF q8 z TI TO (rawInt q5.objs.size) false := hz8
    have up : ∀ c o, c ≠ z → q5.get? c = some o → q8.get? c = some o := fun c o c1 e => hs8.extBut _ _ c1 (hs7.extBut _ _ c1 (Heap.get?_push_of_some _ e))
    have hT8 : IsPair q8 q5.objs.size x y := hs8.extBut _ _ (Nat.ne_of_gt hzlt) (hs7.extBut _ _ (Nat.ne_of_gt hzlt) (Heap.get?_push_size _ rfl))
    have hsz8 : q8.objs.size = s.heap.objs.size + 1 := by rw [hs8.1, hs7.1, Heap.size_push, hsz]
    rw [hsz] at hz8 hT8
    refine wpAny_pure ⟨_, rfl, wpAny_pure ?_⟩
    show Q (.ref q5.objs.size) _
    rw [hsz]
    exact hQ q8 ⟨_, _, hz8, .inr ⟨_, rfl⟩⟩ ⟨_, _, up _ _ D.TOz hTO5⟩ (let ⟨o, e, r⟩ := j15; ⟨o, up _ o D.i1z e, r⟩) (let ⟨o, e, r⟩ := j25; ⟨o, up _ o D.i2z e, r⟩) hT8 hsz8 fun c o c1 c2 c3 c4 e => up c o c1 (hk5 c o c1 c2 c3 c4 e)
  · rw [if_neg Bool.false_ne_true]
    refine wpAny_bind ?_
    rw [← Array.forIn_toList]
    simp only [List.forIn_cons, List.forIn_nil]
    refine wpAny_bind (wpAny_bind (wpAny_holding ?_)); show wpAny _ _ (Builtin.SmallTypes.nextOf (.ref i1) >>= _) _ _ _
    refine wpAny_bind (next_tup_item (itB h1 hs1 D.i1z) (tpB hl1 hs1 D.l1z) hx fun q2 j1 hs2 => wpAny_pure (wpAny_pure ?_))
    refine wpAny_bind (wpAny_bind (wpAny_holding ?_)); show wpAny _ _ (Builtin.SmallTypes.nextOf (.ref i2) >>= _) _ _ _
    refine wpAny_bind (next_tup_item (itB (itB h2 hs1 D.i2z) hs2 D.i12.symm) (tpB (tpB hl2 hs1 D.l2z) hs2 D.l2i1) hy fun q4 j2 hs4 => wpAny_pure (wpAny_pure (wpAny_pure ?_)))
    refine wpAny_bind (wpAny_newTuple ?_ (by show 2 ≤ sizeLine; decide))
    have hsz : q4.objs.size = s.heap.objs.size := by rw [hs4.1, hs2.1, hs1.1]
    have hz4 : ZipF q4 z TI TO f0 true := hs4.extBut _ _ D.i2z.symm (hs2.extBut _ _ D.i1z.symm hz1)
    have up : ∀ c o, q4.get? c = some o → (q4.push { cls := .type "tuple", data := .seq #[x, y] }).get? c = some o := fun c o e => Heap.get?_push_of_some _ e
    have hk4 : ∀ c o, c ≠ z → c ≠ TO → c ≠ i1 → c ≠ i2 → s.heap.get? c = some o → q4.get? c = some o := fun c o c1 c2 c3 c4 e => hs4.extBut _ _ c4 (hs2.extBut _ _ c3 (hs1.extBut _ _ c1 e))
    have hT8 : IsPair (q4.push { cls := .type "tuple", data := .seq #[x, y] }) q4.objs.size x y := Heap.get?_push_size _ rfl
    have hTO4 : IsPair q4 TO a b := hs4.extBut _ _ D.TOi2 (hs2.extBut _ _ D.TOi1 (hs1.extBut _ _ D.TOz hTO))
    have hsz8 : (q4.push { cls := .type "tuple", data := .seq #[x, y] }).objs.size = s.heap.objs.size + 1 := by rw [Heap.size_push, hsz]
    refine wpAny_pure ⟨_, rfl, wpAny_pure ?_⟩
    show Q (.ref q4.objs.size) { s with heap := q4.push { cls := .type "tuple", data := .seq #[x, y] } }
    rw [hsz] at hT8 ⊢
    exact hQ _ ⟨_, _, up _ _ hz4, hf⟩ ⟨_, _, up _ _ hTO4⟩ (let ⟨o, e, r⟩ := itB j1 hs4 D.i12; ⟨o, up _ o e, r⟩) (let ⟨o, e, r⟩ := j2; ⟨o, up _ o e, r⟩) hT8 hsz8 fun c o c1 c2 c3 c4 e => up c o (hk4 c o c1 c2 c3 c4 e)
theorem zipS_end {z TI TO i1 i2 l1 l2 : Addr} {k : Nat} {xs ys : Array Value} {a b : Value} {Q : Value → Shared → Prop} (hh : A.handled = none) (D : ZipApart z TI TO i1 i2 l1 l2)
    (hz : ZipS s.heap z TI TO) (hTI : IsPair s.heap TI (.ref i1) (.ref i2)) (hTO : IsPair s.heap TO a b) (h1 : s.heap.IsTupleIter i1 l1 k) (h2 : s.heap.IsTupleIter i2 l2 k)
    (hl1 : s.heap.IsTuple l1 xs) (hl2 : s.heap.IsTuple l2 ys) (hend : xs[k]? = none ∨ ys[k]? = none)
    (hE : ∀ h' e, (∀ c o, c ≠ z → c ≠ TO → c ≠ i1 → c ≠ i2 → s.heap.get? c = some o → h'.get? c = some o) → (∃ o, h'.get? e = some o ∧ o.cls = .type "StopIteration") → E (.ref e) { s with heap := h' }) : wpAny (model prog w) A (Builtin.SmallTypes.nextOf (.ref z)) Q E s := by
  obtain ⟨f0, f1, hz, hf⟩ := hz
  have hT : s.TypeIs (.ref z) "zip" := ⟨_, hz, rfl⟩
  unfold Builtin.SmallTypes.nextOf
  refine wpAny_bind (wpAny_callSpecial?_slot (name := Str.ofString "__next__") hT F.slot_zip_next (wpAny_call_entry F.slot_zip_next hT F.entry_zip_next ?_ (F.args_zip_next_1 _)))
  show wpAny _ _ (field (.ref z) 2 >>= _) _ _ _; refine wpAny_bind (wpAny_field hz rfl (x := .bool false) rfl ?_)
  show wpAny _ _ (field (.ref z) 3 >>= _) _ _ _; refine wpAny_bind (wpAny_field hz rfl (x := .ref TI) rfl ?_); refine wpAny_bind (wpAny_seqItems hTI rfl ?_)
  show wpAny _ _ (Builtin.SmallTypes.ownedTupleIsFree (.ref z) >>= _) _ _ _
  refine wpAny_bind (zip_free hz hf ?_ fun q1 hz1 hs1 => ?_)
  · simp only [if_true]; refine wpAny_bind (wpAny_rule ?_); refine wpAny_bind (wpAny_field hz rfl (x := .ref TO) rfl ?_)
    refine wpAny_bind (wpAny_setField_rec hz (by simp) fun q1 hz1 hs1 => ?_); replace hz1 : ZipF q1 z TI TO .ellipsis f1 := hz1
    refine wpAny_bind ?_; simp only [List.zipIdx_cons, List.zipIdx_nil, List.forIn_cons, List.forIn_nil]
    refine wpAny_bind (wpAny_bind (wpAny_onRaise ?_)); show wpAny _ _ (Builtin.SmallTypes.nextOf (.ref i1) >>= _) _ _ _
    cases hx : xs[k]? with
    | none =>
      refine wpAny_bind (next_tup_end hh (itB h1 hs1 D.i1z) (tpB hl1 hs1 D.l1z) hx fun q2 e hs2 he => ?_)
      obtain ⟨oe, hoe, hce⟩ := he
      have hz2 : ZipF q2 z TI TO .ellipsis f1 := hs2 _ _ D.i1z.symm hz1
      have hez : e ≠ z := fun x => by subst x; rw [hz2] at hoe; cases hoe; simp at hce
      exact wpAny_setField_rec hz2 (by simp) fun q3 _ hs3 => hE q3 e (fun c o c1 _ c3 _ x => hs3.extBut _ _ c1 (hs2 _ _ c3 (hs1.extBut _ _ c1 x))) ⟨oe, hs3.extBut _ _ hez hoe, hce⟩
    | some x =>
      have hy : ys[k]? = none := by rcases hend with h | h; rw [hx] at h; cases h; exact h
      refine wpAny_bind (next_tup_item (itB h1 hs1 D.i1z) (tpB hl1 hs1 D.l1z) hx fun q2 j1 hs2 => wpAny_pure ?_)
      have hTO2 : IsPair q2 TO a b := hs2.extBut _ _ D.TOi1 (hs1.extBut _ _ D.TOz hTO)
      refine wpAny_bind (wpAny_seqItems hTO2 rfl ?_); refine wpAny_bind (wpAny_updateSeq_pair hTO2 fun q3 hTO3 hs3 => ?_)
      refine wpAny_bind (wpAny_letGo (wpAny_pure ?_)); refine wpAny_bind (wpAny_bind (wpAny_onRaise ?_)); show wpAny _ _ (Builtin.SmallTypes.nextOf (.ref i2) >>= _) _ _ _
      refine wpAny_bind (next_tup_end hh (itB (itB (itB h2 hs1 D.i2z) hs2 D.i12.symm) hs3 D.TOi2.symm) (tpB (tpB (tpB hl2 hs1 D.l2z) hs2 D.l2i1) hs3 D.l2TO) hy fun q4 e hs4 he => ?_)
      obtain ⟨oe, hoe, hce⟩ := he
      have hz4 : ZipF q4 z TI TO .ellipsis f1 := hs4 _ _ D.i2z.symm (hs3.extBut _ _ D.TOz.symm (hs2.extBut _ _ D.i1z.symm hz1))
      have hez : e ≠ z := fun x => by subst x; rw [hz4] at hoe; cases hoe; simp at hce
      exact wpAny_setField_rec hz4 (by simp) fun q5 _ hs5 => hE q5 e (fun c o c1 c2 c3 c4 x => hs5.extBut _ _ c1 (hs4 _ _ c4 (hs3.extBut _ _ c2 (hs2.extBut _ _ c3 (hs1.extBut _ _ c1 x))))) ⟨oe, hs5.extBut _ _ hez hoe, hce⟩
  · rw [if_neg Bool.false_ne_true]
    refine wpAny_bind ?_
    rw [← Array.forIn_toList]
    simp only [List.forIn_cons, List.forIn_nil]
    refine wpAny_bind (wpAny_bind (wpAny_holding ?_)); show wpAny _ _ (Builtin.SmallTypes.nextOf (.ref i1) >>= _) _ _ _
    cases hx : xs[k]? with
    | none =>
      refine wpAny_bind (next_tup_end hh (itB h1 hs1 D.i1z) (tpB hl1 hs1 D.l1z) hx fun q2 e hs2 he => ?_)
      exact hE q2 e (fun c o c1 _ c3 _ x => hs2 _ _ c3 (hs1.extBut _ _ c1 x)) he
    | some x =>
      have hy : ys[k]? = none := by rcases hend with h | h; rw [hx] at h; cases h; exact h
      refine wpAny_bind (next_tup_item (itB h1 hs1 D.i1z) (tpB hl1 hs1 D.l1z) hx fun q2 j1 hs2 => wpAny_pure (wpAny_pure ?_))
      refine wpAny_bind (wpAny_bind (wpAny_holding ?_)); show wpAny _ _ (Builtin.SmallTypes.nextOf (.ref i2) >>= _) _ _ _
      refine wpAny_bind (next_tup_end hh (itB (itB h2 hs1 D.i2z) hs2 D.i12.symm) (tpB (tpB hl2 hs1 D.l2z) hs2 D.l2i1) hy fun q4 e hs4 he => ?_)
      exact hE q4 e (fun c o c1 _ c3 c4 x => hs4 _ _ c4 (hs2.extBut _ _ c3 (hs1.extBut _ _ c1 x))) he
end
def Itez (a b : Addr) : It :=
  ⟨fun i H => ∃ xs ys x y, H a = some (.tup xs) ∧ H b = some (.tup ys) ∧ xs[i]? = some x ∧ ys[i]? = some y,
   fun i H v H' => ∃ T U x y, H U = none ∧ (upd H U (.tup [x, y])) T = none ∧ v = .ref T ∧ H' = upd (upd H U (.tup [x, y])) T (.tup [.int i, .ref U]) ∧ (∀ xs, H a = some (.tup xs) → xs[i]? = some x) ∧ ∀ ys, H b = some (.tup ys) → ys[i]? = some y,
   fun i H => ∃ xs ys, H a = some (.tup xs) ∧ H b = some (.tup ys) ∧ (xs.length ≤ i ∨ ys.length ≤ i)⟩
abbrev EnZ (a b e z TI TO i1 i2 : Addr) (i : Nat) (h : Heap) : Prop := (∃ old, IsEnum h e z i old) ∧ ZipS h z TI TO ∧ IsPair h TI (.ref i1) (.ref i2) ∧ (∃ p q, IsPair h TO p q) ∧ h.IsTupleIter i1 a i ∧ h.IsTupleIter i2 b i
theorem turn_ez {P : Program} {w : World} {K : PySem.W.Frag} {es : List Expr} {kk : Nat} {pos : Pos} (a b e z TI TO i1 i2 : Addr)
    (ap : TI ≠ z ∧ TO ≠ z ∧ i1 ≠ z ∧ i2 ≠ z ∧ TI ≠ TO ∧ TI ≠ i1 ∧ TI ≠ i2 ∧ TO ≠ i1 ∧ TO ≠ i2 ∧ i1 ≠ i2) (ae : e ≠ z ∧ e ≠ TI ∧ e ≠ TO ∧ e ≠ i1 ∧ e ≠ i2) :
    Turn P w K (.Tuple es kk pos) (Itez a b) [e, z, TI, TO, i1, i2] e (EnZ a b e z TI TO i1 i2) where
  mem := by simp
  obj := fun i h st c hc => by
    obtain ⟨⟨old, he⟩, ⟨f0, f1, hz, _⟩, hTI, ⟨p, q, hTO⟩, ⟨o1, e1, c1, d1⟩, o2, e2, c2, d2⟩ := st
    simp only [List.mem_cons, List.not_mem_nil, or_false] at hc
    rcases hc with rfl | rfl | rfl | rfl | rfl | rfl
    · exact ⟨_, he, fun v z => by have z' : Data.fields _ = Data.cell v := z; cases z'⟩
    · exact ⟨_, hz, fun v z => by have z' : Data.fields _ = Data.cell v := z; cases z'⟩
    · exact ⟨_, hTI, fun v z => by have z' : Data.seq _ _ = Data.cell v := z; cases z'⟩
    · exact ⟨_, hTO, fun v z => by have z' : Data.seq _ _ = Data.cell v := z; cases z'⟩
    · exact ⟨o1, e1, fun v z => by rw [d1] at z; cases z⟩
    · exact ⟨o2, e2, fun v z => by rw [d2] at z; cases z⟩
  keep := fun i h h' st k => by
    obtain ⟨⟨old, he⟩, ⟨f0, f1, hz, hf⟩, hTI, ⟨p, q, hTO⟩, ⟨o1, e1, r1⟩, o2, e2, r2⟩ := st
    exact ⟨⟨old, k e (by simp) _ he⟩, ⟨f0, f1, k z (by simp) _ hz, hf⟩, k TI (by simp) _ hTI, ⟨p, q, k TO (by simp) _ hTO⟩, ⟨o1, k i1 (by simp) _ e1, r1⟩, o2, k i2 (by simp) _ e2, r2⟩
  item := by
    intro X hP hw hK hc i pins s σ H E I hf st hg
    subst hP hw hK
    obtain ⟨xs, ys, x, y, ha, hb, hx, hy⟩ := hg
    obtain ⟨⟨old, he⟩, hz, hTI, ⟨p, q, hTO⟩, h1, h2⟩ := st
    obtain ⟨its, rv, t1, _⟩ := I.tuple (SqT.of ha)
    obtain ⟨its2, rv2, t2, _⟩ := I.tuple (SqT.of hb)
    obtain ⟨u, hu, ru⟩ := rv.get hx
    obtain ⟨u2, hu2, ru2⟩ := rv2.get hy
    obtain ⟨n1, n2, n3, n4, n5, n6, n7, n8, n9, n10⟩ := ap
    obtain ⟨m1, m2, m3, m4, m5⟩ := ae
    have ne : ∀ {c d : Addr} {o : HO}, H c = some o → d ∈ [e, z, TI, TO, i1, i2] → c ≠ d := fun e hd => ne_of_none e (hf _ hd).1
    have D : ZipApart z TI TO i1 i2 a b := ⟨n1, n2, n3, n4, n5, n6, n7, n8, n9, n10, ne ha (by simp), ne ha (by simp), ne ha (by simp), ne ha (by simp), ne hb (by simp), ne hb (by simp), ne hb (by simp), ne hb (by simp)⟩
    have hT : s.TypeIs (.ref e) "enumerate" := ⟨_, he, rfl⟩
    have lts : ∀ c ∈ [e, z, TI, TO, i1, i2], c < s.heap.objs.size := fun c hc => by
      simp only [List.mem_cons, List.not_mem_nil, or_false] at hc
      rcases hc with rfl | rfl | rfl | rfl | rfl | rfl
      · exact Heap.lt_size (show s.heap.get? _ = some _ from he)
      · obtain ⟨_, _, hz, _⟩ := hz; exact Heap.lt_size (show s.heap.get? _ = some _ from hz)
      · exact Heap.lt_size (show s.heap.get? _ = some _ from hTI)
      · exact Heap.lt_size (show s.heap.get? _ = some _ from hTO)
      · obtain ⟨_, e, _⟩ := h1; exact Heap.lt_size e
      · obtain ⟨_, e, _⟩ := h2; exact Heap.lt_size e
    unfold pyNext
    refine wpAny_bind (wpAny_attempt (wpAny_callSpecial?_slot (name := Str.ofString "__next__") hT F.slot_enumerate_next (wpAny_call_entry F.slot_enumerate_next hT F.entry_enumerate_next ?_ (F.args_enumerate_next_1 _))))
    show wpAny _ _ (field (.ref e) 2 >>= _) _ _ _
    refine wpAny_bind (wpAny_field he rfl (x := .ref z) rfl ?_)
    refine wpAny_bind (zipS_item D hz hTI hTO h1 h2 (show s.heap.IsTuple a its.toArray from t1) (show s.heap.IsTuple b its2.toArray from t2) (by simpa using hu) (by simpa using hu2) fun q1 hz1 hTO1 j1 j2 hU hsz1 hk1 => ?_)
    have he1 : IsEnum q1 e z i old := hk1 _ _ m1 m3 m4 m5 he
    show wpAny _ _ (field (.ref e) 3 >>= _) _ _ _
    refine wpAny_bind (wpAny_field he1 rfl (x := rawInt i) rfl ?_)
    show wpAny _ _ (field (.ref e) 4 >>= _) _ _ _
    refine wpAny_bind (wpAny_field he1 rfl (x := .none) rfl ?_)
    show wpAny _ _ (mkInt (i : Int) >>= _) _ _ _
    refine wpAny_bind (wpAny_mkInt ?_)
    refine wpAny_bind (wpAny_setField_rec he1 (by simp) fun q2 he2 hs2 => ?_)
    refine wpAny_bind (wpAny_setField_rec he2 (by simp) fun q3 he3 hs3 => ?_)
    refine wpAny_bind (wpAny_newTuple ?_ (by show 2 ≤ sizeLine; decide))
    have hsz3 : q3.objs.size = s.heap.objs.size + 1 := by rw [hs3.1, hs2.1, hsz1]
    have he4 : IsEnum (q3.push { cls := .type "tuple", data := .seq #[.int i s.toks, .ref s.heap.objs.size] }) e z ((i : Int) + 1) old := Heap.get?_push_of_some _ he3
    show wpAny _ _ (Builtin.SmallTypes.ownedTupleIsFree (.ref e) >>= _) _ _ _
    refine wpAny_bind ?_
    unfold Builtin.SmallTypes.ownedTupleIsFree
    refine wpAny_bind (wpAny_field he4 rfl (x := .none) rfl (wpAny_pure ?_))
    simp only [if_true]
    refine wpAny_bind (wpAny_rule ?_)
    refine wpAny_bind (wpAny_field he4 rfl (x := old) rfl ?_)
    refine wpAny_bind (wpAny_setField_rec he4 (by simp) fun q5 he5 hs5 => ?_)
    show wpAny _ _ (Builtin.SmallTypes.ownedTupleHandOut (.ref e) (.ref q3.objs.size) >>= _) _ _ _; refine wpAny_bind ?_; unfold Builtin.SmallTypes.ownedTupleHandOut
    refine wpAny_bind (wpAny_setField_rec he5 (by simp) fun q6 he6 hs6 => ?_)
    refine wpAny_setField_rec he6 (by simp) fun q7 he7 hs7 => ?_
    refine wpAny_bind (wpAny_letGo ?_)
    refine wpAny_pure ⟨_, rfl, wpAny_pure ⟨_, rfl, ?_⟩⟩
    have hU7 : ∀ c o, c ≠ e → q3.get? c = some o → q7.get? c = some o := fun c o c1 h => hs7.extBut _ _ c1 (hs6.extBut _ _ c1 (hs5.extBut _ _ c1 (Heap.get?_push_of_some _ h)))
    have h17 : ∀ c o, c ≠ e → q1.get? c = some o → q7.get? c = some o := fun c o c1 h => hU7 c o c1 (hs3.extBut _ _ c1 (hs2.extBut _ _ c1 h))
    have eLt := lts e (by simp)
    have hT7 : IsPair q7 q3.objs.size (.int i s.toks) (.ref s.heap.objs.size) := by
      have nE : q3.objs.size ≠ e := by rw [hsz3]; exact Nat.ne_of_gt (Nat.lt_succ_of_lt eLt)
      exact hs7.extBut _ _ nE (hs6.extBut _ _ nE (hs5.extBut _ _ nE (Heap.get?_push_size _ rfl)))
    have hout : IsEnumOut q7 e z ((i : Int) + 1) (.ref s.heap.objs.size) q3.objs.size := he7
    have hn : H s.heap.objs.size = none := I.fresh
    have kAll : ∀ c o, c ∉ [e, z, TO, i1, i2] → s.heap.get? c = some o → q3.get? c = some o := fun c o hc h => hs3.extBut _ _ (fun q => hc (by simp [q])) (hs2.extBut _ _ (fun q => hc (by simp [q])) (hk1 c o (fun q => hc (by simp [q])) (fun q => hc (by simp [q])) (fun q => hc (by simp [q])) (fun q => hc (by simp [q])) h))
    have hfE : ∀ c ∈ [e, z, TO, i1, i2], FpOk X pins H c := fun c hc => hf c (by simp at hc ⊢; rcases hc with r | r | r | r | r <;> simp [r])
    have hU3 : IsPair q3 s.heap.objs.size u u2 := hs3.extBut _ _ (Nat.ne_of_gt eLt) (hs2.extBut _ _ (Nat.ne_of_gt eLt) hU)
    have neT : ∀ c ∈ [e, z, TI, TO, i1, i2], c ≠ s.heap.objs.size := fun c hc => Nat.ne_of_lt (lts c hc)
    have neT2 : ∀ c ∈ [e, z, TI, TO, i1, i2], c ≠ q3.objs.size := fun c hc => by rw [hsz3]; exact Nat.ne_of_lt (Nat.lt_succ_of_lt (lts c hc))
    have I1 : Inv X pins σ (upd H s.heap.objs.size (.tup [x, y])) { s with heap := q3, toks := s.toks + 1 } := I.turnedL (ch := [e, z, TO, i1, i2]) kAll hfE (Nat.le_refl _) ⟨Nat.le_of_lt (small1000 (show 2 ≤ 1000 by decide)), [u, u2], .cons ru (.cons ru2 .nil), _, hU3, rfl, _, rfl⟩
    have hn2 : (upd H s.heap.objs.size (.tup [x, y])) q3.objs.size = none := I1.fresh
    have fpE : FpOk X pins (upd H s.heap.objs.size (.tup [x, y])) e := by
      obtain ⟨f0, f⟩ := hf e (by simp)
      exact ⟨by rw [upd_ne (neT e (by simp))]; exact f0, f⟩
    have I2 : Inv X pins σ (upd (upd H s.heap.objs.size (.tup [x, y])) q3.objs.size (.tup [.int i, .ref s.heap.objs.size])) { s with heap := q7, toks := s.toks + 1 } := I1.turnedL (t' := s.toks + 1) (ch := [e]) (fun c o hc h => hU7 c o (fun q => hc (by simp [q])) h) (fun c hc => by rw [List.mem_singleton.mp hc]; exact fpE) (Nat.le_refl _)
      ⟨Nat.le_of_lt (small1000 (show 2 ≤ 1000 by decide)), [.int i s.toks, .ref s.heap.objs.size], .cons ⟨_, rfl⟩ (.cons rfl .nil), _, hT7, rfl, _, rfl⟩
    refine wpAny_letOwnedTupleGo_enum (s := { s with heap := q7, toks := s.toks + 1 }) hout fun h2 he2 hs2' => ⟨.ref q3.objs.size, _, ?_, rfl, ⟨_, _, x, y, hn, hn2, rfl, rfl, fun ws e => by rw [ha] at e; cases e; exact hx, fun ws e => by rw [hb] at e; cases e; exact hy⟩, ⟨⟨_, he2⟩, ?_, ?_, ?_, ?_, ?_⟩, fun c hc => ?_⟩
    · refine I2.turnedN (t' := s.toks + 1) (ch := [e]) (fun c o hc q => (hs2'.2 c (fun z => hc (by simp [z]))).trans q) fun c hc => ?_
      rw [List.mem_singleton.mp hc]
      obtain ⟨f0, f⟩ := fpE
      exact ⟨by rw [upd_ne (neT2 e (by simp))]; exact f0, f⟩
    · obtain ⟨f0, f1, hz1, hff⟩ := hz1
      exact ⟨f0, f1, hs2'.extBut _ _ m1.symm (h17 _ _ m1.symm hz1), hff⟩
    · exact hs2'.extBut _ _ m2.symm (h17 _ _ m2.symm (hk1 _ _ n1 n5 n6 n7 hTI))
    · obtain ⟨p', q', hTO1⟩ := hTO1
      exact ⟨p', q', hs2'.extBut _ _ m3.symm (h17 _ _ m3.symm hTO1)⟩
    · obtain ⟨o, q, r⟩ := j1
      exact ⟨o, hs2'.extBut _ _ m4.symm (h17 _ _ m4.symm q), r⟩
    · obtain ⟨o, q, r⟩ := j2
      exact ⟨o, hs2'.extBut _ _ m5.symm (h17 _ _ m5.symm q), r⟩
    · rw [upd_ne (neT2 c hc), upd_ne (neT c hc)]; exact (hf c hc).1
  done := by
    intro X hP hw hK hc i pins s σ H E I hf st hg
    subst hP hw hK
    obtain ⟨xs, ys, ha, hb, hend⟩ := hg
    obtain ⟨⟨old, he⟩, hz, hTI, ⟨p, q, hTO⟩, h1, h2⟩ := st
    obtain ⟨its, rv, t1, _⟩ := I.tuple (SqT.of ha)
    obtain ⟨its2, rv2, t2, _⟩ := I.tuple (SqT.of hb)
    have l1 := rv.length
    have l2 := rv2.length
    obtain ⟨n1, n2, n3, n4, n5, n6, n7, n8, n9, n10⟩ := ap
    have ne : ∀ {c d : Addr} {o : HO}, H c = some o → d ∈ [e, z, TI, TO, i1, i2] → c ≠ d := fun e hd => ne_of_none e (hf _ hd).1
    have D : ZipApart z TI TO i1 i2 a b := ⟨n1, n2, n3, n4, n5, n6, n7, n8, n9, n10, ne ha (by simp), ne ha (by simp), ne ha (by simp), ne ha (by simp), ne hb (by simp), ne hb (by simp), ne hb (by simp), ne hb (by simp)⟩
    have hT : s.TypeIs (.ref e) "enumerate" := ⟨_, he, rfl⟩
    unfold pyNext
    refine wpAny_bind (wpAny_attempt (wpAny_callSpecial?_slot (name := Str.ofString "__next__") hT F.slot_enumerate_next (wpAny_call_entry F.slot_enumerate_next hT F.entry_enumerate_next ?_ (F.args_enumerate_next_1 _))))
    show wpAny _ _ (field (.ref e) 2 >>= _) _ _ _
    refine wpAny_bind (wpAny_field he rfl (x := .ref z) rfl ?_)
    refine wpAny_bind (zipS_end (I.ok.hd hc) D hz hTI hTO h1 h2 (show s.heap.IsTuple a its.toArray from t1) (show s.heap.IsTuple b its2.toArray from t2) ?_ fun h1 x hx1 ⟨o, ho, hc'⟩ => ?_)
    · rcases hend with h | h
      · exact .inl (by simp; omega)
      · exact .inr (by simp; omega)
    refine wpAny_bind (wpAny_isInstance (T := "StopIteration") (b := true) ⟨o, ho, hc'⟩ isSubtype_stop ?_)
    exact wpAny_pure ⟨rfl, I.turnedN (t' := s.toks) (ch := [z, TO, i1, i2]) (fun c o hc q => hx1 c o (fun z => hc (by simp [z])) (fun z => hc (by simp [z])) (fun z => hc (by simp [z])) (fun z => hc (by simp [z])) q) fun c hc => hf c (by simp at hc ⊢; rcases hc with r | r | r | r <;> simp [r])⟩
  self := fun _ _ _ _ _ st h => let ⟨⟨_, he⟩, _⟩ := st; wpAny_pyIter_enum he h
theorem meets_enum_zip (z TI TO : Addr) :
    Meets (Builtin.«enumerate.__new__» ⟨[.type "enumerate", .ref z], []⟩) (fun _ R s => IsZip s.heap z TI TO .none ∧
      R (.ok (.ret (.ref s.heap.objs.size))) { s with heap := s.heap.push { cls := .type "enumerate", data := .fields #[.none, .bool false, .ref z, rawInt 0, .none, .none] } }) :=
  .of_wp fun prog w A R s h => by
    obtain ⟨hp, g, d, tk, os⟩ := s; obtain ⟨hl, h⟩ := h; have hsub := sub_enumerate
    have hL : IsZip (Shared.heap ⟨hp, g, d, tk, os⟩) z TI TO .none := hl
    wp_walk using AutoSeq1.wpAny_loadPart' hl
    refine wpAny_stack_any fun st => wpAny_pure ?_; split
    · rename_i c _ _ _ _ _; cases (c == Value.type "enumerate")
      · wp_walk using AutoSeq1.wpAny_loadPart' hl, wpAny_pyIter_zip hL; exact ⟨_, rfl, h⟩
      · wp_walk using AutoSeq1.wpAny_loadPart' hl, wpAny_pyIter_zip hL; exact ⟨_, rfl, h⟩
    · wp_walk using AutoSeq1.wpAny_loadPart' hl, wpAny_pyIter_zip hL; exact ⟨_, rfl, h⟩
theorem call_enum_zip {prog : Program} {w : World} {A : Around} {E : Value → Shared → Prop} {s : Shared} {z TI TO : Addr} {Q : Value → Shared → Prop} (hz : IsZip s.heap z TI TO .none)
    (h : ∀ h', IsEnum h' s.heap.objs.size z 0 .none → (∀ b o, s.heap.get? b = some o → h'.get? b = some o) → Q (.ref s.heap.objs.size) { s with heap := h' }) : wpAny (model prog w) A (call (.type "enumerate") [.ref z]) Q E s := by
  refine callType_new F.called_enumerate (by decide) (F.typeCall_enumerate_1 _) (F.newCall_enumerate_1 _) (fun obj => F.args_object_init_2 obj _) F.entry_enumerate_new (meets_enum_zip z TI TO) ⟨hz, ?_⟩
  exact ⟨⟨_, Heap.get?_push_size _ rfl, rfl⟩, h _ (Heap.get?_push_size _ rfl) fun b o x => Heap.get?_push_of_some _ x⟩
def iEnumZip (ta : TA) : TI := fun σ H R => ta σ H fun vs H1 => ∃ a b xs ys, vs = [.ref a, .ref b] ∧ H1 a = some (.tup xs) ∧ H1 b = some (.tup ys) ∧ R (Itez a b) H1
theorem pi_enumZip {X : Cx} {es : List Expr} {k : Nat} {tpos : Pos} {a b : Expr} {ta : TA} {p p2 pos pos2 : Pos} (hg : Gl X "enumerate") (hm : X.mg "enumerate" = none) (hg2 : Gl X "zip") (hm2 : X.mg "zip" = none) (ha : PA X [a, b] ta) (hs : starEach [a, b] X.env = [(false, eval a X.env), (false, eval b X.env)] := by rfl) (hs2 : starEach [b] X.env = [(false, eval b X.env)] := by rfl)
    (hs3 : starEach [Expr.Call (.Name "zip" p2) [a, b] [] pos2] X.env = [(false, eval (Expr.Call (.Name "zip" p2) [a, b] [] pos2) X.env)] := by rfl) :
    PI X (.Tuple es k tpos) (.Call (.Name "enumerate" p) [.Call (.Name "zip" p2) [a, b] [] pos2] [] pos) (iEnumZip ta) := by
  intro pins s σ H R I h
  refine Call_ (ld_blt I hg hm boot_enumerate (PyProof.Rows.callWith_type1 ?_ hs3 rfl))
  rw [hs3]
  show wpAny _ _ (spliced [(false, eval (Expr.Call (.Name "zip" p2) [a, b] [] pos2) X.env)]) _ _ s
  refine Calls.spliced_cons ?_
  refine Call_ (ld_blt I hg2 hm2 boot_zip' (PyProof.Rows.callWith_type1 (thn (ha pos2 pins s σ H _ I h) fun us s1 ⟨vs, H1, I1, r1, q1⟩ => ?_) (by rw [hs, hs2]) (by rw [hs2]; rfl)))
  obtain ⟨l1, l2, xs, ys, e, h1, h2, q⟩ := q1
  subst e
  obtain ⟨u, w', rfl, ru, rw'⟩ := vals2 r1
  cases ru
  cases rw'
  obtain ⟨its, rv, t1, _⟩ := I1.tuple (SqT.of h1)
  obtain ⟨its2, rv2, t2, _⟩ := I1.tuple (SqT.of h2)
  refine call_zipT (show s1.heap.IsTuple l1 its.toArray from t1) (show s1.heap.IsTuple l2 its2.toArray from t2) fun h' z TI TO i1 i2 a0 a1 a2 a3 a4 a5 a6 a7 a8 a9 b1 b2 => ?_
  refine Calls.spliced_nil ?_
  refine call_enum_zip (s := { s1 with heap := h' }) a7 fun h2 he hk => ?_
  have up : ∀ {c : Addr} {o : Obj}, h'.get? c = some o → h2.get? c = some o := fun e => hk _ _ e
  have lt : ∀ {c : Addr} {o : Obj}, h'.get? c = some o → h'.objs.size ≠ c := fun e => Nat.ne_of_gt (Heap.lt_size e)
  obtain ⟨o1, e1, r1'⟩ := b1
  obtain ⟨o2, e2, r2'⟩ := b2
  refine wpAny_pyIter_enum he ⟨_, [h'.objs.size, z, TI, TO, i1, i2], _, _, H1, rfl, I1.kept (t' := s1.toks) (fun c o e => hk c o (a0 c o e)), turn_ez l1 l2 h'.objs.size z TI TO i1 i2 a6 ⟨lt a7, lt a8, lt a9, lt e1, lt e2⟩,
    ⟨⟨_, he⟩, ⟨_, _, up a7, .inl rfl⟩, up a8, ⟨_, _, up a9⟩, ⟨o1, up e1, r1'⟩, ⟨o2, up e2, r2'⟩⟩, fun c hc => ?_, q⟩
  have ge : s1.heap.objs.size ≤ c := by
    have l0 : s1.heap.objs.size ≤ h'.objs.size := Nat.le_of_lt (Nat.lt_of_le_of_lt a1 (Heap.lt_size (show h'.get? z = some _ from a7)))
    simp only [List.mem_cons, List.not_mem_nil, or_false] at hc
    rcases hc with rfl | rfl | rfl | rfl | rfl | rfl <;> assumption
  exact I1.fpOk ge (I1.hok.fresh ge)
theorem for_ez {a b : Addr} {xs ys : List V} {g : TG} {tb : TS} {D : Ends} {σ : L2.St} {H : Hp} (Pv : Nat → L2.St → Hp → Prop) (h0 : Pv 0 σ H) (hl : ∀ i σ H, i ≤ min xs.length ys.length → Pv i σ H → H a = some (.tup xs) ∧ H b = some (.tup ys))
    (hs : ∀ i x y T U σ H, xs[i]? = some x → ys[i]? = some y → Pv i σ H → H U = none → (upd H U (.tup [x, y])) T = none → g (.ref T) σ (upd (upd H U (.tup [x, y])) T (.tup [.int i, .ref U])) fun σ2 H2 => tb { D with nx := Pv (i + 1), ct := Pv (i + 1), bk := D.nx } σ2 H2) (hd : ∀ σ H, Pv (min xs.length ys.length) σ H → D.nx σ H) :
    ∃ W : Nat → Nat → L2.St → Hp → Prop, (∃ m, W 0 m σ H) ∧ ∀ i m σ H, W i m σ H →
      ((Itez a b).stop i H ∧ D.nx σ H) ∨ ((Itez a b).go i H ∧ ∃ N : L2.St → Hp → Prop, (∀ σ' H', N σ' H' → ∃ m', m' < m ∧ W (i + 1) m' σ' H') ∧ ∀ x H', (Itez a b).yld i H x H' → g x σ H' fun σ2 H2 => tb { D with nx := N, ct := N, bk := D.nx } σ2 H2) := by
  refine ⟨fun i m σ H => m = min xs.length ys.length - i ∧ i ≤ min xs.length ys.length ∧ Pv i σ H, ⟨min xs.length ys.length, by simp, Nat.zero_le _, h0⟩, ?_⟩
  rintro i m σ H ⟨rfl, hi, p⟩
  obtain ⟨ha, hb⟩ := hl i σ H hi p
  by_cases hlt : i < min xs.length ys.length
  · have hx : i < xs.length := by omega
    have hy : i < ys.length := by omega
    refine .inr ⟨⟨xs, ys, xs[i], ys[i], ha, hb, by simp [hx], by simp [hy]⟩, Pv (i + 1), fun σ' H' p' => ⟨min xs.length ys.length - (i + 1), by omega, rfl, hlt, p'⟩, fun x H' y => ?_⟩
    obtain ⟨T, U, u, v, hU, hT, ex, eH, e1, e2⟩ := y
    subst ex eH
    exact hs i u v T U σ H (e1 xs ha) (e2 ys hb) p hU hT
  · have e : i = min xs.length ys.length := by omega
    subst e
    exact .inl ⟨⟨xs, ys, ha, hb, by omega⟩, hd σ H p⟩
end L2
set_option Elab.async false
set_option linter.all false
namespace L2
open PySem PySem.Spec PyProof.Rows
theorem noFill_tuple_mul : fillsNumberSlot (.type "tuple") "mul" = pure false := by kernel_rfl
theorem fill_int_mul : fillsNumberSlot (.type "int") "mul" = pure true := by kernel_rfl
theorem repeat_tup : seqRepeat? (.type "tuple") = pure (some (.builtin "tuple.__mul__")) := by kernel_rfl
theorem ix_intB : typeLookup (.type "int") (Str.ofString "__index__") = pure (some (.builtin "int.__index__")) := by rw [typeLookup_type, builtinLookup_eq_fast]; kernel_rfl
theorem rmul_tup (a : Int) (t : Tok) (l : Addr) (items : Array Value) (n : Nat) (d : Option Addr) (sl : Array (Option Value)) :
    Meets (Builtin.«int.__rmul__» ⟨[.int a t, .ref l], []⟩) (fun _ R s => s.heap.get? l = some { cls := .type "tuple", dict := d, data := .seq items n, slots := sl } ∧ R (.ok (.ret .notImplemented)) s) :=
  .of_wp fun prog w A R s h => by
    obtain ⟨hp, g, dd, tk, os⟩ := s; obtain ⟨hl, h⟩ := h
    wp_walk using AutoSeq1.wpAny_loadPart' hl
    exact ⟨_, rfl, h⟩
theorem mul_tup1 (t : Tok) (l : Addr) (items : Array Value) (n : Nat) (d : Option Addr) (sl : Array (Option Value)) :
    Meets (Builtin.«tuple.__mul__» ⟨[.ref l, .int 1 t], []⟩) (fun _ R s => s.heap.get? l = some { cls := .type "tuple", dict := d, data := .seq items n, slots := sl } ∧ R (.ok (.ret (.ref l))) s) :=
  .of_wp fun prog w A R s h => by
    obtain ⟨hp, g, dd, tk, os⟩ := s; obtain ⟨hl, h⟩ := h
    wp_walk using AutoSeq1.wpAny_loadPart' hl
    exact ⟨_, rfl, h⟩
theorem mul_tup0 (t : Tok) (l : Addr) (x : Value) (n : Nat) (d : Option Addr) (sl : Array (Option Value)) :
    Meets (Builtin.«tuple.__mul__» ⟨[.ref l, .int 0 t], []⟩) (fun _ R s => s.heap.get? l = some { cls := .type "tuple", dict := d, data := .seq #[x] n, slots := sl } ∧ R (.ok (.ret (.ref s.heap.objs.size))) { s with heap := s.heap.push { cls := .type "tuple", data := .seq #[] } }) :=
  .of_wp fun prog w A R s h => by
    obtain ⟨hp, g, dd, tk, os⟩ := s; obtain ⟨hl, h⟩ := h
    wp_walk using AutoSeq1.wpAny_loadPart' hl
    exact ⟨_, rfl, h⟩
section
variable {X : Cx}
def rMulT : R2 := fun x y H Q => ∃ (a : Addr) (v : V), x = .ref a ∧ H a = some (.tup [v]) ∧ ((y = .int 1 ∧ Q (.ref a) H) ∨ (y = .int 0 ∧ ∀ p, H p = none → Q (.ref p) (upd H p (.tup []))))
theorem op_mulT : OpR X (binaryOp .Mult) rMulT := by
  intro pins s σ H x y v u Q I rx ry h
  obtain ⟨a, z, rfl, ha, hc⟩ := h
  cases rx
  obtain ⟨its, rv, p, _⟩ := I.tuple (SqT.of ha)
  obtain ⟨⟨cls, dd, data, sl⟩, ho, hcl, n, hd⟩ := id p
  simp only at hcl hd
  subst hcl hd
  have ty : s.TypeIs (.ref a) "tuple" := ⟨_, ho, rfl⟩
  obtain ⟨u0, rfl, ru⟩ := vals1 rv
  rcases hc with ⟨rfl, q⟩ | ⟨rfl, q⟩
  · obtain ⟨t, rfl⟩ := ry
    refine wpAny_binaryOp_repeat_ref (T := "tuple") (U := "int") (by decide) ty (fun s' => typeIs_int _ _ _) noFill_tuple_mul fill_int_mul F.slot_int_rmul repeat_tup ix_intB ?_
    refine call_meets F.slot_int_rmul (typeIs_int _ _ _) F.entry_int_rmul (F.args_int_rmul_2 _ _) (rmul_tup _ _ _ _ _ _ _) ⟨ho, rfl, ty, ?_⟩
    exact call_meets F.slot_tuple_mul ty F.entry_tuple_mul (F.args_tuple_mul_2 _ _) (mul_tup1 t a _ n dd sl) ⟨ho, ⟨.ref a, H, I, rfl, q⟩⟩
  · obtain ⟨t, rfl⟩ := ry
    refine wpAny_binaryOp_repeat_ref (T := "tuple") (U := "int") (by decide) ty (fun s' => typeIs_int _ _ _) noFill_tuple_mul fill_int_mul F.slot_int_rmul repeat_tup ix_intB ?_
    refine call_meets F.slot_int_rmul (typeIs_int _ _ _) F.entry_int_rmul (F.args_int_rmul_2 _ _) (rmul_tup _ _ _ _ _ _ _) ⟨ho, rfl, ty, ?_⟩
    refine call_meets F.slot_tuple_mul ty F.entry_tuple_mul (F.args_tuple_mul_2 _ _) (mul_tup0 t a u0 n dd sl) ⟨ho, ?_⟩
    have hf : H s.heap.objs.size = none := I.fresh
    exact ⟨.ref s.heap.objs.size, upd H s.heap.objs.size (.tup []), I.laid (t' := s.toks) (fun b u e => Heap.get?_push_of_some _ e) (Nat.le_refl _) ⟨Nat.zero_le _, [], .nil, ⟨_, Heap.get?_push_size _ rfl, rfl, _, rfl⟩⟩, rfl, q _ hf⟩
end
section
variable {prog : Program} {w : World} {A : Around} {E : Value → Shared → Prop} {s : Shared}
theorem next_rvT {it t : Addr} {i : Nat} {items : Array Value} {x : Value} {Q : Option Value → Shared → Prop} (hit : s.heap.get? it = some (rvObj t (i : Int))) (ht : IsTup s.heap t items) (hne : t ≠ it) (hz : (items.size : Int) < 2 ^ 63) (hx : items[i]? = some x)
    (hQ : ∀ h', h'.get? it = some (rvObj t ((i : Int) - 1)) → Heap.SameBut it s.heap h' → Q (some x) { s with heap := h', toks := s.toks + 1 }) : wpAny (model prog w) A (pyNext (.ref it)) Q E s := by
  have hT : s.TypeIs (.ref it) "reversed" := ⟨_, hit, rfl⟩
  have hi : i < items.size := by
    rcases Nat.lt_or_ge i items.size with h | h
    · exact h
    · rw [Array.getElem?_eq_none h] at hx; cases hx
  unfold pyNext
  refine wpAny_bind (wpAny_attempt (wpAny_callSpecial?_slot (name := Str.ofString "__next__") hT rv_next (wpAny_call_entry rv_next hT rv_next_entry ?_ (rv_next_args _))))
  unfold Builtin.«reversed.__next__»; refine wpAny_bind (wpAny_of_eq (a := (Value.ref it, [])) rfl ?_); dsimp only
  refine wpAny_bind (wpAny_field hit rfl (x := .ref t) rfl ?_); refine wpAny_bind (wpAny_field hit rfl (x := rawInt (i : Int)) rfl ?_)
  show wpAny _ _ (if (i : Int) < 0 then _ else _) _ _ s; rw [if_neg (by omega)]
  show wpAny _ _ (specialOf (.ref t) "__getitem__" >>= _) _ _ s; refine wpAny_bind (wpAny_specialOf ht.typeIs slot_tuple_getitem.lookup ?_)
  rw [if_neg (by decide)]
  show wpAny _ _ (mkInt (i : Int) >>= _) _ _ s; refine wpAny_bind (wpAny_mkInt ?_)
  refine wpAny_bind (wpAny_attempt (getItem_tuple (j := i) (x := x) ht (by omega) (by omega) (seqIndex_of (by omega) (by omega)) hx ?_)); dsimp only
  refine wpAny_bind (wpAny_field hit rfl (x := rawInt (i : Int)) rfl ?_)
  refine wpAny_bind (wpAny_setField_rec hit (by simp) fun q1 h1 hs1 => ?_)
  refine wpAny_pure ⟨x, rfl, wpAny_pure (hQ q1 ?_ hs1)⟩
  exact h1
theorem end_rvT {it t : Addr} {i : Int} {Q : Option Value → Shared → Prop} (hh : A.handled = none) (hit : s.heap.get? it = some (rvObj t i)) (hi : i < 0)
    (hQ : ∀ h', Heap.ExtBut it s.heap h' → Q none { s with heap := h' }) : wpAny (model prog w) A (pyNext (.ref it)) Q E s := by
  have hT : s.TypeIs (.ref it) "reversed" := ⟨_, hit, rfl⟩
  unfold pyNext
  refine wpAny_bind (wpAny_attempt (wpAny_callSpecial?_slot (name := Str.ofString "__next__") hT rv_next (wpAny_call_entry rv_next hT rv_next_entry ?_ (rv_next_args _))))
  unfold Builtin.«reversed.__next__»; refine wpAny_bind (wpAny_of_eq (a := (Value.ref it, [])) rfl ?_); dsimp only
  refine wpAny_bind (wpAny_field hit rfl (x := .ref t) rfl ?_); refine wpAny_bind (wpAny_field hit rfl (x := rawInt i) rfl ?_)
  show wpAny _ _ (if i < 0 then _ else _) _ _ s; rw [if_pos hi]; refine wpAny_bind (wpAny_rule ?_)
  refine wpAny_bind ?_; show wpAny _ _ (setField (.ref it) 1 (rawInt (-1)) >>= _) _ _ s; refine wpAny_bind (wpAny_setField_rec hit (by simp) fun q1 h1 hs1 => ?_)
  refine wpAny_setField_rec h1 (by simp) fun q2 h2 hs2 => ?_
  refine wpAny_bind ?_; show wpAny _ _ (newExc (.type "StopIteration") [] >>= _) _ _ _; refine wpAny_bind ?_; simp only [newExc, newTuple]; refine wpAny_bind (wpAny_newObj_type ?_ (by size_fits))
  refine wpAny_bind (m := firstArgMember _ _) (wpAny_of_eq (a := Value.none) (by first | rfl | (simp only [firstArgMember]; rfl)) ?_); refine wpAny_newObj_type ?_ (by size_fits)
  simp only [raiseNew]; refine wpAny_bind (wpAny_handled ?_); first | rw [show A.in1.handled = none from hh] | rw [hh]
  refine wpAny_bind (wpAny_pure (wpAny_throw ?_)); refine wpAny_bind (wpAny_isInstance (T := "StopIteration") (b := true) ⟨_, Heap.get?_push_size _ rfl, rfl⟩ isSubtype_stop ?_)
  exact wpAny_pure (hQ _ (((hs1.extBut.trans hs2.extBut).push _).push _))
theorem walks_rv (hh : A.handled = none) (it t : Addr) (hne : t ≠ it) (items : Array Value) (hz : (items.size : Int) < 2 ^ 63) :
    WalksS prog w A it [it, t] [it] (fun a b => a = b) items.size (fun i v => items[items.size - 1 - i]? = some v) (fun i s => s.heap.get? it = some (rvObj t ((items.size : Int) - 1 - i)) ∧ IsTup s.heap t items) where
  sub := by simp
  grefl := fun _ => rfl
  gtrans := fun _ _ _ h1 h2 => h1.trans h2
  frame := fun i s h' tk st _ k => ⟨k it (by simp) _ st.1, let ⟨o, ho, r⟩ := st.2; ⟨o, k t (by simp) o ho, r⟩⟩
  item := fun i s Q E hi st hQ => by
    have e : ((items.size : Int) - 1 - i) = ((items.size - 1 - i : Nat) : Int) := by omega
    have hit := st.1
    rw [e] at hit
    have hx : items[items.size - 1 - i]? = some (items[items.size - 1 - i]'(by omega)) := by simp
    refine next_rvT hit st.2 hne hz hx fun h' h1 hs => hQ _ _ hx ⟨?_, ?_⟩ ⟨fun b o hb q => hs.extBut b o (by simpa using hb) q, rfl, rfl, rfl, Nat.le_succ _⟩
    · show h'.get? it = _
      rw [h1, show ((items.size - 1 - i : Nat) : Int) - 1 = (items.size : Int) - 1 - (i + 1 : Nat) by omega]
    · obtain ⟨o, ho, r⟩ := st.2
      exact ⟨o, hs.extBut t o hne ho, r⟩
  done := fun s Q E st hQ => end_rvT hh st.1 (by omega) fun h' hk => hQ _ ⟨fun b o hb q => hk b o (by simpa using hb) q, rfl, rfl, rfl, Nat.le_refl _⟩
  self := fun i s Q E st h => iter_rv st.1 h
theorem rv_hint : Slot "reversed" "__length_hint__" "reversed.__length_hint__" := .of (owner := "reversed") (n := "__length_hint__") (by rw [typeLookup_type, builtinLookup_eq_fast]; kernel_rfl) (by decide +kernel) (by decide +kernel) (by decide +kernel) (by first | exact .inl (by decide +kernel) | exact .inr (by decide +kernel)) (by rw [isSubtype_type]; kernel_rfl)
theorem rv_hint_entry : entryFor table "reversed.__length_hint__" = some Builtin.«reversed.__length_hint__» := entryFor_of_tree (by kernel_rfl)
theorem rv_hint_args (a : Value) : argsOk "reversed.__length_hint__" ⟨[a], []⟩ := by unfold argsOk; rw [signature?_of (id := "reversed.__length_hint__") (n := "__length_hint__".toList.reverse) (o := ['d', 'e', 's', 'r', 'e', 'v', 'e', 'r']) (by kernel_rfl) rv_owner]; kernel_rfl
theorem collect_rv {it t : Addr} {items : Array Value} {Q : List Value → Shared → Prop} (hh : A.handled = none) (hit : s.heap.get? it = some (rvObj t ((items.size : Int) - 1))) (ht : IsTup s.heap t items) (hne : t ≠ it) (hz : (items.size : Int) < 2 ^ 63) (hn : items.size ≤ 8)
    (hQ : ∀ s' : Shared, (∀ b o, b ≠ it → s.heap.get? b = some o → s'.heap.get? b = some o) → s'.gens = s.gens → s'.drawn = s.drawn → s'.os = s.os → Q items.toList.reverse s') : wpAny (model prog w) A (collect (.ref it)) Q E s := by
  have hT : s.TypeIs (.ref it) "reversed" := ⟨_, hit, rfl⟩
  have lt1 := Heap.lt_size hit
  have lt2 : t < s.heap.objs.size := let ⟨o, ho, _⟩ := ht; Heap.lt_size ho
  unfold collect
  refine wpAny_bind (wpAny_runValue (codeAny_builtin PyProof.Rows.entry_proto_collect' ?_))
  show wpAny _ _ (newList [] >>= _) _ _ _
  refine wpAny_bind (wpAny_newList ?_ (Nat.zero_le _))
  refine wpAny_pure ⟨plainId_quiet F.plain_list_iadd _, ?_⟩
  refine codeAny_builtin F.entry_list_iadd ?_
  show wpAny _ _ (Builtin.List.listExtendWith (.ref s.heap.objs.size) (.ref it) (.ref s.heap.objs.size)) _ _ _
  unfold Builtin.List.listExtendWith
  have hit2 : (s.heap.push { cls := .type "list", data := .seq #[] }).get? it = some (rvObj t ((items.size : Int) - 1)) := Heap.get?_push_of_some _ hit
  have hT2 : Shared.TypeIs { s with heap := s.heap.push { cls := .type "list", data := .seq #[] } } (.ref it) "reversed" := ⟨_, hit2, rfl⟩
  refine wpAny_bind (wpAny_typeOf hT2 ?_)
  rw [if_neg (by
    have hn1 : (s.heap.objs.size == it) = false := by simpa using Nat.ne_of_gt lt1
    simp only [Builtin.List.listSameRef, hn1]
    decide)]
  refine wpAny_bind (iter_rv hit2 ?_)
  refine wpAny_bind (wpAny_holding ?_)
  unfold Builtin.List.listLengthHint
  refine wpAny_bind (wpAny_specialOf hT2 (r := none) (by rw [typeLookup_type, builtinLookup_eq_fast]; kernel_rfl) ?_)
  dsimp only
  refine wpAny_bind (wpAny_specialOf hT2 (r := some (.builtin "reversed.__length_hint__")) (by rw [typeLookup_type, builtinLookup_eq_fast]; kernel_rfl) ?_)
  dsimp only
  rw [show splitId "reversed.__length_hint__" = some ("reversed", "__length_hint__") by kernel_rfl]
  dsimp only
  refine wpAny_bind (wpAny_isInstance (T := "reversed") (b := true) hT2 F.sub_reversed_self ?_)
  rw [if_neg (by decide), if_neg (by decide +kernel)]
  refine wpAny_bind (wpAny_rule ?_)
  refine wpAny_bind (wpAny_of_eq (a := (Value.builtin "reversed.__length_hint__", [Value.ref it])) (by first | rfl | kernel_rfl) ?_)
  have ht2 : IsTup (s.heap.push { cls := .type "list", data := .seq #[] }) t items := let ⟨o, ho, r⟩ := ht; ⟨o, Heap.get?_push_of_some _ ho, r⟩
  refine wpAny_bind (wpAny_attempt (wpAny_call_entry rv_hint hT2 rv_hint_entry ?_ (rv_hint_args _)))
  unfold Builtin.«reversed.__length_hint__»
  refine wpAny_bind (wpAny_of_eq (a := Value.ref it) rfl ?_)
  refine wpAny_bind (wpAny_field hit2 rfl (x := .ref t) rfl ?_)
  rw [if_neg (show ¬ ((Value.ref t == Value.none) = true) from Bool.false_ne_true)]
  refine wpAny_bind (len_tuple ht2 hz ?_)
  refine wpAny_bind (wpAny_of_eq (a := some (items.size : Int)) rfl ?_); dsimp only
  refine wpAny_bind (wpAny_field hit2 rfl (x := rawInt ((items.size : Int) - 1)) rfl ?_)
  show wpAny _ _ (if (items.size : Int) < (items.size : Int) - 1 + 1 then _ else _) _ _ _
  rw [if_neg (by omega)]
  unfold retInt
  refine wpAny_bind (wpAny_mkInt ?_)
  refine wpAny_pure ⟨_, rfl, ?_⟩
  dsimp only
  refine wpAny_bind (wpAny_of_eq (a := some ((items.size : Int) - 1 + 1)) rfl ?_); dsimp only
  have e8 : (items.size : Int) - 1 + 1 = (items.size : Int) := by omega
  rw [e8]
  have hfit : ∀ n : Nat, n ≤ 8 → Builtin.List.listFitsIndex (n : Int) = true := by decide
  have hlong : ∀ n : Nat, n ≤ 8 → Builtin.List.listTooLong (n : Int).toNat = false := by decide
  rw [if_neg (by rw [hfit _ hn]; decide), if_neg (by omega), if_neg (by rw [hlong _ hn]; decide)]
  refine wpAny_pure ?_
  have hS0 : (s.heap.push { cls := .type "list", data := .seq #[] }).get? s.heap.objs.size = some { cls := .type "list", data := .seq #[] } := Heap.get?_push_size _ rfl
  have nS : ∀ {c : Addr}, c < s.heap.objs.size → c ≠ s.heap.objs.size := fun h => Nat.ne_of_lt h
  have loop : ∀ (h2 : Heap) (c : Nat), h2.get? s.heap.objs.size = some { cls := .type "list", data := .seq #[] c } → (∀ b o, b ≠ s.heap.objs.size → s.heap.get? b = some o → h2.get? b = some o) →
      codeAny (model prog w) A (.builtin "list.extend.loop" { pos := [.ref s.heap.objs.size, .ref it, .ref s.heap.objs.size] })
        (fun r s' => match r with
          | .ok (.ret v) => wpAny (model prog w) A (match v with
            | .ref a => do
              let __do_lift ← load a
              match __do_lift.data with
                | .seq xs epoch => pure xs.toList
                | x => unsupported "internal:collect"
            | x => unsupported "internal:collect") Q E s'
          | .ok a => False
          | .error e => E e s') { s with heap := h2, toks := s.toks + 1 + 1 + 1 } := by
    intro h2 c hS hk
    refine codeAny_extend_loopS (walks_rv (A := A.in1) hh it t hne items hz) (by exact Nat.le_of_lt (small1000 (by omega))) s.heap.objs.size (by simp; exact ⟨(nS lt1).symm, (nS lt2).symm⟩) _ items.size 0 _ #[] c (by omega) (Nat.zero_le _) ⟨?_, ?_⟩ hS ⟨rfl, fun j v e => by simp at e⟩ fun s' acc c' hm hg hacc => ?_
    · show h2.get? it = _
      rw [hk it _ (nS lt1) hit]
      simp
    · obtain ⟨o, ho, r⟩ := ht
      exact ⟨o, hk t o (nS lt2) ho, r⟩
    · show wpAny _ _ (load s.heap.objs.size >>= _) _ _ _
      refine wpAny_bind (wpAny_load hg ?_)
      refine wpAny_pure ?_
      have ea : acc.toList = items.toList.reverse := by
        refine List.ext_getElem? fun j => ?_
        have h0 : acc.size = items.size := hacc.1
        by_cases hj : j < acc.size
        · have e1 : acc[j]? = some acc[j] := by simp [hj]
          have e2 := hacc.2 j _ e1
          rw [Array.getElem?_toList, e1, List.getElem?_reverse (by simp; omega)]
          simpa using e2.symm
        · rw [List.getElem?_eq_none (by simp; omega), List.getElem?_eq_none (by simp; omega)]
      rw [ea]
      exact hQ s' (fun b o hb q => hm.heap b o (by simp; exact ⟨fun z => absurd (Heap.lt_size q) (by rw [z]; exact Nat.lt_irrefl _), hb⟩) (hk b o (fun z => absurd (Heap.lt_size q) (by rw [z]; exact Nat.lt_irrefl _)) q)) hm.gens.symm hm.drawn hm.os
  split
  · refine wpAny_bind (wpAny_rule ?_)
    refine wpAny_bind ?_
    unfold Builtin.List.listTouch
    refine wpAny_bind (PyProof.Rows.listUpdate_at hS0 rfl ?_ (Nat.zero_le _) (by show 1 ≤ sizeLine + 1; omega))
    have hS1 := Heap.get?_update_self (Obj.mapSeq (fun x => x.push Value.none)) hS0 rfl
    refine PyProof.Rows.listUpdate_at hS1 rfl ?_ (by show 1 ≤ sizeLine; decide) (by show 0 ≤ sizeLine + 1; omega)
    have hS2 := Heap.get?_update_self (Obj.mapSeq (fun x => x.pop)) hS1 rfl
    refine wpAny_pure ⟨plainId_quiet F.plain_extend_loop _, loop _ _ hS2 fun b o hb q => (Heap.SameBut.update ..).extBut _ _ hb ((Heap.SameBut.update ..).extBut _ _ hb (Heap.get?_push_of_some _ q))⟩
  · exact wpAny_pure ⟨plainId_quiet F.plain_extend_loop _, loop _ _ hS0 fun b o hb q => Heap.get?_push_of_some _ q⟩
theorem meets_tupRev (it t : Addr) (items : Array Value) (hne : t ≠ it) (hz : (items.size : Int) < 2 ^ 63) (hn : items.size ≤ 8) :
    Meets (Builtin.«tuple.__new__» ⟨[.type "tuple", .ref it], []⟩) (fun A R s => A.handled = none ∧ s.heap.get? it = some (rvObj t ((items.size : Int) - 1)) ∧ IsTup s.heap t items ∧
      ∀ s' : Shared, (∀ b o, b ≠ it → s.heap.get? b = some o → s'.heap.get? b = some o) → s'.gens = s.gens → s'.drawn = s.drawn → s'.os = s.os →
        R (.ok (.ret (.ref s'.heap.objs.size))) { s' with heap := s'.heap.push { cls := .type "tuple", data := .seq items.toList.reverse.toArray } }) :=
  .of_wp fun prog w A R s h => by
    obtain ⟨hp, g, dd, tk, os⟩ := s; obtain ⟨hh, hl, ht, h⟩ := h
    have hl' : Heap.get? (Shared.heap ⟨hp, g, dd, tk, os⟩) it = some (rvObj t ((items.size : Int) - 1)) := hl
    have hh' : A.in1.handled = none := hh
    have hsub : isSubtype (.type "tuple") (.type "tuple") = pure true := by rw [isSubtype_type]; kernel_rfl
    have hini : typeLookup (.type "tuple") (Str.ofString "__init__") = pure (some (.builtin "object.__init__")) := by rw [typeLookup_type, builtinLookup_eq_fast]; kernel_rfl
    have hcol : ∀ {Q : List Value → Shared → Prop} {E : Value → Shared → Prop}, (∀ s' : Shared, (∀ b o, b ≠ it → hp.get? b = some o → s'.heap.get? b = some o) → s'.gens = g → s'.drawn = dd → s'.os = os → Q items.toList.reverse s') → wpAny (model prog w) A.in1 (collect (.ref it)) Q E ⟨hp, g, dd, tk, os⟩ := fun hq => collect_rv (s := ⟨hp, g, dd, tk, os⟩) hh' hl ht hne hz hn hq
    have hT : Shared.TypeIs ⟨hp, g, dd, tk, os⟩ (.ref it) "reversed" := ⟨_, hl, rfl⟩
    unfold Builtin.«tuple.__new__»
    dsimp only
    refine wpAny_bind (wpAny_of_eq (a := true) (by first | rfl | kernel_rfl) ?_)
    rw [if_neg (by decide)]
    refine wpAny_bind (wpAny_of_eq hsub ?_)
    rw [if_neg (by decide), if_neg (by decide +kernel)]
    refine wpAny_bind (wpAny_of_eq (a := ()) (by first | rfl | kernel_rfl) ?_)
    refine wpAny_bind (wpAny_of_eq hini ?_)
    rw [if_pos (by decide)]
    refine wpAny_bind (wpAny_of_eq (a := ()) (by first | rfl | kernel_rfl) ?_)
    refine wpAny_bind (wpAny_of_eq (a := ()) (by first | rfl | kernel_rfl) ?_)
    rw [if_pos (by decide)]
    refine wpAny_bind ?_
    unfold Builtin.Tuple.tupleIsExact
    refine wpAny_bind (wpAny_typeOf hT ?_)
    refine wpAny_pure ?_
    rw [if_neg (by decide)]
    refine wpAny_bind (hcol fun s' k1 k2 k3 k4 => ?_)
    refine wpAny_bind (wpAny_pure ?_)
    refine wpAny_bind ?_
    unfold Builtin.Tuple.tupleExact
    refine wpAny_newObj_type ?_ ?_
    · exact wpAny_pure ⟨_, rfl, h s' k1 k2 k3 k4⟩
    · show items.toList.reverse.toArray.size ≤ sizeLine
      have : items.toList.reverse.toArray.size = items.size := by simp
      rw [this]
      exact Nat.le_of_lt (small1000 (by omega))
theorem call_tupRev {it t : Addr} {items : Array Value} {Q : Value → Shared → Prop} (hh : A.handled = none) (hit : s.heap.get? it = some (rvObj t ((items.size : Int) - 1))) (ht : IsTup s.heap t items) (hne : t ≠ it) (hz : (items.size : Int) < 2 ^ 63) (hn : items.size ≤ 8)
    (h : ∀ s' : Shared, (∀ b o, b ≠ it → s.heap.get? b = some o → s'.heap.get? b = some o) → s'.gens = s.gens → s'.drawn = s.drawn → s'.os = s.os → Q (.ref s'.heap.objs.size) { s' with heap := s'.heap.push { cls := .type "tuple", data := .seq items.toList.reverse.toArray } }) :
    wpAny (model prog w) A (call (.type "tuple") [.ref it]) Q E s := by
  refine callType_new F.called_tuple (by decide) (F.typeCall_tuple_1 _) (F.newCall_tuple_1 _) (fun obj => F.args_object_init_2 obj _) F.entry_tuple_new (meets_tupRev it t items hne hz hn) ⟨hh, hit, ht, fun s' k1 k2 k3 k4 => ?_⟩
  exact ⟨⟨_, Heap.get?_push_size _ rfl, rfl⟩, h s' k1 k2 k3 k4⟩
end
def tTupRev (ta : TA) : TE := fun σ H Q => ta σ H fun vs H1 => ∃ a xs, vs = [.ref a] ∧ H1 a = some (.tup xs) ∧ xs.length ≤ 8 ∧ ∀ p, H1 p = none → Q (.ref p) (upd H1 p (.tup xs.reverse))
theorem pe_tupRev {X : Cx} {a : Expr} {ta : TA} {p p2 pos pos2 : Pos} (hc : X.calm = true) (hg : Gl X "tuple") (hm : X.mg "tuple" = none) (hg2 : Gl X "reversed") (hm2 : X.mg "reversed" = none) (ha : PA X [a] ta) (hs : starEach [a] X.env = [(false, eval a X.env)] := by rfl)
    (hs3 : starEach [Expr.Call (.Name "reversed" p2) [a] [] pos2] X.env = [(false, eval (Expr.Call (.Name "reversed" p2) [a] [] pos2) X.env)] := by rfl) :
    PE X (.Call (.Name "tuple" p) [.Call (.Name "reversed" p2) [a] [] pos2] [] pos) (tTupRev ta) := by
  intro pins s σ H Q I h
  refine Call_ (ld_blt I hg hm PyProof.Rows.boot_tuple (PyProof.Rows.callWith_type1 ?_ hs3 rfl))
  rw [hs3]
  show wpAny _ _ (spliced [(false, eval (Expr.Call (.Name "reversed" p2) [a] [] pos2) X.env)]) _ _ s
  refine Calls.spliced_cons ?_
  refine Call_ (ld_blt I hg2 hm2 PyProof.Rows.boot_reversed (PyProof.Rows.callWith_type1 (thn (ha pos2 pins s σ H _ I h) fun us s1 ⟨vs, H1, I1, r1, q1⟩ => ?_) hs rfl))
  obtain ⟨l, xs, e, h1, hx, q⟩ := q1
  subst e
  obtain ⟨u, rfl, ru⟩ := vals1 r1
  cases ru
  obtain ⟨its, rv, t1, _⟩ := I1.tuple (SqT.of h1)
  have hl := rv.length
  have hz : (its.toArray.size : Int) < 2 ^ 63 := by simp; omega
  have hn : its.toArray.size ≤ 8 := by simp; omega
  refine call_revT (show IsTup s1.heap l its.toArray from t1) hz ?_
  refine Calls.spliced_nil ?_
  have lt : l < s1.heap.objs.size := let ⟨o, ho, _⟩ := t1; Heap.lt_size ho
  have t2 : IsTup (s1.heap.push (rvObj l ((its.toArray.size : Int) - 1))) l its.toArray := let ⟨o, ho, r⟩ := t1; ⟨o, Heap.get?_push_of_some _ ho, r⟩
  refine call_tupRev (s := { s1 with heap := s1.heap.push (rvObj l ((its.toArray.size : Int) - 1)), toks := s1.toks + 1 + 1 }) (I1.ok.hd hc) (Heap.get?_push_size _ rfl) t2 (Nat.ne_of_lt lt) hz hn fun s' k1 k2 k3 k4 => ?_
  obtain ⟨h2, g2, d2, tk2, o2⟩ := s'
  simp only at k1 k2 k3 k4
  subst k2 k3 k4
  have I2 : Inv X pins σ H1 { s1 with heap := h2, toks := tk2 } := I1.kept (t' := tk2) fun b o e => k1 b o (Nat.ne_of_lt (Heap.lt_size e)) (Heap.get?_push_of_some _ e)
  refine ⟨.ref h2.objs.size, upd H1 h2.objs.size (.tup xs.reverse), I2.laid (t' := tk2) (fun b u e => Heap.get?_push_of_some _ e) (Nat.le_refl _) ?_, rfl, q _ (I2.hok.fresh (Nat.le_refl _))⟩
  refine ⟨by rw [List.length_reverse]; exact Nat.le_of_lt (small1000 (by omega)), its.reverse, ?_, ?_⟩
  · exact rv.reverse
  · exact ⟨_, Heap.get?_push_size _ rfl, rfl, 0, rfl⟩
theorem op_isT {X : Cx} : OpR X (compareOp .Is) (fun x y H Q => ∃ b, x = .bl b ∧ y = .bl true ∧ Q (.bl b) H) := by
  intro pins s σ H x y v u Q I rx ry h
  obtain ⟨b, rfl, rfl, q⟩ := h
  cases rx
  cases ry
  cases b
  · exact wpAny_pure ⟨.bl false, H, I, rfl, q⟩
  · exact wpAny_pure ⟨.bl true, H, I, rfl, q⟩
end L2
set_option Elab.async false
set_option linter.all false
set_option maxRecDepth 100000
set_option maxHeartbeats 4000000
namespace L2
open PySem PySem.Spec PyProof.Rows
section
variable {X : Cx} {o e : Expr} {es : List Expr} {te to : TE} {t : TA} {name x : Str} {apos cpos pos p : Pos} {T id : String}
theorem ps_exprS (he : Sd (PE X e te)) (hs : swapsWith e none pos.line X.env = pure false := by rfl) : Sd (PS X (.Expr e pos) (tDrop te)) := ⟨ps_expr he.un hs⟩
theorem pe_bmS {r : V → List V → Hp → VK → Prop} (pa : PlainAttrs T) (slot : Slot T name id) (hty : typeOf (.builtin id) = pure (.type "method_descriptor")) (hm : MtR X id r) (ho : Sd (PE X o to)) (ha : Sd (PA X (e :: es) t))
    (hbase : attributeBase o name X.env (eval o X.env) = eval o X.env := by rfl)
    (hfew : ((backTo cpos (starEach (e :: es) X.env)).all (fun x => !x.1) && (backToKw cpos (keywordEach [] X.env)).all (fun x => x.1.isSome) && decide ((e :: es).length + ([] : List Keyword).length + (if ([] : List Keyword).isEmpty then 0 else 1) < 30)) = true := by rfl)
    (hline : (apos.endLine == cpos.line) = true := by rfl) (hs : starEach (e :: es) X.env = (false, eval e X.env) :: starEach es X.env := by rfl) (hplain : (backTo cpos (starEach es X.env)).any (·.1) = false := by rfl) :
    Sd (PE X (.Call (.Attribute o name apos) (e :: es) [] cpos) (tBM X.K T r to t)) := ⟨pe_bm pa slot hty hm ho.un ha.un hbase hfew hline hs hplain⟩
theorem pe_callTyS {r : List V → Hp → VK → Prop} (hc : CallR X (.type T) r) (hg : Gl X x) (hm : X.mg x = none) (hv : bootBuiltins x = some (.type T)) (ha : Sd (PA X (e :: es) t)) (hn : x ≠ "__name__" := by decide) (hdb : (x == ("__debug__" : Str)) = false := by decide)
    (he : starEach (e :: es) X.env = (false, eval e X.env) :: starEach es X.env := by rfl) (hpl : (backTo pos (starEach es X.env)).any (·.1) = false := by rfl) : Sd (PE X (.Call (.Name x p) (e :: es) [] pos) (tCB r t)) := ⟨pe_callTy hc hg hm hv ha.un hn hdb he hpl⟩
end
instance instDecDt : DecidableEq Dt := fun a b => decidable_of_iff (Dt.beq a b = true) Dt.beq_iff
def lookB (x : Str) : List Str → Option Nat
  | [] => none
  | y :: r => if y = x then some 0 else (lookB x r).map (· + 1)
def keyB (x : Str) (rs : List Str) : Nat ⊕ Str := match lookB x rs with
  | some k => .inl k
  | none => .inr x
def keyD : Nat ⊕ Str → Dt
  | .inl k => .tup [.str "bound", .int k]
  | .inr z => .tup [.str "free", .str z]
theorem keyD_inj {a b : Nat ⊕ Str} : keyD a = keyD b ↔ a = b := by
  constructor
  · intro h
    cases a with
    | inl k => cases b with
      | inl m => injection h with h; injection h with _ h; injection h with h _; injection h with h; rw [Int.ofNat.inj h]
      | inr m => injection h with h; injection h with h _; injection h with h; exact absurd h (by decide +kernel)
    | inr k => cases b with
      | inl m => injection h with h; injection h with h _; injection h with h; exact absurd h (by decide +kernel)
      | inr m => injection h with h; injection h with _ h; injection h with h _; injection h with h; rw [h]
  · rintro rfl; rfl
def bareN (x : Str) (bs : List Str) : Dt := keyD (keyB x bs.reverse)
def shiftB : Nat ⊕ Str → Nat ⊕ Str
  | .inl k => .inl (k + 1)
  | .inr z => .inr z
theorem shiftB_inj {a b : Nat ⊕ Str} : shiftB a = shiftB b ↔ a = b := by
  cases a <;> cases b <;> simp [shiftB]
theorem keyB_cons (x y : Str) (r : List Str) : keyB x (y :: r) = if y = x then .inl 0 else shiftB (keyB x r) := by
  unfold keyB
  rw [lookB]
  split
  · rename_i h; split at h
    · cases h; simp [*]
    · rename_i h2
      rw [if_neg h2]
      cases e : lookB x r with
      | none => rw [e] at h; cases h
      | some k => rw [e] at h; simp at h; subst h; rfl
  · rename_i h; split at h
    · cases h
    · rename_i h2
      rw [if_neg h2]
      cases e : lookB x r with
      | none => rfl
      | some k => rw [e] at h; cases h
def sn (x y : Str) : List (Str × Str) → Bool
  | [] => decide (x = y)
  | p :: r => if p.1 = x ∨ p.2 = y then decide (p.1 = x ∧ p.2 = y) else sn x y r
theorem sn_key (x y : Str) : ∀ rs : List (Str × Str), sn x y rs = decide (keyB x (rs.map Prod.fst) = keyB y (rs.map Prod.snd))
  | [] => by simp [sn, keyB, lookB]
  | p :: r => by
    rw [sn, List.map_cons, List.map_cons, keyB_cons, keyB_cons, sn_key x y r]
    by_cases h1 : p.1 = x <;> by_cases h2 : p.2 = y
    · simp [h1, h2]
    · rw [if_pos (.inl h1), if_pos h1, if_neg h2]
      cases keyB y (r.map Prod.snd) <;> simp [h2, shiftB]
    · rw [if_pos (.inr h2), if_neg h1, if_pos h2]
      cases keyB x (r.map Prod.fst) <;> simp [h1, shiftB]
    · rw [if_neg (by simp [h1, h2]), if_neg h1, if_neg h2]
      simp [shiftB_inj]
theorem sn_bare (x y : Str) (ps : List (Str × Str)) : sn x y ps.reverse = decide (bareN x (ps.map Prod.fst) = bareN y (ps.map Prod.snd)) := by
  rw [sn_key]
  unfold bareN
  simp only [keyD_inj, List.map_reverse]
inductive Lf where
  | name (x : Str) | num (n : Int) | gap (g : Str) | ask (x : Str) | stop (x : Str)
def dtL : Lf → List Dt
  | .name x => [.str "name", .str x] | .num n => [.str "num", .int n] | .gap g => [.str "gap", .str g, .tup []] | .ask x => [.str "ask", .str x] | .stop x => [.str "stop", .str x]
def Lf.isName : Lf → Bool
  | .name _ => true
  | _ => false
def bareL (l : Lf) (bs : List Str) : Dt := match l with
  | .name x => bareN x bs
  | l => .tup (dtL l)
theorem bareN_tag (x : Str) (bs : List Str) : ∃ s r, bareN x bs = .tup (.str s :: r) ∧ (s = "bound" ∨ s = "free") := by
  unfold bareN
  cases keyB x bs.reverse with
  | inl k => exact ⟨_, _, rfl, .inl rfl⟩
  | inr k => exact ⟨_, _, rfl, .inr rfl⟩
theorem bareL_eq {l m : Lf} {bs cs : List Str} (h : ¬ (l.isName = true ∧ m.isName = true)) : Dt.beqs (dtL l) (dtL m) = decide (bareL l bs = bareL m cs) := by
  have ne : ∀ (x : Str) (bs : List Str) (s : Str) (r : List Dt), s ≠ "bound" → s ≠ "free" → bareN x bs ≠ .tup (.str s :: r) := by
    intro x bs s r h1 h2 e
    obtain ⟨s', r', e', hs⟩ := bareN_tag x bs
    rw [e'] at e
    injection e with e
    injection e with e _
    injection e with e
    subst e
    rcases hs with z | z
    · exact h1 z
    · exact h2 z
  rw [Bool.eq_iff_iff, Dt.beqs_iff, decide_eq_true_iff]
  cases l <;> cases m <;> simp [dtL, bareL, Lf.isName] at h ⊢ <;> first
    | (refine ⟨fun q => absurd q (by decide +kernel), fun q => absurd q (ne _ _ _ _ (by decide +kernel) (by decide +kernel))⟩)
    | (refine ⟨fun q => absurd q (by decide +kernel), fun q => absurd q.symm (ne _ _ _ _ (by decide +kernel) (by decide +kernel))⟩)
    | (refine ⟨fun q => absurd q.1 (by decide +kernel), fun q => absurd q (ne _ _ _ _ (by decide +kernel) (by decide +kernel))⟩)
    | (refine ⟨fun q => absurd q.1 (by decide +kernel), fun q => absurd q.symm (ne _ _ _ _ (by decide +kernel) (by decide +kernel))⟩)
    | exact ne _ _ _ _ (by decide +kernel) (by decide +kernel)
    | exact fun q => ne _ _ _ _ (by decide +kernel) (by decide +kernel) q.symm
    | skip
def LfRep (H : Hp) : Lf → V → Prop
  | .name x, v => ∃ a, v = .ref a ∧ H a = some (.tup [.str "name", .str x])
  | .num n, v => ∃ a, v = .ref a ∧ H a = some (.tup [.str "num", .int n])
  | .gap g, v => ∃ a b, v = .ref a ∧ H a = some (.tup [.str "gap", .str g, .ref b]) ∧ H b = some (.tup [])
  | .ask x, v => ∃ a, v = .ref a ∧ H a = some (.tup [.str "ask", .str x])
  | .stop x, v => ∃ a, v = .ref a ∧ H a = some (.tup [.str "stop", .str x])
theorem LfRep.dr {H : Hp} : ∀ {l : Lf} {v : V}, LfRep H l v → DR H (.tup (dtL l)) v
  | .name _, _, ⟨_, rfl, h⟩ => .tup h (.cons (.str _) (.cons (.str _) .nil))
  | .num _, _, ⟨_, rfl, h⟩ => .tup h (.cons (.str _) (.cons (.int _) .nil))
  | .gap _, _, ⟨_, _, rfl, h, h'⟩ => .tup h (.cons (.str _) (.cons (.str _) (.cons (.tup h' .nil) .nil)))
  | .ask _, _, ⟨_, rfl, h⟩ => .tup h (.cons (.str _) (.cons (.str _) .nil))
  | .stop _, _, ⟨_, rfl, h⟩ => .tup h (.cons (.str _) (.cons (.str _) .nil))
def Atom.lf : Atom → Lf
  | .name x => .name x | .num n => .num n | .gap g => .gap g
theorem AtRep.lf {H : Hp} : ∀ {a : Atom} {v : V}, AtRep H a v → LfRep H a.lf v
  | .name _, _, h => h
  | .num _, _, h => h
  | .gap _, _, h => h
def bareA (bs : List Str) (a : Atom) : Dt := bareL a.lf bs
def bare : Tr → List Str → Dt
  | .num n, _ => .tup [.str "num", .int n]
  | .name x, bs => bareN x bs
  | .ask x, _ => .tup [.str "ask", .str x]
  | .stop x, _ => .tup [.str "stop", .str x]
  | .gap g as, bs => .tup [.str "gap", .str g, .tup (as.map (bareA bs))]
  | .say a, bs => .tup [.str "say", bare a bs]
  | .bin o a b, bs => .tup [.str o.s, bare a bs, bare b bs]
  | .ite a b c, bs => .tup [.str "if", bare a bs, bare b bs, bare c bs]
  | .lett x a b, bs => .tup [.str "let", bare a bs, bare b (bs ++ [x])]
theorem bare_tag : ∀ (t : Tr) (bs : List Str), ∃ s r, bare t bs = .tup (.str s :: r) ∧ ((t.kd = .name ∧ (s = "bound" ∨ s = "free")) ∨ (t.kd ≠ .name ∧ s = t.kd.s))
  | .num n, bs => ⟨_, _, rfl, .inr ⟨nofun, rfl⟩⟩
  | .name x, bs => by
    obtain ⟨s, r, e, h⟩ := bareN_tag x bs
    exact ⟨s, r, e, .inl ⟨rfl, h⟩⟩
  | .ask n, bs => ⟨_, _, rfl, .inr ⟨nofun, rfl⟩⟩
  | .stop n, bs => ⟨_, _, rfl, .inr ⟨nofun, rfl⟩⟩
  | .gap n _, bs => ⟨_, _, rfl, .inr ⟨nofun, rfl⟩⟩
  | .say n, bs => ⟨_, _, rfl, .inr ⟨nofun, rfl⟩⟩
  | .bin o a b, bs => ⟨_, _, rfl, .inr ⟨by cases o <;> nofun, (Bin.kd_s o).symm⟩⟩
  | .ite _ _ _, bs => ⟨_, _, rfl, .inr ⟨nofun, rfl⟩⟩
  | .lett _ _ _, bs => ⟨_, _, rfl, .inr ⟨nofun, rfl⟩⟩
theorem bare_kd {t u : Tr} {bs cs : List Str} (h : bare t bs = bare u cs) : t.kd = u.kd := by
  obtain ⟨s, r, e, h1⟩ := bare_tag t bs
  obtain ⟨s', r', e', h2⟩ := bare_tag u cs
  rw [e, e'] at h
  injection h with h
  injection h with h _
  injection h with h
  subst h
  have no : ∀ k : Kd, ¬ (k.s = "bound" ∨ k.s = "free") := by intro k; cases k <;> decide +kernel
  rcases h1 with ⟨k1, z1⟩ | ⟨k1, z1⟩ <;> rcases h2 with ⟨k2, z2⟩ | ⟨k2, z2⟩
  · rw [k1, k2]
  · rw [z2] at z1; exact absurd z1 (no _)
  · rw [z1] at z2; exact absurd z2 (no _)
  · exact Kd.inj (z1.symm.trans z2)
abbrev Trip := Tr × Tr × List (Str × Str)
def Alk (q : Trip) : Prop := bare q.1 (q.2.2.map Prod.fst) = bare q.2.1 (q.2.2.map Prod.snd)
def pIn (t u : Tr) (i : Int) (ps : List (Str × Str)) : List (Str × Str) := match t, u with
  | .lett x _ _, .lett y _ _ => if i = 1 then ps ++ [(x, y)] else ps
  | _, _ => ps
def kids2 : Tr → Tr → List (Str × Str) → List Trip
  | .say a, .say a', ps => [(a, a', ps)]
  | .bin _ a b, .bin _ a' b', ps => [(a, a', ps), (b, b', ps)]
  | .ite a b c, .ite a' b' c', ps => [(a, a', ps), (b, b', ps), (c, c', ps)]
  | .lett x a b, .lett y a' b', ps => [(a, a', ps), (b, b', ps ++ [(x, y)])]
  | _, _, _ => []
def hdG (t u : Tr) (ps : List (Str × Str)) : Bool := match t, u with
  | .gap g as, .gap g' bs => decide (g = g') && decide (as.map (bareA (ps.map Prod.fst)) = bs.map (bareA (ps.map Prod.snd)))
  | t, u => if t.kd.leaf then decide (bare t (ps.map Prod.fst) = bare u (ps.map Prod.snd)) else true
def hdA (t u : Tr) (ps : List (Str × Str)) : Bool := decide (t.kd = u.kd) && hdG t u ps
theorem kd_diag {t u : Tr} (hk : t.kd = u.kd) : (∃ n m, t = .num n ∧ u = .num m) ∨ (∃ n m, t = .name n ∧ u = .name m) ∨ (∃ n m, t = .ask n ∧ u = .ask m) ∨ (∃ n m, t = .stop n ∧ u = .stop m) ∨ (∃ g as g' as', t = .gap g as ∧ u = .gap g' as') ∨
    (∃ a a', t = .say a ∧ u = .say a') ∨ (∃ o a b a' b', t = .bin o a b ∧ u = .bin o a' b') ∨ (∃ a b c a' b' c', t = .ite a b c ∧ u = .ite a' b' c') ∨ (∃ x a b y a' b', t = .lett x a b ∧ u = .lett y a' b') := by
  cases t with
  | num n => cases u with
    | num m => exact .inl ⟨_, _, rfl, rfl⟩
    | bin o a b => cases o <;> cases hk
    | _ => cases hk
  | name n => cases u with
    | name m => exact .inr (.inl ⟨_, _, rfl, rfl⟩)
    | bin o a b => cases o <;> cases hk
    | _ => cases hk
  | ask n => cases u with
    | ask m => exact .inr (.inr (.inl ⟨_, _, rfl, rfl⟩))
    | bin o a b => cases o <;> cases hk
    | _ => cases hk
  | stop n => cases u with
    | stop m => exact .inr (.inr (.inr (.inl ⟨_, _, rfl, rfl⟩)))
    | bin o a b => cases o <;> cases hk
    | _ => cases hk
  | gap n as => cases u with
    | gap m bs => exact .inr (.inr (.inr (.inr (.inl ⟨_, _, _, _, rfl, rfl⟩))))
    | bin o a b => cases o <;> cases hk
    | _ => cases hk
  | say n => cases u with
    | say m => exact .inr (.inr (.inr (.inr (.inr (.inl ⟨_, _, rfl, rfl⟩)))))
    | bin o a b => cases o <;> cases hk
    | _ => cases hk
  | bin o a b => cases u with
    | bin o' a' b' =>
      have ho : o = o' := by cases o <;> cases o' <;> first | rfl | cases hk
      subst ho
      exact .inr (.inr (.inr (.inr (.inr (.inr (.inl ⟨_, _, _, _, _, rfl, rfl⟩))))))
    | _ => cases o <;> cases hk
  | ite a b c => cases u with
    | ite m => exact .inr (.inr (.inr (.inr (.inr (.inr (.inr (.inl ⟨_, _, _, _, _, _, rfl, rfl⟩)))))))
    | bin o a b => cases o <;> cases hk
    | _ => cases hk
  | lett x a b => cases u with
    | lett m => exact .inr (.inr (.inr (.inr (.inr (.inr (.inr (.inr ⟨_, _, _, _, _, _, rfl, rfl⟩)))))))
    | bin o a b => cases o <;> cases hk
    | _ => cases hk
theorem alk_iff (t u : Tr) (ps : List (Str × Str)) : Alk (t, u, ps) ↔ hdA t u ps = true ∧ ∀ q ∈ kids2 t u ps, Alk q := by
  by_cases hk : t.kd = u.kd
  · unfold hdA
    rw [decide_eq_true hk, Bool.true_and]
    rcases kd_diag hk with ⟨n, m, rfl, rfl⟩ | ⟨n, m, rfl, rfl⟩ | ⟨n, m, rfl, rfl⟩ | ⟨n, m, rfl, rfl⟩ | ⟨g, as, g', as', rfl, rfl⟩ | ⟨a, a', rfl, rfl⟩ | ⟨o, a, b, a', b', rfl, rfl⟩ | ⟨a, b, c, a', b', c', rfl, rfl⟩ | ⟨x, a, b, y, a', b', rfl, rfl⟩
    · simp [Alk, hdG, kids2, Tr.kd, Kd.leaf]
    · simp [Alk, hdG, kids2, Tr.kd, Kd.leaf]
    · simp [Alk, hdG, kids2, Tr.kd, Kd.leaf]
    · simp [Alk, hdG, kids2, Tr.kd, Kd.leaf]
    · simp [Alk, hdG, kids2, bare]
    · simp [Alk, hdG, kids2, Tr.kd, Kd.leaf, bare]
    · have hl : o.kd.leaf = false := by cases o <;> rfl
      simp [Alk, hdG, kids2, Tr.kd, hl, bare]
    · simp [Alk, hdG, kids2, Tr.kd, Kd.leaf, bare]
    · simp [Alk, hdG, kids2, Tr.kd, Kd.leaf, bare]
  · unfold hdA
    rw [decide_eq_false hk, Bool.false_and]
    exact ⟨fun h => absurd (bare_kd h) hk, fun h => absurd h.1 (by decide)⟩
theorem kids2_get {t u : Tr} {ps : List (Str × Str)} (hk : t.kd = u.kd) {j : Nat} {a b : Tr} (h1 : t.parts[j]? = some a) (h2 : u.parts[j]? = some b) : (kids2 t u ps)[j]? = some (a, b, pIn t u j ps) := by
  rcases kd_diag hk with ⟨n, m, rfl, rfl⟩ | ⟨n, m, rfl, rfl⟩ | ⟨n, m, rfl, rfl⟩ | ⟨n, m, rfl, rfl⟩ | ⟨g, as, g', as', rfl, rfl⟩ | ⟨a, a', rfl, rfl⟩ | ⟨o, a, b, a', b', rfl, rfl⟩ | ⟨a, b, c, a', b', c', rfl, rfl⟩ | ⟨x, a, b, y, a', b', rfl, rfl⟩
  · cases h1
  · cases h1
  · cases h1
  · cases h1
  · cases h1
  · match j, h1, h2 with
    | 0, h1, h2 => cases h1; cases h2; rfl
    | j + 1, h1, h2 => cases h1
  · match j, h1, h2 with
    | 0, h1, h2 => cases h1; cases h2; rfl
    | 1, h1, h2 => cases h1; cases h2; rfl
    | j + 2, h1, h2 => cases h1
  · match j, h1, h2 with
    | 0, h1, h2 => cases h1; cases h2; rfl
    | 1, h1, h2 => cases h1; cases h2; rfl
    | 2, h1, h2 => cases h1; cases h2; rfl
    | j + 3, h1, h2 => cases h1
  · match j, h1, h2 with
    | 0, h1, h2 => cases h1; cases h2; rfl
    | 1, h1, h2 => cases h1; cases h2; rfl
    | j + 2, h1, h2 => cases h1
theorem kids2_len {t u : Tr} {ps : List (Str × Str)} (hk : t.kd = u.kd) : (kids2 t u ps).length = t.parts.length ∧ t.parts.length = u.parts.length := by
  rcases kd_diag hk with ⟨n, m, rfl, rfl⟩ | ⟨n, m, rfl, rfl⟩ | ⟨n, m, rfl, rfl⟩ | ⟨n, m, rfl, rfl⟩ | ⟨g, as, g', as', rfl, rfl⟩ | ⟨a, a', rfl, rfl⟩ | ⟨o, a, b, a', b', rfl, rfl⟩ | ⟨a, b, c, a', b', c', rfl, rfl⟩ | ⟨x, a, b, y, a', b', rfl, rfl⟩ <;> exact ⟨rfl, rfl⟩
def tot2 (l : List Trip) : Nat := (l.map fun q => q.1.size).sum
theorem tot2_append (a b : List Trip) : tot2 (a ++ b) = tot2 a + tot2 b := by simp [tot2]
theorem tot2_cons (q : Trip) (l : List Trip) : tot2 (q :: l) = q.1.size + tot2 l := by simp [tot2]
theorem size_pos2 : ∀ t : Tr, 1 ≤ t.size := by intro t; cases t <;> simp [Tr.size]
theorem kids2_tot {t u : Tr} {ps : List (Str × Str)} (hk : t.kd = u.kd) : tot2 (kids2 t u ps) + 1 = t.size := by
  rcases kd_diag hk with ⟨n, m, rfl, rfl⟩ | ⟨n, m, rfl, rfl⟩ | ⟨n, m, rfl, rfl⟩ | ⟨n, m, rfl, rfl⟩ | ⟨g, as, g', as', rfl, rfl⟩ | ⟨a, a', rfl, rfl⟩ | ⟨o, a, b, a', b', rfl, rfl⟩ | ⟨a, b, c, a', b', c', rfl, rfl⟩ | ⟨x, a, b, y, a', b', rfl, rfl⟩ <;>
    simp only [kids2, tot2, Tr.size, List.map_cons, List.map_nil, List.sum_cons, List.sum_nil] <;> omega
theorem kids2_deep {t u : Tr} {ps : List (Str × Str)} {n : Nat} (hk : t.kd = u.kd) (h : ps.length + t.size ≤ n) : ∀ q ∈ kids2 t u ps, q.2.2.length + q.1.size ≤ n := by
  intro q hq
  rcases kd_diag hk with ⟨n, m, rfl, rfl⟩ | ⟨n, m, rfl, rfl⟩ | ⟨n, m, rfl, rfl⟩ | ⟨n, m, rfl, rfl⟩ | ⟨g, as, g', as', rfl, rfl⟩ | ⟨a, a', rfl, rfl⟩ | ⟨o, a, b, a', b', rfl, rfl⟩ | ⟨a, b, c, a', b', c', rfl, rfl⟩ | ⟨x, a, b, y, a', b', rfl, rfl⟩
  · cases hq
  · cases hq
  · cases hq
  · cases hq
  · cases hq
  · simp only [Tr.size] at h; simp [kids2] at hq; subst hq; dsimp only; omega
  · have := size_pos2 a; have := size_pos2 b; simp only [Tr.size] at h; simp [kids2] at hq; rcases hq with rfl | rfl <;> dsimp only <;> omega
  · simp only [Tr.size] at h; simp [kids2] at hq; rcases hq with rfl | rfl | rfl <;> dsimp only <;> omega
  · have := size_pos2 a; simp only [Tr.size] at h; simp [kids2] at hq; rcases hq with rfl | rfl <;> simp <;> omega
end L2
set_option Elab.async false
set_option linter.all false
set_option maxRecDepth 100000
set_option maxHeartbeats 4000000
namespace L2
open PySem
def signsV : List V := [.str "num", .str "name", .str "ask", .str "stop", .str "gap"]
def LeafSigns (K : PySem.W.Frag) (lv : Addr) : Prop := ∃ (o : Obj) (its : Array Value) (n : Nat), K.lookup lv = some o ∧ o.cls = .type "tuple" ∧ o.data = .seq its n ∧ its.size ≤ sizeLine ∧ Vals signsV its.toList
theorem in_signs (k : Kd) : inV (.str k.s) signsV = k.leaf := by cases k <;> decide +kernel
theorem head_pos (t : Tr) : 1 ≤ t.head := by cases t <;> simp [Tr.head]
theorem paired_append {α : Type} {F : α → V → Prop} : ∀ {as bs : List α} {us vs : List V}, Paired F as us → Paired F bs vs → Paired F (as ++ bs) (us ++ vs)
  | _, _, _, _, .nil, h => h
  | _, _, _, _, .cons r t, h => .cons r (paired_append t h)
def PrRep (H : Hp) (p : Str × Str) (v : V) : Prop := ∃ c, v = .ref c ∧ H c = some (.tup [.str p.1, .str p.2])
def PsRep (H : Hp) (ps : List (Str × Str)) (b : Addr) : Prop := ∃ us, H b = some (.tup us) ∧ Paired (PrRep H) ps us
theorem PrRep.mono {H H' : Hp} (k : Tk H H') {p : Str × Str} {v : V} : PrRep H p v → PrRep H' p v
  | ⟨c, e, h⟩ => ⟨c, e, k _ _ h⟩
theorem PsRep.mono {H H' : Hp} (k : Tk H H') {ps : List (Str × Str)} {b : Addr} : PsRep H ps b → PsRep H' ps b
  | ⟨us, h, p⟩ => ⟨us, k _ _ h, Paired.mapP p fun _ _ z => z.mono k⟩
def TripRep (H : Hp) (q : Trip) (v : V) : Prop := ∃ a u w b, v = .ref a ∧ H a = some (.tup [u, w, .ref b]) ∧ Rep H q.1 u ∧ Rep H q.2.1 w ∧ PsRep H q.2.2 b
theorem TripRep.mono {H H' : Hp} (k : Tk H H') {q : Trip} {v : V} : TripRep H q v → TripRep H' q v
  | ⟨a, u, w, b, e, h, r, s, z⟩ => ⟨a, u, w, b, e, k _ _ h, r.mono k, s.mono k, z.mono k⟩
def Lf.sg : Lf → Str
  | .name _ => "name" | .num _ => "num" | .gap _ => "gap" | .ask _ => "ask" | .stop _ => "stop"
theorem sg_name {l : Lf} (h : decide (V.str l.sg = V.str "name") = true) : ∃ x, l = .name x := by
  have h' : l.sg = "name" := V.str.inj (of_decide_eq_true h)
  cases l with
  | name x => exact ⟨x, rfl⟩
  | num n => exact absurd (show (("num" : Str)) = "name" from h') (by decide +kernel)
  | gap n => exact absurd (show (("gap" : Str)) = "name" from h') (by decide +kernel)
  | ask n => exact absurd (show (("ask" : Str)) = "name" from h') (by decide +kernel)
  | stop n => exact absurd (show (("stop" : Str)) = "name" from h') (by decide +kernel)
theorem isName_sg {l : Lf} (h : l.isName = true) : decide (V.str l.sg = V.str "name") = true := by
  cases l with
  | name x => exact decide_eq_true rfl
  | _ => cases h
theorem all_zip {α β γ : Type} [DecidableEq γ] (f : α → γ) (g : β → γ) : ∀ (as : List α) (bs : List β), as.length = bs.length → ((as.zip bs).map fun p => decide (f p.1 = g p.2)).all id = decide (as.map f = bs.map g)
  | [], [], _ => rfl
  | a :: as, b :: bs, h => by
    have ih := all_zip f g as bs (by simpa using h)
    rw [List.zip_cons_cons, List.map_cons, List.all_cons, ih]
    simp
  | [], _ :: _, h => by simp at h
  | _ :: _, [], h => by simp at h
theorem LfRep.all {H : Hp} : ∀ {l : Lf} {v : V}, LfRep H l v → ∃ a r, v = .ref a ∧ H a = some (.tup (.str l.sg :: r))
  | .name _, _, ⟨a, e, h⟩ => ⟨a, _, e, h⟩
  | .num _, _, ⟨a, e, h⟩ => ⟨a, _, e, h⟩
  | .gap _, _, ⟨a, b, e, h, h'⟩ => ⟨a, _, e, h⟩
  | .ask _, _, ⟨a, e, h⟩ => ⟨a, _, e, h⟩
  | .stop _, _, ⟨a, e, h⟩ => ⟨a, _, e, h⟩
theorem sn_skip (x y : Str) : ∀ (rs : List (Str × Str)) (i : Nat), (∀ p ∈ rs.take i, p.1 ≠ x ∧ p.2 ≠ y) → sn x y rs = sn x y (rs.drop i)
  | rs, 0, _ => rfl
  | [], i + 1, _ => rfl
  | p :: r, i + 1, h => by
    have h1 := h p (by simp)
    rw [sn, if_neg (by simp [h1.1, h1.2]), List.drop_succ_cons]
    exact sn_skip x y r i fun q hq => h q (by simp [hq])
end L2
namespace K04
open PySem PySem.Spec L2 PyProof.Rows
def top (i : Nat) : Stmt := PySem.Challenge.pw_recastle_k04_alike.main.body.getD i (.Pass ⟨0, 0, 0, 0⟩)
abbrev s_parts_begin : Stmt := top 2
theorem sc_parts_begin : FnScope ["tree"] ["tree"] (defScope s_parts_begin) := ⟨rfl, rfl, rfl, by decide +kernel, rfl, by decide +kernel, by decide +kernel⟩
abbrev s_parts : Stmt := top 3
theorem sc_parts : FnScope ["tree"] ["tree"] (defScope s_parts) := ⟨rfl, rfl, rfl, by decide +kernel, rfl, by decide +kernel, by decide +kernel⟩
abbrev s_same_name : Stmt := top 5
theorem sc_same_name : FnScope ["one", "other", "pairs", "pair"] ["one", "other", "pairs"] (defScope s_same_name) := ⟨rfl, rfl, rfl, by decide +kernel, rfl, by decide +kernel, by decide +kernel⟩
abbrev s_alike_leaves : Stmt := top 6
theorem sc_alike_leaves : FnScope ["one", "other", "pairs"] ["one", "other", "pairs"] (defScope s_alike_leaves) := ⟨rfl, rfl, rfl, by decide +kernel, rfl, by decide +kernel, by decide +kernel⟩
abbrev s_alike_atoms : Stmt := top 7
theorem sc_alike_atoms : FnScope ["one", "other", "pairs"] ["one", "other", "pairs"] (defScope s_alike_atoms) := ⟨rfl, rfl, rfl, by decide +kernel, rfl, by decide +kernel, by decide +kernel⟩
abbrev s_alike_heads : Stmt := top 8
theorem sc_alike_heads : FnScope ["one", "other", "pairs"] ["one", "other", "pairs"] (defScope s_alike_heads) := ⟨rfl, rfl, rfl, by decide +kernel, rfl, by decide +kernel, by decide +kernel⟩
abbrev s_pairs_in : Stmt := top 9
theorem sc_pairs_in : FnScope ["one", "other", "number", "pairs"] ["one", "other", "number", "pairs"] (defScope s_pairs_in) := ⟨rfl, rfl, rfl, by decide +kernel, rfl, by decide +kernel, by decide +kernel⟩
section
variable {P : Program} {w : World} {K : PySem.W.Frag} {mg : Str → Option Value} {base : Heap}
def begin_ (t : Tr) : Int := t.head
def sp_parts_begin : Sp := fun vs H Q _ => ∃ t v, vs = [v] ∧ Rep H t v ∧ Q (.int (begin_ t)) H
theorem ok_parts_begin {k : Nat} {f : Addr} {fd : FuncData} {lv : Addr} (F : Fun K "parts_begin" "parts_begin" s_parts_begin f fd) (z_len : mg "len" = none) (m_LEAF_SIGNS : mg "LEAF_SIGNS" = some (.ref lv)) (hL : LeafSigns K lv) :
    FnOk P w K mg base CX0 (k + 1) f fd ["tree"] sp_parts_begin := by
  refine F.ok sc_parts_begin (fun vs H Q E h => ?_) (fun cdv A outer s H vs Q E hr h => ?_)
  · obtain ⟨t, v, rfl, _⟩ := h
    rfl
  obtain ⟨t, v, rfl, hR, q⟩ := h
  refine ⟨_, (pss_cons (ps_if (pt_cmpR (r := rIn K false) op_in_seq (pe_ix (r := rIxT K) ix_tup (pv 0) pe_int (fun _ _ => rfl)) (pe_glob (v := .ref _) (by rfl) m_LEAF_SIGNS (by rfl)) rfl) (pss_one (ps_ret (pe_callB call_len_seq (by rfl) z_len PySem.boot_len (pa_cons (pv 0) pa_nil)))) pss_nil)
    (pss_cons (ps_if (pt_cmpR op_eq (pe_ix (r := rIxT K) ix_tup (pv 0) pe_int (fun _ _ => rfl)) pe_str (nomark _)) (pss_one (ps_ret pe_int)) pss_nil)
    (pss_one (ps_ret pe_int)))), ?_⟩
  obtain ⟨a, hs, us, rfl, ha, hl, hp⟩ := hR.all
  have h0 : atI (V.str t.kd.s :: hs ++ us) 0 = some (.str t.kd.s) := atI_nat (j := 0) rfl
  refine ⟨_, rfl, a, _, 0, _, rfl, rfl, SqT.of ha, h0, lv, signsV, rfl, .inr (.inr hL), rfl, rfl, _, rfl, ?_⟩
  show if inV (.str t.kd.s) signsV = true then _ else _
  rw [in_signs]
  refine ite2 (fun c => ?_) (fun c => ?_)
  · refine ⟨_, rfl, a, _, rfl, .inr (SqT.of ha), ?_⟩
    have e : ((V.str t.sign :: hs ++ us).length : Int) = begin_ t := by
      have hu : us.length = 0 := by
        rw [← hp.length]
        cases t with
        | bin o a b => cases o <;> cases c
        | _ => first | rfl | cases c
      rw [List.length_append, List.length_cons, hu]
      unfold begin_
      omega
    rw [e]
    exact q
  · refine ⟨_, rfl, a, _, 0, _, rfl, rfl, SqT.of ha, h0, rfl, _, rfl, ?_⟩
    refine ite2 (fun d => ?_) (fun d => ?_)
    · have z : t.kd = .lett := Kd.eq_iff.mp (of_decide_eq_true d)
      have e : begin_ t = 2 := by
        cases t with
        | lett x a b => rfl
        | bin o a b => cases o <;> cases z
        | _ => cases z
      rw [e] at q
      exact q
    · have e : begin_ t = 1 := by
        cases t with
        | lett x a b => exact absurd rfl d
        | bin o a b => rfl
        | ite a b c => rfl
        | say a => rfl
        | _ => exact absurd rfl c
      rw [e] at q
      exact q
def sp_parts : Sp := fun vs H Q _ => ∃ t v, vs = [v] ∧ Rep H t v ∧ ∀ p H' us, Same H H' → H' p = some (.tup us) → Paired (Rep H') t.parts us → Q (.ref p) H'
theorem ok_parts {k : Nat} {f g : Addr} {fd gd : FuncData} (F : Fun K "parts" "parts" s_parts f fd) (G_parts_begin : FnB P w K mg base k "parts_begin" g gd ["tree"] sp_parts_begin) :
    FnOk P w K mg base CX0 (k + 1) f fd ["tree"] sp_parts := by
  refine F.ok sc_parts (fun vs H Q E h => ?_) (fun cdv A outer s H vs Q E hr h => ?_)
  · obtain ⟨t, v, rfl, _⟩ := h
    rfl
  obtain ⟨t, v, rfl, hR, q⟩ := h
  refine ⟨_, (pss_one (ps_ret (pe_slice sl_tupV (pv 0) (po_some (pe_call G_parts_begin.ok hr (by rfl) G_parts_begin.gl G_parts_begin.kp G_parts_begin.bd .nil pass0 (pa_cons (pv 0) pa_nil))) po_none))), ?_⟩
  obtain ⟨a, hs, us, rfl, ha, hl, hp⟩ := hR.all
  have hn : (V.str t.sign :: hs ++ us).length = t.head + us.length := by rw [List.length_append, List.length_cons]; omega
  have h1 := head_pos t
  have e1 : HT.sIx (V.str t.sign :: hs ++ us).length 0 (some (begin_ t)) = t.head := by
    show HT.sIx _ 0 (some ((t.head : Nat) : Int)) = _
    rw [HT.sIx_nat, hn]
    omega
  have e2 : cutV (V.str t.sign :: hs ++ us) (some (begin_ t)) none = us := by
    unfold cutV
    rw [e1, HT.sIx_none, hn]
    have : (V.str t.sign :: hs ++ us).drop t.head = us := by
      rw [← hl]
      exact List.drop_left' rfl
    rw [this, List.take_of_length_le (by omega)]
  refine ⟨_, rfl, _, rfl, t, _, rfl, hR, _, rfl, a, _, rfl, ha, fun z => ?_, fun p H' g e => ?_⟩
  · rw [e1] at z
    omega
  · rw [e2] at e
    exact q p H' us g e (Paired.mapP hp fun _ _ r => r.mono g.tk)
def sp_same_name : Sp := fun vs H Q _ => ∃ (x y : Str) (b : Addr) (ps : List (Str × Str)), vs = [.str x, .str y, .ref b] ∧ PsRep H ps b ∧ ∀ H', Same H H' → Q (.bl (sn x y ps.reverse)) H'
theorem ok_same_name {k : Nat} {f : Addr} {fd : FuncData} (F : Fun K "same_name" "same_name" s_same_name f fd) (z_reversed : mg "reversed" = none) : FnOk P w K mg base CX0 (k + 1) f fd ["one", "other", "pairs"] sp_same_name := by
  refine F.ok sc_same_name (fun vs H Q E h => ?_) (fun cdv A outer s H vs Q E hr h => ?_)
  · obtain ⟨x, y, b, ps, rfl, _⟩ := h
    rfl
  obtain ⟨x, y, b, ps, rfl, ⟨us, hb, hp⟩, q⟩ := h
  have hu5 := hu150 hr
  refine ⟨_, (pss_cons (ps_for PassesOwn.never rfl (pi_revT (by rfl) z_reversed (pa_cons (pv 2) pa_nil)) (pg_name (i := 3) sc_same_name.nd rfl (Or.inl rfl)) (pss_one (ps_if (pw_or (pt_cmpR op_eq (pe_ix (r := rIxT K) ix_tup (pv 3) pe_int (fun _ _ => rfl)) (pv 0) (nomark _)) (pw_or1 (pt_cmpR op_eq (pe_ix (r := rIxT K) ix_tup (pv 3) pe_int (fun _ _ => rfl)) (pv 1) (nomark _)))).pt (pss_one (ps_ret (pe_cmpR (op_eqD hu5) (pv 3) (pe_tup (pa_cons (pv 0) (pa_cons (pv 1) pa_nil)) : PE _ _ _) (nomark _)))) pss_nil)))
    (pss_one (ps_ret (pe_cmpR op_eq (pv 0) (pv 1) (nomark _))))), ?_⟩
  refine ⟨_, rfl, b, rfl, us, SqT.of hb, ?_⟩
  refine for_rev (xs := us) (fun i σ' H' => ∃ s3, σ' = [some (.str x), some (.str y), some (.ref b), s3] ∧ H' = H ∧ ∀ p ∈ ps.reverse.take i, p.1 ≠ x ∧ p.2 ≠ y) ?_ ?_ ?_ ?_
  · exact ⟨none, rfl, rfl, by simp⟩
  · rintro i σ1 H1 _ ⟨s3, rfl, rfl, _⟩
    exact SqT.of hb
  · rintro i v σ1 H1 hi hx ⟨s3, rfl, rfl, hall⟩
    obtain ⟨p, ep, c, rfl, hc⟩ := paired_get hp hx
    have lp := hp.length
    have er : ps.reverse[i]? = some p := by
      rw [List.getElem?_reverse (by omega), lp]
      exact ep
    have dr : ps.reverse.drop i = p :: ps.reverse.drop (i + 1) := by
      obtain ⟨hl, e⟩ := List.getElem?_eq_some_iff.mp er
      rw [List.drop_eq_getElem_cons hl, e]
    have hsn := sn_skip x y ps.reverse i hall
    rw [dr, sn] at hsn
    have fin : (p.1 = x ∨ p.2 = y) → ∀ t, H1 t = none → ∃ ds es, DR (upd H1 t (.tup [.str x, .str y])) (.tup ds) (.ref c) ∧ DR (upd H1 t (.tup [.str x, .str y])) (.tup es) (.ref t) ∧ (Dt.tup ds).deep ≤ 150 ∧ Q (.bl (if false = true then !Dt.beqs ds es else Dt.beqs ds es)) (upd H1 t (.tup [.str x, .str y])) := by
      intro ho t ht
      have g := same_upd (o := .tup [.str x, .str y]) ht
      refine ⟨[.str p.1, .str p.2], [.str x, .str y], .tup (g _ _ hc) (.cons (.str _) (.cons (.str _) .nil)), .tup upd_same (.cons (.str _) (.cons (.str _) .nil)), (by show 1 ≤ 150; decide), ?_⟩
      have q' := q _ g
      rw [hsn, if_pos ho] at q'
      have e : Dt.beqs [.str p.1, .str p.2] [.str x, .str y] = decide (p.1 = x ∧ p.2 = y) := by
        rw [Bool.eq_iff_iff, Dt.beqs_iff, decide_eq_true_iff]
        simp
      rw [if_neg Bool.false_ne_true, e]
      exact q'
    refine ⟨_, rfl, c, _, 0, _, rfl, rfl, SqT.of hc, rfl, _, rfl, rfl, _, rfl, ?_⟩
    refine ite2 (fun d => ?_) (fun d => ?_)
    · have d' : p.1 = x := V.str.inj (of_decide_eq_true d)
      refine iteT ⟨_, rfl, _, rfl, _, rfl, (by show 2 ≤ sizeLine; decide), fun t ht => ?_⟩
      exact fin (.inl d') t ht
    · have d' : p.1 ≠ x := fun z => d (by rw [z]; exact decide_eq_true rfl)
      refine ⟨_, rfl, c, _, 1, _, rfl, rfl, SqT.of hc, rfl, _, rfl, rfl, _, rfl, ?_⟩
      refine ite2 (fun d2 => ?_) (fun d2 => ?_)
      · have d3 : p.2 = y := V.str.inj (of_decide_eq_true d2)
        refine ⟨_, rfl, _, rfl, _, rfl, (by show 2 ≤ sizeLine; decide), fun t ht => ?_⟩
        exact fin (.inr d3) t ht
      · have d3 : p.2 ≠ y := fun z => d2 (by rw [z]; exact decide_eq_true rfl)
        refine ⟨some (.ref c), rfl, rfl, fun r hr' => ?_⟩
        rw [take_next er, List.mem_append, List.mem_singleton] at hr'
        rcases hr' with h | h
        · exact hall r h
        · subst h; exact ⟨d', d3⟩
  · rintro σ1 H1 ⟨s3, rfl, rfl, hall⟩
    refine ⟨_, rfl, _, rfl, rfl, ?_⟩
    have e : sn x y ps.reverse = decide (x = y) := by
      rw [sn_skip x y ps.reverse us.length hall, List.drop_of_length_le (by rw [List.length_reverse, hp.length]; exact Nat.le_refl _)]
      rfl
    have q' := q H1 (.refl _)
    rw [e] at q'
    show Q (V.bl (decide (V.str x = V.str y))) H1
    rw [dec_str]
    exact q'
def sp_alike_leaves : Sp := fun vs H Q _ => ∃ (l m : Lf) (u v : V) (b : Addr) (ps : List (Str × Str)), vs = [u, v, .ref b] ∧ LfRep H l u ∧ LfRep H m v ∧ PsRep H ps b ∧ ∀ H', Same H H' → Q (.bl (decide (bareL l (ps.map Prod.fst) = bareL m (ps.map Prod.snd)))) H'
theorem ok_alike_leaves {k : Nat} {f g1 : Addr} {fd gd1 : FuncData} (F : Fun K "alike_leaves" "alike_leaves" s_alike_leaves f fd) (G_same_name : FnB P w K mg base k "same_name" g1 gd1 ["one", "other", "pairs"] sp_same_name) : FnOk P w K mg base CX0 (k + 1) f fd ["one", "other", "pairs"] sp_alike_leaves := by
  refine F.ok sc_alike_leaves (fun vs H Q E h => ?_) (fun cdv A outer s H vs Q E hr h => ?_)
  · obtain ⟨l, m, u, v, b, ps, rfl, _⟩ := h
    rfl
  obtain ⟨l, m, u, v, b, ps, rfl, hl, hm, hb, q⟩ := h
  have hu5 := hu150 hr
  refine ⟨_, (pss_cons (ps_if (pw_and (pt_cmpR op_eq (pe_ix (r := rIxT K) ix_tup (pv 0) pe_int (fun _ _ => rfl)) pe_str (nomark _)) (pw_and1 (pt_cmpR op_eq (pe_ix (r := rIxT K) ix_tup (pv 1) pe_int (fun _ _ => rfl)) pe_str (nomark _)))).pt (pss_one (ps_ret (pe_call G_same_name.ok hr (by rfl) G_same_name.gl G_same_name.kp G_same_name.bd .nil pass0 (pa_cons (pe_ix (r := rIxT K) ix_tup (pv 0) pe_int (fun _ _ => rfl)) (pa_cons (pe_ix (r := rIxT K) ix_tup (pv 1) pe_int (fun _ _ => rfl)) (pa_cons (pv 2) pa_nil)))))) pss_nil)
    (pss_one (ps_ret (pe_cmpR (op_eqD hu5) (pv 0) (pv 1) (nomark _))))), ?_⟩
  obtain ⟨a1, r1, rfl, h1⟩ := hl.all
  obtain ⟨a2, r2, rfl, h2⟩ := hm.all
  have other : ¬ (l.isName = true ∧ m.isName = true) → ∃ ds es, DR H (.tup ds) (.ref a1) ∧ DR H (.tup es) (.ref a2) ∧ (Dt.tup ds).deep ≤ 150 ∧ Q (.bl (if false = true then !Dt.beqs ds es else Dt.beqs ds es)) H := by
    intro hn
    refine ⟨_, _, hl.dr, hm.dr, ?_, ?_⟩
    · cases l <;> (first | (show 1 ≤ 150; decide) | (show 2 ≤ 150; decide))
    · rw [if_neg Bool.false_ne_true, bareL_eq hn]
      exact q H (.refl H)
  refine ⟨_, rfl, a1, _, 0, _, rfl, rfl, SqT.of h1, (atI_nat (j := 0) rfl : atI (V.str l.sg :: r1) 0 = some (.str l.sg)), rfl, _, rfl, ?_⟩
  refine ite2 (fun d => ?_) (fun d => ?_)
  · refine ⟨_, rfl, a2, _, 0, _, rfl, rfl, SqT.of h2, (atI_nat (j := 0) rfl : atI (V.str m.sg :: r2) 0 = some (.str m.sg)), rfl, _, rfl, ?_⟩
    refine ite2 (fun d2 => ?_) (fun d2 => ?_)
    · obtain ⟨x, rfl⟩ := sg_name d
      obtain ⟨y, rfl⟩ := sg_name d2
      obtain ⟨c1, e1, k1⟩ := hl
      obtain ⟨c2, e2, k2⟩ := hm
      cases e1
      cases e2
      refine ⟨_, rfl, _, _, 1, _, rfl, rfl, SqT.of k1, rfl, _, rfl, _, _, 1, _, rfl, rfl, SqT.of k2, rfl, _, rfl, x, y, b, ps, rfl, hb, fun H' g => ?_⟩
      have q' := q H' g
      rw [sn_bare]
      exact q'
    · refine ⟨_, rfl, _, rfl, other fun z => ?_⟩
      exact d2 (isName_sg z.2)
  · refine iteF ⟨_, rfl, _, rfl, other fun z => ?_⟩
    exact d (isName_sg z.1)
def sp_alike_atoms : Sp := fun vs H Q _ => ∃ (as bs : List Atom) (a1 a2 b : Addr) (us ws : List V) (ps : List (Str × Str)), vs = [.ref a1, .ref a2, .ref b] ∧ H a1 = some (.tup us) ∧ Paired (AtRep H) as us ∧ us.length ≤ 1000 ∧ H a2 = some (.tup ws) ∧ Paired (AtRep H) bs ws ∧ PsRep H ps b ∧
  ∀ H', Same H H' → Q (.bl (decide (as.map (bareA (ps.map Prod.fst)) = bs.map (bareA (ps.map Prod.snd))))) H'
theorem ok_alike_atoms {k : Nat} {f g1 : Addr} {fd gd1 : FuncData} (F : Fun K "alike_atoms" "alike_atoms" s_alike_atoms f fd) (z_len : mg "len" = none) (z_all : mg "all" = none) (z_zip : mg "zip" = none) (G_alike_leaves : FnB P w K mg base k "alike_leaves" g1 gd1 ["one", "other", "pairs"] sp_alike_leaves) : FnOk P w K mg base CX0 (k + 1) f fd ["one", "other", "pairs"] sp_alike_atoms := by
  refine F.ok sc_alike_atoms (fun vs H Q E h => ?_) (fun cdv A outer s H vs Q E hr h => ?_)
  · obtain ⟨as, bs, a1, a2, b, us, ws, ps, rfl, _⟩ := h
    rfl
  obtain ⟨as, bs, a1, a2, b, us, ws, ps, rfl, h1, p1, hz, h2, p2, hb, q⟩ := h
  have l1 := p1.length
  have l2 := p2.length
  refine ⟨_, (pss_cons (ps_if (pt_cmpR op_ne (pe_callB call_len_seq (by rfl) z_len PySem.boot_len (pa_cons (pv 0) pa_nil)) (pe_callB call_len_seq (by rfl) z_len PySem.boot_len (pa_cons (pv 1) pa_nil)) (nomark _)) (pss_one (ps_ret pe_bl)) pss_nil)
    (pss_one (ps_ret (pe_callB (call_allL rfl) (by rfl) z_all PyProof.Rows.boot_all (pa_cons (pe_compB ["mine", "its", "pairs"] [none, none, some 2] rfl (pi_zip (by rfl) z_zip (pa_cons (pv 0) (pa_cons (pv 1) pa_nil))) (fun _ _ _ _ _ => (pg_tupK (K := K) (n := 2) rfl rfl (pgs_cons (pg_name (i := 0) (show List.Nodup (["mine", "its", "pairs"] : List Str) by decide +kernel) rfl (Or.inl rfl)) (pgs_cons (pg_name (i := 1) (show List.Nodup (["mine", "its", "pairs"] : List Str) by decide +kernel) rfl (Or.inl rfl)) pgs_nil)))) (fun _ _ _ _ _ => pts_nil) (fun _ _ _ _ _ => (pe_call G_alike_leaves.ok hr (by rfl) G_alike_leaves.gl G_alike_leaves.kp G_alike_leaves.bd .nil pass0 (pa_cons (pv 0) (pa_cons (pv 1) (pa_cons (pv 2) pa_nil))))) rfl) pa_nil))))), ?_⟩
  refine ⟨_, rfl, a1, _, rfl, .inr (SqT.of h1), _, rfl, a2, _, rfl, .inr (SqT.of h2), rfl, _, rfl, ?_⟩
  refine ite2 (fun d => ?_) (fun d => ?_)
  · have ne : us.length ≠ ws.length := fun z => by rw [z] at d; simp at d
    have q' := q H (.refl H)
    have e : ¬ (as.map (bareA (ps.map Prod.fst)) = bs.map (bareA (ps.map Prod.snd))) := fun z => ne (by have := congrArg List.length z; simpa [l1, l2] using this)
    rw [decide_eq_false e] at q'
    exact q'
  · have eq : us.length = ws.length := by
      by_cases z : us.length = ws.length
      · exact z
      · exact absurd (show (!decide (V.int (us.length : Int) = V.int (ws.length : Int))) = true by
          rw [decide_eq_false (fun y => z (by have := V.int.inj y; omega))]; rfl) d
    refine ⟨_, rfl, _, rfl, a1, a2, us, ws, rfl, h1, h2, fun acc hacc => ?_⟩
    refine comp_zipR (xs := us) (ys := ws) (fun i H' => Same H H' ∧ H' acc = some (.lst ((((as.zip bs).take i).map fun p => decide (bareA (ps.map Prod.fst) p.1 = bareA (ps.map Prod.snd) p.2)).map V.bl))) ⟨same_upd hacc, upd_same⟩ (fun i H' _ h => ⟨h.1 _ _ h1, h.1 _ _ h2⟩) ?_ ?_
    · rintro j x y T Hx hx hy ⟨gx, ezs⟩ hT
      obtain ⟨m, em, rm⟩ := paired_get p1 hx
      obtain ⟨m', em', rm'⟩ := paired_get p2 hy
      have g8 := same_upd (o := .tup [x, y]) hT
      have gz := gx.trans g8
      refine ⟨T, _, rfl, SqT.of upd_same, rfl, _, _, rfl, _, _, rfl, rfl, .skip (.skip (.keep .nil)), ?_⟩
      refine ⟨_, rfl, _, rfl, _, rfl, m.lf, m'.lf, x, y, b, ps, rfl, (rm.mono gz.tk).lf, (rm'.mono gz.tk).lf, hb.mono gz.tk, fun H' g9 => ?_⟩
      have ga := gz.trans g9
      refine ⟨_, g9 _ _ (g8 _ _ ezs), small1000 ?_, same_set ga hacc, ?_⟩
      · simp only [List.length_map, List.length_take, List.length_zip]
        omega
      · have ez : (as.zip bs)[j]? = some (m, m') := by rw [List.getElem?_zip_eq_some]; exact ⟨em, em'⟩
        rw [upd_same, take_next ez, List.map_append, List.map_append]
        rfl
    · rintro H5 ⟨g5, e5⟩
      refine ⟨acc, _, rfl, e5, ?_⟩
      rw [List.take_of_length_le (by simp only [List.length_zip]; omega), all_zip _ _ _ _ (by omega)]
      exact q H5 g5
end
end K04
set_option Elab.async false
set_option linter.all false
set_option maxRecDepth 100000
set_option maxHeartbeats 4000000
namespace K04
open PySem PySem.Spec L2 PyProof.Rows
abbrev s_alike : Stmt := top 10
theorem sc_alike : FnScope ["one", "other", "level", "deeper", "mine", "its", "pairs", "number", "both"] ["one", "other"] (defScope s_alike) := ⟨rfl, rfl, rfl, by decide +kernel, rfl, by decide +kernel, by decide +kernel⟩
section
variable {P : Program} {w : World} {K : PySem.W.Frag} {mg : Str → Option Value} {base : Heap}
def sp_alike_heads : Sp := fun vs H Q _ => ∃ (t u : Tr) (v1 v2 : V) (b : Addr) (ps : List (Str × Str)), vs = [v1, v2, .ref b] ∧ Rep H t v1 ∧ Rep H u v2 ∧ PsRep H ps b ∧ ∀ H', Same H H' → Q (.bl (hdA t u ps)) H'
theorem ok_alike_heads {k : Nat} {f g1 g2 lv : Addr} {fd gd1 gd2 : FuncData} (F : Fun K "alike_heads" "alike_heads" s_alike_heads f fd) (m_LEAF_SIGNS : mg "LEAF_SIGNS" = some (.ref lv)) (hL : LeafSigns K lv)
    (G_alike_atoms : FnB P w K mg base k "alike_atoms" g1 gd1 ["one", "other", "pairs"] sp_alike_atoms) (G_alike_leaves : FnB P w K mg base k "alike_leaves" g2 gd2 ["one", "other", "pairs"] sp_alike_leaves) : FnOk P w K mg base CX0 (k + 1) f fd ["one", "other", "pairs"] sp_alike_heads := by
  refine F.ok sc_alike_heads (fun vs H Q E h => ?_) (fun cdv A outer s H vs Q E hr h => ?_)
  · obtain ⟨t, u, v1, v2, b, ps, rfl, _⟩ := h
    rfl
  obtain ⟨t, u, v1, v2, b, ps, rfl, hR, hS, hb, q⟩ := h
  refine ⟨_, (pss_cons (ps_if (pt_cmpR op_ne (pe_ix (r := rIxT K) ix_tup (pv 0) pe_int (fun _ _ => rfl)) (pe_ix (r := rIxT K) ix_tup (pv 1) pe_int (fun _ _ => rfl)) (nomark _)) (pss_one (ps_ret pe_bl)) pss_nil)
    (pss_cons (ps_if (pt_cmpR op_eq (pe_ix (r := rIxT K) ix_tup (pv 0) pe_int (fun _ _ => rfl)) pe_str (nomark _)) (pss_one (ps_ret (pe_and (pe_cmpR op_eq (pe_ix (r := rIxT K) ix_tup (pv 0) pe_int (fun _ _ => rfl)) (pe_ix (r := rIxT K) ix_tup (pv 1) pe_int (fun _ _ => rfl)) (nomark _)) (pe_one (pe_call G_alike_atoms.ok hr (by rfl) G_alike_atoms.gl G_alike_atoms.kp G_alike_atoms.bd .nil pass0 (pa_cons (pe_ix (r := rIxT K) ix_tup (pv 0) pe_int (fun _ _ => rfl)) (pa_cons (pe_ix (r := rIxT K) ix_tup (pv 1) pe_int (fun _ _ => rfl)) (pa_cons (pv 2) pa_nil)))))))) pss_nil)
    (pss_one (ps_ret (pe_or (pe_cmpR (r := rIn K true) op_notIn_seq (pe_ix (r := rIxT K) ix_tup (pv 0) pe_int (fun _ _ => rfl)) (pe_glob (v := .ref _) (by rfl) m_LEAF_SIGNS (by rfl)) rfl) (pe_one (pe_call G_alike_leaves.ok hr (by rfl) G_alike_leaves.gl G_alike_leaves.kp G_alike_leaves.bd .nil pass0 (pa_cons (pv 0) (pa_cons (pv 1) (pa_cons (pv 2) pa_nil)))))))))), ?_⟩
  obtain ⟨a1, hs1, us1, rfl, h1, hl1, hp1⟩ := hR.all
  obtain ⟨a2, hs2, us2, rfl, h2, hl2, hp2⟩ := hS.all
  have h01 : atI (V.str t.kd.s :: hs1 ++ us1) 0 = some (.str t.kd.s) := atI_nat (j := 0) rfl
  have h02 : atI (V.str u.kd.s :: hs2 ++ us2) 0 = some (.str u.kd.s) := atI_nat (j := 0) rfl
  refine ⟨_, rfl, a1, _, 0, _, rfl, rfl, SqT.of h1, h01, _, rfl, a2, _, 0, _, rfl, rfl, SqT.of h2, h02, rfl, _, rfl, ?_⟩
  refine ite2 (fun d => ?_) (fun d => ?_)
  · have ne : ¬ t.kd = u.kd := fun z => by rw [z] at d; simp at d
    have q' := q H (.refl H)
    unfold hdA at q'
    rw [decide_eq_false ne, Bool.false_and] at q'
    exact q'
  · have hk : t.kd = u.kd := by
      by_cases z : t.kd = u.kd
      · exact z
      · exact absurd (show (!decide (V.str t.kd.s = V.str u.kd.s)) = true by rw [decide_eq_false (fun y => z (Kd.eq_iff.mp y))]; rfl) d
    have q0 : ∀ H', Same H H' → Q (.bl (hdG t u ps)) H' := fun H' g => by
      have q' := q H' g
      unfold hdA at q'
      rw [decide_eq_true hk, Bool.true_and] at q'
      exact q'
    refine ⟨_, rfl, a1, _, 0, _, rfl, rfl, SqT.of h1, h01, rfl, _, rfl, ?_⟩
    refine ite2 (fun c => ?_) (fun c => ?_)
    · have z : t.kd = .gap := Kd.eq_iff.mp (of_decide_eq_true c)
      rcases kd_diag hk with ⟨n, m, rfl, rfl⟩ | ⟨n, m, rfl, rfl⟩ | ⟨n, m, rfl, rfl⟩ | ⟨n, m, rfl, rfl⟩ | ⟨g, as, g', as', rfl, rfl⟩ | ⟨a, a', rfl, rfl⟩ | ⟨o, a, b, a', b', rfl, rfl⟩ | ⟨a, b, c, a', b', c', rfl, rfl⟩ | ⟨x, a, b, y, a', b', rfl, rfl⟩
      · cases z
      · cases z
      · cases z
      · cases z
      · obtain ⟨c1, b1, us, e1, k1, k2, hz, hp⟩ := hR
        obtain ⟨c2, b2, ws, e2, m1, m2, hz2, hp'⟩ := hS
        cases e1
        cases e2
        refine ⟨_, rfl, a1, _, 1, _, rfl, rfl, SqT.of k1, rfl, _, rfl, a2, _, 1, _, rfl, rfl, SqT.of m1, rfl, rfl, _, rfl, ?_⟩
        rw [dec_str]
        refine ite2 (fun e => ?_) (fun e => ?_)
        · refine ⟨_, rfl, a1, _, 2, _, rfl, rfl, SqT.of k1, rfl, _, rfl, a2, _, 2, _, rfl, rfl, SqT.of m1, rfl, _, rfl, as, as', b1, b2, b, us, ws, ps, rfl, k2, hp, hz, m2, hp', hb, fun H' gg => ?_⟩
          have q' := q0 H' gg
          unfold hdG at q'
          dsimp only at q'
          rw [show decide (g = g') = true by simpa using e, Bool.true_and] at q'
          exact q'
        · have q' := q0 H (.refl H)
          unfold hdG at q'
          dsimp only at q'
          rw [show decide (g = g') = false by simpa using e, Bool.false_and] at q'
          exact q'
      · cases z
      · cases o <;> cases z
      · cases z
      · cases z
    · have nz : t.kd ≠ .gap := fun z => c (by rw [z]; exact decide_eq_true rfl)
      refine ⟨_, rfl, a1, _, 0, _, rfl, rfl, SqT.of h1, h01, lv, signsV, rfl, .inr (.inr hL), rfl, rfl, _, rfl, ?_⟩
      show if (!inV (.str t.kd.s) signsV) = true then _ else _
      rw [in_signs]
      have inner : t.kd.leaf = false → hdG t u ps = true := by
        intro hlf
        unfold hdG
        split
        · exact absurd rfl nz
        · rw [hlf]; rfl
      refine ite2 (fun e => ?_) (fun e => ?_)
      · have hlf : t.kd.leaf = false := by simpa using e
        have q' := q0 H (.refl H)
        rw [inner hlf] at q'
        exact q'
      · have hlf : t.kd.leaf = true := by simpa using e
        rcases kd_diag hk with ⟨n, m, rfl, rfl⟩ | ⟨n, m, rfl, rfl⟩ | ⟨n, m, rfl, rfl⟩ | ⟨n, m, rfl, rfl⟩ | ⟨g, as, g', as', rfl, rfl⟩ | ⟨a, a', rfl, rfl⟩ | ⟨o, a, b, a', b', rfl, rfl⟩ | ⟨a, b, c, a', b', c', rfl, rfl⟩ | ⟨x, a, b, y, a', b', rfl, rfl⟩
        · exact ⟨_, rfl, _, rfl, _, rfl, .num n, .num m, _, _, b, ps, rfl, hR, hS, hb, fun H' g => q0 H' g⟩
        · exact ⟨_, rfl, _, rfl, _, rfl, .name n, .name m, _, _, b, ps, rfl, hR, hS, hb, fun H' g => q0 H' g⟩
        · exact ⟨_, rfl, _, rfl, _, rfl, .ask n, .ask m, _, _, b, ps, rfl, hR, hS, hb, fun H' g => q0 H' g⟩
        · exact ⟨_, rfl, _, rfl, _, rfl, .stop n, .stop m, _, _, b, ps, rfl, hR, hS, hb, fun H' g => q0 H' g⟩
        · exact absurd rfl nz
        · cases hlf
        · cases o <;> cases hlf
        · cases hlf
        · cases hlf
def sp_pairs_in : Sp := fun vs H Q _ => ∃ (t u : Tr) (v1 v2 : V) (i : Int) (b : Addr) (ps : List (Str × Str)), vs = [v1, v2, .int i, .ref b] ∧ Rep H t v1 ∧ Rep H u v2 ∧ t.kd = u.kd ∧ PsRep H ps b ∧ ps.length ≤ 900 ∧ ∀ p H', Same H H' → PsRep H' (pIn t u i ps) p → Q (.ref p) H'
theorem ok_pairs_in {k : Nat} {f : Addr} {fd : FuncData} (F : Fun K "pairs_in" "pairs_in" s_pairs_in f fd) : FnOk P w K mg base CX0 (k + 1) f fd ["one", "other", "number", "pairs"] sp_pairs_in := by
  refine F.ok sc_pairs_in (fun vs H Q E h => ?_) (fun cdv A outer s H vs Q E hr h => ?_)
  · obtain ⟨t, u, v1, v2, i, b, ps, rfl, _⟩ := h
    rfl
  obtain ⟨t, u, v1, v2, i, b, ps, rfl, hR, hS, hk, hb, hlen, q⟩ := h
  refine ⟨_, (pss_cons (ps_if (pw_and (pt_cmpR op_eq (pe_ix (r := rIxT K) ix_tup (pv 0) pe_int (fun _ _ => rfl)) pe_str (nomark _)) (pw_and1 (pt_cmpR op_eq (pv 2) pe_int (nomark _)))).pt (pss_one (ps_ret (pe_op op_catV (pv 3) (pe_tup (pa_cons (pe_tup (pa_cons (pe_ix (r := rIxT K) ix_tup (pv 0) pe_int (fun _ _ => rfl)) (pa_cons (pe_ix (r := rIxT K) ix_tup (pv 1) pe_int (fun _ _ => rfl)) pa_nil)) : PE _ _ _) pa_nil) : PE _ _ _)))) pss_nil)
    (pss_one (ps_ret (pv 3)))), ?_⟩
  obtain ⟨a, hs, us, rfl, ha, hl, hp⟩ := hR.all
  have h0 : atI (V.str t.kd.s :: hs ++ us) 0 = some (.str t.kd.s) := atI_nat (j := 0) rfl
  refine ⟨_, rfl, a, _, 0, _, rfl, rfl, SqT.of ha, h0, rfl, _, rfl, ?_⟩
  refine ite2 (fun c => ?_) (fun c => ?_)
  · have z : t.kd = .lett := Kd.eq_iff.mp (of_decide_eq_true c)
    refine ⟨_, rfl, rfl, _, rfl, ?_⟩
    rcases kd_diag hk with ⟨n, m, rfl, rfl⟩ | ⟨n, m, rfl, rfl⟩ | ⟨n, m, rfl, rfl⟩ | ⟨n, m, rfl, rfl⟩ | ⟨g, as, g', as', rfl, rfl⟩ | ⟨a, a', rfl, rfl⟩ | ⟨o, a, b, a', b', rfl, rfl⟩ | ⟨a, b, c, a', b', c', rfl, rfl⟩ | ⟨x, a', b', y, a'', b'', rfl, rfl⟩
    · cases z
    · cases z
    · cases z
    · cases z
    · cases z
    · cases z
    · cases o <;> cases z
    · cases z
    · obtain ⟨c1, u1, w1, e1, k1, _⟩ := hR
      obtain ⟨c2, u2, w2, e2, k2, _⟩ := hS
      cases e1
      subst e2
      refine ite2 (fun d => ?_) (fun d => ?_)
      · have d' : i = 1 := V.int.inj (of_decide_eq_true d)
        subst d'
        obtain ⟨vs, hb1, hb2⟩ := hb
        have lvs := hb2.length
        refine ⟨_, rfl, _, rfl, a, _, 1, _, rfl, rfl, SqT.of k1, rfl, _, rfl, c2, _, 1, _, rfl, rfl, SqT.of k2, rfl, (by show 2 ≤ sizeLine; decide), fun p hpn => ⟨(by show 1 ≤ sizeLine; decide), fun p2 hp2 => ?_⟩⟩
        have g1 := same_upd (o := .tup [.str x, .str y]) hpn
        have g2 := same_upd (o := .tup [.ref p]) hp2
        have g12 := g1.trans g2
        refine ⟨b, p2, _, [.ref p], rfl, rfl, g12 _ _ hb1, upd_same, line1000 (by show vs.length + 1 ≤ 1000; omega), fun r H' g e => ?_⟩
        refine q r H' (g12.trans g) ⟨_, e, ?_⟩
        show Paired (PrRep H') (if (1 : Int) = 1 then ps ++ [(x, y)] else ps) _
        rw [if_pos rfl]
        exact paired_append (Paired.mapP hb2 fun _ _ z => z.mono (g12.trans g).tk) (.cons ⟨p, rfl, g _ _ (g2 _ _ upd_same)⟩ .nil)
      · have d' : ¬ i = 1 := fun z => d (by rw [z]; exact decide_eq_true rfl)
        refine ⟨_, rfl, q b H (.refl H) ?_⟩
        show PsRep H (if i = 1 then ps ++ [(x, y)] else ps) b
        rw [if_neg d']
        exact hb
  · refine iteF ?_
    refine ⟨_, rfl, q b H (.refl H) ?_⟩
    have e : pIn t u i ps = ps := by
      cases t with
      | lett x s t => exact absurd rfl c
      | _ => rfl
    rw [e]
    exact hb
theorem tot2_kids (l : List Trip) (h : ∀ q ∈ l, hdA q.1 q.2.1 q.2.2 = true) : tot2 (l.flatMap fun q => kids2 q.1 q.2.1 q.2.2) + l.length = tot2 l := by
  induction l with
  | nil => rfl
  | cons a r ih =>
    rw [List.flatMap_cons, tot2_append, tot2_cons, List.length_cons]
    have hk : a.1.kd = a.2.1.kd := by have := h a (by simp); unfold hdA at this; simp at this; exact this.1
    have := kids2_tot (ps := a.2.2) hk
    have := ih fun q hq => h q (by simp [hq])
    omega
theorem tot2_take (l : List Trip) (i : Nat) : tot2 (l.take i) ≤ tot2 l := by
  conv => rhs; rw [← List.take_append_drop i l]
  rw [tot2_append]
  omega
theorem len_tot2 : ∀ l : List Trip, l.length ≤ tot2 l
  | [] => Nat.le_refl _
  | q :: l => by
    have := size_pos2 q.1
    have := len_tot2 l
    rw [tot2_cons, List.length_cons]
    omega
def sp_alike : Sp := fun vs H Q _ => ∃ (t u : Tr) (v1 v2 : V), vs = [v1, v2] ∧ Rep H t v1 ∧ Rep H u v2 ∧ t.size ≤ 500 ∧ ∀ H', Same H H' → Q (.bl (decide (bare t [] = bare u []))) H'
theorem ok_alike {k : Nat} {f g1 g2 g3 : Addr} {fd gd1 gd2 gd3 : FuncData} (F : Fun K "alike" "alike" s_alike f fd) (z_enumerate : mg "enumerate" = none) (z_zip : mg "zip" = none)
    (G_alike_heads : FnB P w K mg base k "alike_heads" g1 gd1 ["one", "other", "pairs"] sp_alike_heads) (G_parts : FnB P w K mg base k "parts" g2 gd2 ["tree"] sp_parts) (G_pairs_in : FnB P w K mg base k "pairs_in" g3 gd3 ["one", "other", "number", "pairs"] sp_pairs_in) : FnOk P w K mg base CX0 (k + 1) f fd ["one", "other"] sp_alike := by
  refine F.ok sc_alike (fun vs H Q E h => ?_) (fun cdv A outer s H vs Q E hr h => ?_)
  · obtain ⟨t, u, v1, v2, rfl, _⟩ := h
    rfl
  obtain ⟨t, u, v1, v2, rfl, hR, hS, hsz, q⟩ := h
  have qA : ∀ (b : Bool) H', Same H H' → (b = true ↔ Alk (t, u, [])) → Q (.bl b) H' := fun b H' g hb => by
    have q' := q H' g
    have e : decide (bare t [] = bare u []) = b := by
      rw [Bool.eq_iff_iff, decide_eq_true_iff, hb]
      rfl
    rw [e] at q'
    exact q'
  refine ⟨_, (pss_cons (ps_set (i := 2) sc_alike.nd rfl (Or.inl rfl) (pe_lst (pa_cons (pe_tup (pa_cons (pv 0) (pa_cons (pv 1) (pa_cons (pe_tup pa_nil : PE _ _ _) pa_nil))) : PE _ _ _) pa_nil) : PE _ _ _))
    (pss_cons (ps_while PassesOwn.never (pt_truth (pv 2) (fun _ => rfl)) (pss_cons (ps_set (i := 3) sc_alike.nd rfl (Or.inl rfl) (pe_lst pa_nil : PE _ _ _))
    (pss_cons (ps_for PassesOwn.never rfl (pi_list (pv 2)) (pg_tup rfl (pgs_cons (pg_name (i := 4) sc_alike.nd rfl (Or.inl rfl)) (pgs_cons (pg_name (i := 5) sc_alike.nd rfl (Or.inl rfl)) (pgs_cons (pg_name (i := 6) sc_alike.nd rfl (Or.inl rfl)) pgs_nil)))) (pss_cons (ps_if (pt_not (pt_val (pe_call G_alike_heads.ok hr (by rfl) G_alike_heads.gl G_alike_heads.kp G_alike_heads.bd .nil pass0 (pa_cons (pv 4) (pa_cons (pv 5) (pa_cons (pv 6) pa_nil)))))) (pss_one (ps_ret pe_bl)) pss_nil)
    (pss_one (ps_for PassesOwn.never rfl (pi_enumZip (by rfl) z_enumerate (by rfl) z_zip (pa_cons (pe_call G_parts.ok hr (by rfl) G_parts.gl G_parts.kp G_parts.bd .nil pass0 (pa_cons (pv 4) pa_nil)) (pa_cons (pe_call G_parts.ok hr (by rfl) G_parts.gl G_parts.kp G_parts.bd .nil pass0 (pa_cons (pv 5) pa_nil)) pa_nil))) (pg_tup rfl (pgs_cons (pg_name (i := 7) sc_alike.nd rfl (Or.inl rfl)) (pgs_cons (pg_name (i := 8) sc_alike.nd rfl (Or.inl rfl)) pgs_nil))) (pss_one (ps_expr (pe_bm PySem.F.plainAttrs_list PySem.F.slot_list_append PySem.F.type_list_append mt_append (pv 3) (pa_cons (pe_tup (pa_cons (pe_ix (r := rIxT K) ix_tup (pv 8) pe_int (fun _ _ => rfl)) (pa_cons (pe_ix (r := rIxT K) ix_tup (pv 8) pe_int (fun _ _ => rfl)) (pa_cons (pe_call G_pairs_in.ok hr (by rfl) G_pairs_in.gl G_pairs_in.kp G_pairs_in.bd .nil pass0 (pa_cons (pv 4) (pa_cons (pv 5) (pa_cons (pv 7) (pa_cons (pv 6) pa_nil))))) pa_nil))) : PE _ _ _) pa_nil))))))))
    (pss_one (ps_set (i := 2) sc_alike.nd rfl (Or.inl rfl) (pv 3))))))
    (pss_one (ps_ret pe_bl)))), ?_⟩
  refine ⟨_, rfl, _, rfl, (by show 0 ≤ sizeLine; decide), fun e he => ⟨(by show 3 ≤ sizeLine; decide), fun pr hpr => ⟨(by show 1 ≤ sizeLine; decide), fun l hl => ?_⟩⟩⟩
  have g2 := same_upd (o := .tup []) he
  have g3 := same_upd (o := .tup [v1, v2, .ref e]) hpr
  have g4 := same_upd (o := .lst [.ref pr]) hl
  have gAll := g2.trans (g3.trans g4)
  have hlH : H l = none := (g2.trans g3).free hl
  refine ⟨fun m σ' H' => ∃ (l : Addr) (ps : List V) (lev : List Trip) (s3 s4 s5 s6 s7 s8 : Option V), σ' = [some v1, some v2, some (.ref l), s3, s4, s5, s6, s7, s8] ∧ Same H H' ∧ H l = none ∧ H' l = some (.lst ps) ∧ Paired (TripRep H') lev ps ∧ m = tot2 lev ∧ tot2 lev ≤ 500 ∧ (∀ q ∈ lev, q.2.2.length + q.1.size ≤ 500) ∧ ((∀ q ∈ lev, Alk q) ↔ Alk (t, u, [])),
    ⟨t.size, l, _, [(t, u, [])], none, none, none, none, none, none, rfl, gAll, hlH, upd_same, .cons ⟨pr, v1, v2, e, rfl, g4 _ _ upd_same, hR.mono gAll.tk, hS.mono gAll.tk, [], g4 _ _ (g3 _ _ upd_same), .nil⟩ .nil, by simp [tot2], by simpa [tot2] using hsz, by simpa using hsz, by simp⟩, ?_⟩
  rintro m σ' Hw ⟨l, ps, lev, s3, s4, s5, s6, s7, s8, rfl, gw, hl, el, hp, rfl, htot, hdeep, hset⟩
  refine ⟨_, rfl, _, .inl ⟨ps, SqL.of el, rfl⟩, ?_⟩
  refine ite2 (fun c => ?_) (fun c => ?_)
  · refine ⟨_, fun _ _ h => h, (by show 0 ≤ sizeLine; decide), fun dp hdp => ⟨_, rfl, l, rfl, ⟨ps, SqL.of (same_upd hdp _ _ el)⟩, ?_⟩⟩
    have gd := same_upd (o := .lst []) hdp
    have hdpH : H dp = none := gw.free hdp
    have ndl : dp ≠ l := Ne.symm (ne_of_none el hdp)
    refine for_list (xs := ps) (fun i σ' H' => ∃ (dps : List V) (s4 s5 s6 s7 s8 : Option V), σ' = [some v1, some v2, some (.ref l), some (.ref dp), s4, s5, s6, s7, s8] ∧ Same H H' ∧ Tk Hw H' ∧ H' l = some (.lst ps) ∧ H' dp = some (.lst dps) ∧
      Paired (TripRep H') ((lev.take i).flatMap fun q => kids2 q.1 q.2.1 q.2.2) dps ∧ (∀ q ∈ lev.take i, hdA q.1 q.2.1 q.2.2 = true)) ?_ ?_ ?_ ?_
    · exact ⟨[], s4, s5, s6, s7, s8, rfl, gw.trans gd, gd.tk, gd _ _ el, upd_same, .nil, by simp⟩
    · rintro i σ1 H1 _ ⟨dps, s4, s5, s6, s7, s8, rfl, g1, k1, el1, edp1, hp1, hh1⟩
      exact SqL.of el1
    · rintro i x σ1 H1 hx ⟨dps, s4, s5, s6, s7, s8, rfl, g1, k1, el1, edp1, hp1, hh1⟩
      obtain ⟨⟨tq, uq, pq⟩, eq, rq⟩ := paired_get hp hx
      have hmem : (tq, uq, pq) ∈ lev := List.mem_of_getElem? eq
      have hdq := hdeep _ hmem
      have spq := size_pos2 tq
      dsimp only at hdq
      obtain ⟨a, u1, w1, b, rfl, ha, ru, rw1, hb⟩ := rq.mono k1
      refine ⟨a, _, rfl, SqT.of ha, rfl, _, _, rfl, _, _, rfl, _, _, rfl, rfl, ?_⟩
      refine ⟨_, rfl, _, rfl, _, rfl, tq, uq, u1, w1, b, pq, rfl, ru, rw1, hb, fun H2 g2 => ⟨_, rfl, ?_⟩⟩
      refine ite2 (fun d => ?_) (fun d => ?_)
      · have hd0 : hdA tq uq pq = false := by simpa using d
        refine qA false _ (g1.trans g2) ⟨fun z => (nomatch z), fun z => ?_⟩
        have := ((alk_iff tq uq pq).mp (hset.mpr z _ hmem)).1
        rw [hd0] at this
        exact this
      · have hd1 : hdA tq uq pq = true := by simpa using d
        have hk : tq.kd = uq.kd := by unfold hdA at hd1; simp at hd1; exact hd1.1
        refine ⟨_, rfl, tq, u1, rfl, ru.mono g2.tk, fun pt H3 us g3 e3 hus => ⟨_, rfl, uq, w1, rfl, (rw1.mono g2.tk).mono g3.tk, fun pt2 H4 us2 g4 e4 hus2 => ⟨pt, pt2, us, us2, rfl, g4 _ _ e3, e4, ?_⟩⟩⟩
        have g24 := g2.trans (g3.trans g4)
        have kl := kids2_len (ps := pq) hk
        have lus := hus.length
        have lus2 := hus2.length
        have hb4 := hb.mono g24.tk
        have ru4 := ru.mono g24.tk
        have rw4 := rw1.mono g24.tk
        refine for_ez (xs := us) (ys := us2) (fun j σ' H' => ∃ (dps' : List V) (s7 s8 : Option V), σ' = [some v1, some v2, some (.ref l), some (.ref dp), some u1, some w1, some (.ref b), s7, s8] ∧ Same H H' ∧ Tk H4 H' ∧
          H' l = some (.lst ps) ∧ H' dp = some (.lst dps') ∧ Paired (TripRep H') (((lev.take i).flatMap fun q => kids2 q.1 q.2.1 q.2.2) ++ (kids2 tq uq pq).take j) dps') ?_ ?_ ?_ ?_
        · exact ⟨dps, s7, s8, rfl, g1.trans g24, .refl _, g24 _ _ el1, g24 _ _ edp1, by
            rw [List.take_zero, List.append_nil]
            exact Paired.mapP hp1 fun _ _ z => z.mono g24.tk⟩
        · rintro j σ3 H5 _ ⟨dps5, s7, s8, rfl, g5, k5, el5, edp5, hp5⟩
          exact ⟨k5 _ _ (g4 _ _ e3), k5 _ _ e4⟩
        · rintro j x y T U σ3 H5 hx hy ⟨dps5, s7, s8, rfl, g5, k5, el5, edp5, hp5⟩ hU hT
          have gU := same_upd (o := .tup [x, y]) hU
          have gT := same_upd (o := .tup [.int j, .ref U]) hT
          have gUT := gU.trans gT
          obtain ⟨cx, ecx, rcx⟩ := paired_get hus hx
          obtain ⟨cy, ecy, rcy⟩ := paired_get hus2 hy
          have kk := kids2_get (ps := pq) hk ecx ecy
          have hj : j < us.length := (List.getElem?_eq_some_iff.mp hx).1
          refine ⟨T, _, rfl, SqT.of upd_same, rfl, _, _, rfl, _, _, rfl, rfl, ?_⟩
          have edp6 := gUT _ _ edp5
          have hU6 : (upd (upd H5 U (.tup [x, y])) T (.tup [.int j, .ref U])) U = some (.tup [x, y]) := gT _ _ upd_same
          refine ⟨_, rfl, .inl ⟨rfl, _, SqL.of edp6⟩, _, rfl, U, _, 0, _, rfl, rfl, SqT.of hU6, rfl, _, rfl, U, _, 1, _, rfl, rfl, SqT.of hU6, rfl, _, rfl, _, rfl, _, rfl, _, rfl, tq, uq, u1, w1, j, b, pq, rfl, ru4.mono (k5.trans gUT.tk), rw4.mono (k5.trans gUT.tk), hk, hb4.mono (k5.trans gUT.tk), by omega, fun p H6 g6 e6 => ⟨(by show 3 ≤ sizeLine; decide), fun pr hpr => ?_⟩⟩
          have gq := same_upd (o := .tup [x, y, .ref p]) hpr
          have gA := gUT.trans (g6.trans gq)
          have edp7 := gA _ _ edp5
          have tot : dps5.length ≤ 500 := by
            rw [← hp5.length, List.length_append, List.length_take]
            have l1 := len_tot2 ((lev.take i).flatMap fun q => kids2 q.1 q.2.1 q.2.2)
            have l2 := tot2_kids (lev.take i) hh1
            have l3 : tot2 (lev.take (i + 1)) ≤ tot2 lev := tot2_take lev _
            rw [take_next eq, tot2_append, tot2_cons] at l3
            have l4 := kids2_tot (ps := pq) hk
            have l5 := len_tot2 (kids2 tq uq pq)
            dsimp only at l3
            omega
          refine ⟨dp, _, _, rfl, rfl, edp7, small1000 (by omega), ?_⟩
          have kset : Tk H5 (upd (upd H6 pr (.tup [x, y, .ref p])) dp (.lst (dps5 ++ [.ref pr]))) := gA.tk.trans (Tk.lst edp7)
          refine ⟨_, _, _, rfl, same_set (g5.trans gA) hdpH, k5.trans kset, by rw [upd_ne (Ne.symm ndl)]; exact gA _ _ el5, upd_same, ?_⟩
          rw [take_next kk, ← List.append_assoc]
          refine paired_append (Paired.mapP hp5 fun _ _ z => z.mono kset) (.cons ⟨pr, x, y, p, rfl, Tk.lst edp7 _ _ upd_same, (rcx.mono g4.tk).mono (k5.trans kset), rcy.mono (k5.trans kset), (e6.mono gq.tk).mono (Tk.lst edp7)⟩ .nil)
        · rintro σ3 H5 ⟨dps5, s7, s8, rfl, g5, k5, el5, edp5, hp5⟩
          refine ⟨dps5, some u1, some w1, some (.ref b), s7, s8, rfl, g5, k1.trans (g24.tk.trans k5), el5, edp5, ?_, fun z hz => ?_⟩
          · rw [show min us.length us2.length = (kids2 tq uq pq).length by omega, List.take_length] at hp5
            rw [take_next eq, List.flatMap_append]
            simpa using hp5
          · rw [take_next eq, List.mem_append, List.mem_singleton] at hz
            rcases hz with h | h
            · exact hh1 z h
            · subst h; exact hd1
    · rintro σ1 H1 ⟨dps, s4, s5, s6, s7, s8, rfl, g1, k1, el1, edp1, hp1, hh1⟩
      have hlen : ps.length = lev.length := hp.length.symm
      rw [hlen, List.take_length] at hp1 hh1
      have pos : 0 < lev.length := by
        rw [← hlen]
        cases ps with
        | nil => simp at c
        | cons _ _ => simp
      have lk := tot2_kids lev hh1
      refine ⟨_, rfl, _, ?_, dp, dps, _, some (.ref dp), s4, s5, s6, s7, s8, rfl, g1, hdpH, edp1, hp1, rfl, by omega, fun q' hq' => ?_, ?_⟩
      · omega
      · obtain ⟨r, hr', hq''⟩ := List.mem_flatMap.mp hq'
        have hk : r.1.kd = r.2.1.kd := by have := hh1 r hr'; unfold hdA at this; simp at this; exact this.1
        exact kids2_deep hk (hdeep r hr') q' hq''
      · rw [← hset]
        constructor
        · intro h q' hq'
          exact (alk_iff q'.1 q'.2.1 q'.2.2).mpr ⟨hh1 q' hq', fun r hr' => h r (List.mem_flatMap.mpr ⟨q', hq', hr'⟩)⟩
        · intro h q' hq'
          obtain ⟨r, hr', hq''⟩ := List.mem_flatMap.mp hq'
          exact ((alk_iff r.1 r.2.1 r.2.2).mp (h r hr')).2 q' hq''
  · have e0 : ps = [] := by
      cases ps with
      | nil => rfl
      | cons _ _ => exact absurd rfl c
    subst e0
    cases hp
    exact qA true _ gw ⟨fun _ => hset.mp (by simp), fun _ => rfl⟩
end
end K04
set_option Elab.async false
set_option linter.all false
set_option maxRecDepth 100000
set_option maxHeartbeats 4000000
namespace L2
open PySem
def Good (ws : List Str) : Tr → Prop
  | .name x => x ∈ ws
  | .gap _ as => ∀ a ∈ as, ∀ y ∈ a.names, y ∈ ws
  | .say a => Good ws a
  | .bin _ a b => Good ws a ∧ Good ws b
  | .ite a b c => Good ws a ∧ Good ws b ∧ Good ws c
  | .lett _ a b => Good ws a ∧ Good ws b
  | _ => True
def Tr.dep : Tr → Nat
  | .gap _ [] => 1
  | .gap _ (_ :: _) => 2
  | .say a => a.dep + 1
  | .bin _ a b => max a.dep b.dep + 1
  | .ite a b c => max a.dep (max b.dep c.dep) + 1
  | .lett _ a b => max a.dep b.dep + 1
  | _ => 1
theorem dep_leaf {t : Tr} (h : t.size = 1) : t.dep ≤ 2 := by
  have p := size_pos2
  cases t with
  | say a => have := p a; simp [Tr.size] at h; omega
  | bin o a b => have := p a; simp [Tr.size] at h; omega
  | ite a b c => have := p a; simp [Tr.size] at h; omega
  | lett x a b => have := p a; simp [Tr.size] at h; omega
  | gap g as => cases as <;> simp [Tr.dep]
  | _ => simp [Tr.dep]
end L2
namespace L2
open PySem
theorem atI_in {α : Type} {xs : List α} {i : Int} (h0 : 0 ≤ i) (h1 : i < xs.length) : ∃ v, v ∈ xs ∧ atI xs i = some v := by
  have hl : i.toNat < xs.length := by omega
  have e : ((i.toNat : Nat) : Int) = i := by omega
  refine ⟨xs[i.toNat], List.getElem_mem hl, ?_⟩
  have := atI_nat (xs := xs) (j := i.toNat) (v := xs[i.toNat]) (List.getElem?_eq_getElem hl)
  rwa [e] at this
end L2
namespace K04
open PySem PySem.Spec L2 PyProof.Rows
abbrev s_law_cell_at : Stmt := top 12
theorem sc_law_cell_at : FnScope ["_law_script", "_law_k"] ["_law_script", "_law_k"] (defScope s_law_cell_at) := ⟨rfl, rfl, rfl, by decide +kernel, rfl, by decide +kernel, by decide +kernel⟩
abbrev s_law_word : Stmt := top 13
theorem sc_law_word : FnScope ["_law_cell", "_law_long", "_law_at", "_law_turn", "_law_letters", "_law_word_here", "_law_j", "_law_number"] ["_law_cell", "_law_long", "_law_at", "_law_turn"] (defScope s_law_word) := ⟨rfl, rfl, rfl, by decide +kernel, rfl, by decide +kernel, by decide +kernel⟩
abbrev s_law_words : Stmt := top 14
theorem sc_law_words : FnScope ["_law_cell", "_law_long", "_law_at"] ["_law_cell"] (defScope s_law_words) := ⟨rfl, rfl, rfl, by decide +kernel, rfl, by decide +kernel, by decide +kernel⟩
section
variable {P : Program} {w : World} {K : PySem.W.Frag} {mg : Str → Option Value} {base : Heap}
def sp_cell_at (K : PySem.W.Frag) : Sp := fun vs H Q _ => ∃ (a : Addr) (ns : List Int) (k : Int), vs = [.ref a, .int k] ∧ SqL K H a (ns.map V.int) ∧ 0 ≤ k ∧ ∀ i : Int, Q (.int i) H
theorem ok_cell_at {k : Nat} {f : Addr} {fd : FuncData} (F : Fun K "_law_cell_at" "_law_cell_at" s_law_cell_at f fd) (z_len : mg "len" = none) : FnOk P w K mg base CX0 (k + 1) f fd ["_law_script", "_law_k"] (sp_cell_at K) := by
  refine F.ok sc_law_cell_at (fun vs H Q E h => ?_) (fun cdv A outer s H vs Q E hr h => ?_)
  · obtain ⟨a, ns, k, rfl, _⟩ := h
    rfl
  obtain ⟨a, ns, k, rfl, hS, h0, q⟩ := h
  refine ⟨_, (pss_cons (ps_if (pt_cmpR op_lt (pv 1) (pe_callB call_len_seq (by rfl) z_len PySem.boot_len (pa_cons (pv 0) pa_nil)) (nomark _)) (pss_one (ps_ret (pe_ix (r := rIxL K) ix_list (pv 0) (pv 1) (fun _ _ => rfl)))) pss_nil)
    (pss_one (ps_ret pe_int))), ?_⟩
  refine ⟨_, rfl, _, rfl, a, _, rfl, .inl hS, _, _, rfl, rfl, _, rfl, ?_⟩
  refine ite2 (fun c => ?_) (fun c => ?_)
  · have c' : k < ((ns.map V.int).length : Int) := of_decide_eq_true c
    obtain ⟨v, hv, e⟩ := atI_in h0 c'
    obtain ⟨i, _, rfl⟩ := List.mem_map.mp hv
    exact ⟨_, rfl, _, rfl, a, _, k, _, rfl, rfl, hS, e, q i⟩
  · exact q 0
def sp_word : Sp := fun vs H Q _ => ∃ (c n at_ tn : Int), vs = [.int c, .int n, .int at_, .int tn] ∧ 0 ≤ n ∧ n ≤ 8 ∧ ∀ (x : Str) (H' : Hp), Same H H' → (x.length : Int) = n → Q (.str x) H'
theorem ok_word {k : Nat} {f : Addr} {fd : FuncData} (F : Fun K "_law_word" "_law_word" s_law_word f fd) (z_range : mg "range" = none) : FnOk P w K mg base CX0 (k + 1) f fd ["_law_cell", "_law_long", "_law_at", "_law_turn"] sp_word := by
  refine F.ok sc_law_word (fun vs H Q E h => ?_) (fun cdv A outer s H vs Q E hr h => ?_)
  · obtain ⟨c, n, a, tn, rfl, _⟩ := h
    rfl
  obtain ⟨c, n, at_, tn, rfl, hn0, hn8, q⟩ := h
  refine ⟨_, (pss_cons (ps_set (i := 4) sc_law_word.nd rfl (Or.inl rfl) pe_str)
    (pss_cons (ps_set (i := 5) sc_law_word.nd rfl (Or.inl rfl) pe_str)
    (pss_cons (ps_for PassesOwn.never rfl (pi_range1 (by rfl) z_range (pa_cons (pv 1) pa_nil)) (pg_name (i := 6) sc_law_word.nd rfl (Or.inl rfl)) (pss_cons (ps_set (i := 7) sc_law_word.nd rfl (Or.inl rfl) (pe_op op_fdiv (pe_op op_mod (pe_op op_mul (pe_op op_mod (pv 0) pe_int) (pe_op op_add pe_int (pe_op op_mul (pe_op op_mul pe_int (pv 6)) (pv 6)))) pe_int) pe_int))
    (pss_cons (ps_if (pt_cmpR op_eq (pv 6) (pv 2) (nomark _)) (pss_one (ps_set (i := 7) sc_law_word.nd rfl (Or.inl rfl) (pe_op op_add (pv 7) (pv 3)))) pss_nil)
    (pss_one (ps_set (i := 5) sc_law_word.nd rfl (Or.inl rfl) (pe_op op_add_str (pv 5) (pe_ix ix_str (pv 4) (pe_op op_mod (pv 7) pe_int) (fun _ _ => rfl))))))))
    (pss_cons (ps_if (pt_cmpR (r := rIn K false) op_in_seq (pv 5) (pe_tupR [.str "let", .str "in", .str "if", .str "then", .str "else", .str "say", .str "ask", .str "stop", .str "where", .str "quiet", .str "number"] (by rfl) : PE _ _ _) rfl) (pss_one (ps_ret (pe_op op_add_str pe_str (pe_slice sl_str (pv 5) (po_some pe_int) po_none)))) pss_nil)
    (pss_one (ps_ret (pv 5))))))), ?_⟩
  generalize hL : Str.ofString "qwertyuiopasdfghjklzxcvbnm" = L
  have hLlen : L.length = 26 := by rw [← hL]; decide +kernel
  refine ⟨_, rfl, n, rfl, by omega, by omega, ?_⟩
  refine for_range (n := n.toNat) (fun i σ' H' => ∃ (x : Str) (s6 s7 : Option V), σ' = [some (.int c), some (.int n), some (.int at_), some (.int tn), some (.str L), some (.str x), s6, s7] ∧ H' = H ∧ x.length = i) ?_ ?_ ?_
  · exact ⟨_, none, none, rfl, rfl, by decide +kernel⟩
  · rintro i σ1 H1 hi ⟨x, s6, s7, rfl, rfl, hx⟩
    refine ⟨_, rfl, _, _, rfl, rfl, (show (0 : Int) < 999979 by decide), _, rfl, _, _, rfl, rfl, .inl ⟨(by decide), (by decide)⟩, _, rfl, _, _, rfl, rfl, .inl ⟨(by omega), (by omega)⟩, _, _, rfl, rfl, _, _, rfl, rfl, .inl ⟨(by omega), (by omega)⟩, _, _, rfl, rfl, (show (0 : Int) < 2147483647 by decide), _, _, rfl, rfl, ⟨(show (0 : Int) < 103 by decide), (show (103 : Int) < 1073741824 by decide)⟩, ?_⟩
    refine ⟨_, rfl, _, rfl, rfl, _, rfl, ?_⟩
    have fin : ∀ z : Int, ∃ (ch : Str), ch.length = 1 ∧ atI L.cps.toList (z % 26) = some (ch.cps.getD 0 0) ∧ ch = ⟨#[ch.cps.getD 0 0]⟩ := fun z => by
      have hl : ((L.cps.toList).length : Int) = 26 := by
        rw [Array.length_toList]
        exact_mod_cast hLlen
      obtain ⟨v, _, e⟩ := atI_in (xs := L.cps.toList) (i := z % 26) (by omega) (by omega)
      exact ⟨⟨#[v]⟩, rfl, e, rfl⟩
    refine ite2 (fun _ => ?_) (fun _ => ?_)
    · refine ⟨_, rfl, _, rfl, _, _, rfl, rfl, ?_⟩
      obtain ⟨ch, l1, e1, e2⟩ := fin _
      refine ⟨_, rfl, _, rfl, _, rfl, _, _, rfl, rfl, (show (0 : Int) < 26 by decide), L, _, _, rfl, rfl, line1000 (by rw [hLlen]; decide), e1, _, _, rfl, rfl, line1000 ?_, ?_⟩
      · show x.length + 1 ≤ 1000
        omega
      · refine ⟨_, _, _, rfl, rfl, ?_⟩
        have : (x ++ (⟨#[ch.cps.getD 0 0]⟩ : Str)).length = x.length + 1 := by
          show (x.cps ++ #[ch.cps.getD 0 0]).size = x.cps.size + 1
          simp
        omega
    · obtain ⟨ch, l1, e1, e2⟩ := fin _
      refine ⟨_, rfl, _, rfl, _, rfl, _, _, rfl, rfl, (show (0 : Int) < 26 by decide), L, _, _, rfl, rfl, line1000 (by rw [hLlen]; decide), e1, _, _, rfl, rfl, line1000 ?_, ?_⟩
      · show x.length + 1 ≤ 1000
        omega
      · refine ⟨_, _, _, rfl, rfl, ?_⟩
        have : (x ++ (⟨#[ch.cps.getD 0 0]⟩ : Str)).length = x.length + 1 := by
          show (x.cps ++ #[ch.cps.getD 0 0]).size = x.cps.size + 1
          simp
        omega
  · rintro σ1 H1 ⟨x, s6, s7, rfl, rfl, hx⟩
    refine ⟨_, rfl, (by show 11 ≤ sizeLine; decide), fun p hp => ⟨p, _, rfl, .inr (SqT.of upd_same), rfl, rfl, _, rfl, ?_⟩⟩
    refine ite2 (fun hin => ?_) (fun _ => ?_)
    · have hkw : ("v" ++ Txt.slice x (some 1) none).length = x.length := by
        have h1 : inV (.str x) [.str "let", .str "in", .str "if", .str "then", .str "else", .str "say", .str "ask", .str "stop", .str "where", .str "quiet", .str "number"] = true := hin
        have h2 : ∀ y ∈ ([("let" : Str), "in", "if", "then", "else", "say", "ask", "stop", "where", "quiet", "number"] : List Str), ((("v" : Str)) ++ Txt.slice y (some 1) none).length = y.length := by decide +kernel
        refine h2 x ?_
        unfold inV at h1
        obtain ⟨v, hv, e⟩ := List.any_eq_true.mp h1
        have : v ∈ ([("let" : Str), "in", "if", "then", "else", "say", "ask", "stop", "where", "quiet", "number"] : List Str).map V.str := hv
        obtain ⟨y, hy, rfl⟩ := List.mem_map.mp this
        rw [eqV_str] at e
        exact e ▸ hy
      refine ⟨_, rfl, _, rfl, x, rfl, line1000 (by omega), fun hle => ⟨_, _, rfl, rfl, line1000 ?_, q _ _ (same_upd hp) ?_⟩⟩
      · have : (Str.ofString "v").length = 1 := by decide +kernel
        omega
      · rw [hkw, hx]
        omega
    · exact ⟨_, rfl, q _ _ (same_upd hp) (by rw [hx]; omega)⟩
end
end K04
namespace K04
open PySem PySem.Spec L2 PyProof.Rows
section
variable {P : Program} {w : World} {K : PySem.W.Frag} {mg : Str → Option Value} {base : Heap}
def sp_words : Sp := fun vs H Q _ => ∃ (c : Int), vs = [.int c] ∧ ∀ (l : Addr) (H' : Hp) (ws : List Str), Same H H' → H l = none → ws.length = 4 → (∃ n : Nat, ∀ x ∈ ws, x.length = n) → H' l = some (.lst (ws.map V.str)) → Q (.ref l) H'
theorem ok_words {k : Nat} {f g : Addr} {fd gd : FuncData} (F : Fun K "_law_words" "_law_words" s_law_words f fd) (z_range : mg "range" = none) (G_law_word : FnB P w K mg base k "_law_word" g gd ["_law_cell", "_law_long", "_law_at", "_law_turn"] sp_word) :
    FnOk P w K mg base CX0 (k + 1) f fd ["_law_cell"] sp_words := by
  refine F.ok sc_law_words (fun vs H Q E h => ?_) (fun cdv A outer s H vs Q E hr h => ?_)
  · obtain ⟨c, rfl, _⟩ := h
    rfl
  obtain ⟨c, rfl, q⟩ := h
  refine ⟨_, (pss_cons (ps_set (i := 1) sc_law_words.nd rfl (Or.inr rfl) (pe_op op_add pe_int (pe_op op_mod (pv 0) pe_int)))
    (pss_cons (ps_set (i := 2) sc_law_words.nd rfl (Or.inr rfl) (pe_op op_mod (pe_op op_fdiv (pv 0) pe_int) (pv 1)))
    (pss_one (ps_ret (pe_compB ["_law_k", "_law_long", "_law_at", "_law_cell"] [none, some 1, some 2, some 0] rfl (pi_range1 (by rfl) z_range (pa_cons pe_int pa_nil)) (fun _ _ _ _ _ => (pg_name (i := 0) (show List.Nodup (["_law_k", "_law_long", "_law_at", "_law_cell"] : List Str) by decide +kernel) rfl (Or.inl rfl))) (fun _ _ _ _ _ => pts_nil) (fun _ _ _ _ _ => (pe_call G_law_word.ok hr (by rfl) G_law_word.gl G_law_word.kp G_law_word.bd .nil pass0 (pa_cons (pe_op op_fdiv (pv 3) pe_int) (pa_cons (pv 1) (pa_cons (pv 2) (pa_cons (pe_op op_mul pe_int (pv 0)) pa_nil)))))) rfl))))), ?_⟩
  refine ⟨_, rfl, _, _, rfl, rfl, (show (0 : Int) < 8 by decide), _, _, rfl, rfl, ?_⟩
  refine ⟨_, rfl, _, _, rfl, rfl, ⟨(show (0 : Int) < 8 by decide), (show (8 : Int) < 1073741824 by decide)⟩, _, rfl, _, _, rfl, rfl, (show (0 : Int) < 1 + c % 8 by omega), ?_⟩
  refine ⟨4, rfl, by decide, by decide, fun acc hacc => ?_⟩
  refine comp_range (n := 4) (fun i H' => Same H H' ∧ ∃ ws : List Str, ws.length = i ∧ (∀ x ∈ ws, (x.length : Int) = 1 + c % 8) ∧ H' acc = some (.lst (ws.map V.str))) ⟨same_upd hacc, [], rfl, by simp, upd_same⟩ ?_ ?_
  · rintro i H1 hi ⟨g1, ws, hw, hln, e1⟩
    refine ⟨.skip (.keep (.keep (.keep .nil))), ?_⟩
    refine ⟨_, rfl, _, _, rfl, rfl, ⟨(show (0 : Int) < 64 by decide), (show (64 : Int) < 1073741824 by decide)⟩, _, rfl, _, rfl, _, rfl, _, _, rfl, rfl, .inl ⟨by decide, by decide⟩, _, _, _, _, rfl, (by omega), (by omega), fun x H2 g2 hxl => ?_⟩
    refine ⟨_, g2 _ _ e1, small1000 (by rw [List.length_map]; omega), same_set (g1.trans g2) hacc, ws ++ [x], by rw [List.length_append, hw]; rfl, fun y hy => by rcases List.mem_append.mp hy with h | h; exact hln y h; rw [List.mem_singleton.mp h]; exact hxl, ?_⟩
    rw [upd_same, List.map_append]
    rfl
  · rintro H1 ⟨g1, ws, hw, hln, e1⟩
    exact q acc H1 ws g1 hacc hw ⟨(1 + c % 8).toNat, fun y hy => by have := hln y hy; omega⟩ e1
theorem pick {ws : List Str} (h : ws.length = 4) (z : Int) : ∃ x, x ∈ ws ∧ atI (ws.map V.str) (z % 4) = some (.str x) := by
  obtain ⟨v, hv, e⟩ := atI_in (xs := ws.map V.str) (i := z % 4) (by omega) (by rw [List.length_map]; omega)
  obtain ⟨x, hx, rfl⟩ := List.mem_map.mp hv
  exact ⟨x, hx, e⟩
theorem paired_take {α : Type} {F : α → V → Prop} : ∀ {as : List α} {us : List V} (n : Nat), Paired F as us → Paired F (as.take n) (us.take n)
  | _, _, 0, _ => .nil
  | _, _, _ + 1, .nil => .nil
  | _, _, n + 1, .cons r t => .cons r (paired_take n t)
theorem cut_front (xs : List V) (k : Int) (h : 0 ≤ k) : cutV xs none (some k) = xs.take k.toNat := by
  unfold cutV
  have e : ((k.toNat : Nat) : Int) = k := by omega
  rw [HT.sIx_none, ← e, HT.sIx_nat, Int.toNat_natCast]
  simp
def sp_leaf : Sp := fun vs H Q _ => ∃ (c : Int) (l : Addr) (ws : List Str), vs = [.int c, .ref l] ∧ H l = some (.lst (ws.map V.str)) ∧ ws.length = 4 ∧ ∀ (t : Tr) (v : V) (H' : Hp), Same H H' → Rep H' t v → t.size = 1 → Good ws t → Q v H'
abbrev s_law_leaf : Stmt := top 15
theorem sc_law_leaf : FnScope ["_law_cell", "_law_words_here", "_law_number", "_law_word_here", "_law_some"] ["_law_cell", "_law_words_here"] (defScope s_law_leaf) := ⟨rfl, rfl, rfl, by decide +kernel, rfl, by decide +kernel, by decide +kernel⟩
theorem ok_leaf {k : Nat} {f : Addr} {fd : FuncData} (F : Fun K "_law_leaf" "_law_leaf" s_law_leaf f fd) (z_tuple : mg "tuple" = none) : FnOk P w K mg base CX0 (k + 1) f fd ["_law_cell", "_law_words_here"] sp_leaf := by
  refine F.ok sc_law_leaf (fun vs H Q E h => ?_) (fun cdv A outer s H vs Q E hr h => ?_)
  · obtain ⟨c, l, ws, rfl, _⟩ := h
    rfl
  obtain ⟨c, l, ws, rfl, hl, hw, q⟩ := h
  refine ⟨_, (Sd.un (pss_consS (ps_setS (i := 2) sc_law_leaf.nd rfl (Or.inl rfl) ⟨pe_op op_mod (pe_op op_mul (pv 0) pe_int) pe_int⟩)
    (pss_consS (ps_setS (i := 3) sc_law_leaf.nd rfl (Or.inl rfl) (pe_ixS (r := rIxL K) ix_list ⟨pv 1⟩ ⟨pe_op op_mod (pe_op op_fdiv (pv 2) pe_int) pe_int⟩ (fun _ _ => rfl)))
    (pss_consS (ps_ifS ⟨pt_cmpR op_eq (pe_op op_mod (pv 2) pe_int) pe_int (nomark _)⟩ (pss_oneS (ps_retS (pe_tupS (pa_consS ⟨pe_str⟩ (pa_consS ⟨pe_op op_mod (pv 0) (pe_op op_pow pe_int pe_int)⟩ ⟨pa_nil⟩))))) ⟨pss_nil⟩)
    (pss_consS (ps_ifS ⟨pt_cmpR op_eq (pe_op op_mod (pv 2) pe_int) pe_int (nomark _)⟩ (pss_oneS (ps_retS (pe_tupS (pa_consS (pe_ixS (r := rIxL K) ix_list (pe_lstS (pa_consS ⟨pe_str⟩ (pa_consS ⟨pe_str⟩ ⟨pa_nil⟩))) ⟨pe_op op_mod (pe_op op_fdiv (pv 2) pe_int) pe_int⟩ (fun _ _ => rfl)) (pa_consS ⟨pv 3⟩ ⟨pa_nil⟩))))) ⟨pss_nil⟩)
    (pss_consS (ps_ifS ⟨pt_cmpR op_eq (pe_op op_mod (pv 2) pe_int) pe_int (nomark _)⟩ (pss_consS (ps_setS (i := 4) sc_law_leaf.nd rfl (Or.inl rfl) (pe_lstS (pa_consS (pe_tupS (pa_consS ⟨pe_str⟩ (pa_consS (pe_ixS (r := rIxL K) ix_list ⟨pv 1⟩ ⟨pe_op op_mod (pe_op op_fdiv (pv 2) pe_int) pe_int⟩ (fun _ _ => rfl)) ⟨pa_nil⟩))) (pa_consS (pe_tupS (pa_consS ⟨pe_str⟩ (pa_consS (pe_ixS (r := rIxL K) ix_list ⟨pv 1⟩ ⟨pe_op op_mod (pe_op op_fdiv (pv 2) pe_int) pe_int⟩ (fun _ _ => rfl)) (pa_consS (pe_tupS ⟨pa_nil⟩) ⟨pa_nil⟩)))) ⟨pa_nil⟩))))
    (pss_consS (ps_exprS (pe_bmS PySem.F.plainAttrs_list PySem.F.slot_list_append PySem.F.type_list_append mt_append ⟨pv 4⟩ (pa_consS (pe_ixS (r := rIxL K) ix_list (pe_lstS (pa_consS (pe_tupS (pa_consS ⟨pe_str⟩ (pa_consS ⟨pe_op op_mod (pv 0) pe_int⟩ ⟨pa_nil⟩))) (pa_consS (pe_tupS (pa_consS ⟨pe_str⟩ (pa_consS (pe_ixS (r := rIxL K) ix_list ⟨pv 1⟩ ⟨pe_op op_mod (pe_op op_fdiv (pv 2) pe_int) pe_int⟩ (fun _ _ => rfl)) ⟨pa_nil⟩))) ⟨pa_nil⟩))) ⟨pe_op op_mod (pv 0) pe_int⟩ (fun _ _ => rfl)) ⟨pa_nil⟩)))
    (pss_oneS (ps_retS (pe_tupS (pa_consS ⟨pe_str⟩ (pa_consS ⟨pv 3⟩ (pa_consS (pe_callTyS call_tuple_of (by rfl) z_tuple PyProof.Rows.boot_tuple (pa_consS ⟨pe_slice (r := rSlL K) sl_list (pv 4) po_none (po_some (pe_op op_mod (pe_op op_fdiv (pv 2) pe_int) pe_int))⟩ ⟨pa_nil⟩)) ⟨pa_nil⟩)))))))) ⟨pss_nil⟩)
    (pss_oneS (ps_retS (pe_tupS (pa_consS ⟨pe_str⟩ (pa_consS ⟨pv 3⟩ ⟨pa_nil⟩))))))))))), ?_⟩
  refine ⟨_, rfl, _, _, rfl, rfl, .inr ⟨by decide, by decide⟩, _, _, rfl, rfl, (show (0 : Int) < 2147483399 by decide), ?_⟩
  dsimp only
  generalize c * 40692 % 2147483399 = N
  obtain ⟨x, hx, ex⟩ := pick hw (N / 8)
  refine ⟨_, rfl, _, rfl, _, _, rfl, rfl, ⟨(show (0 : Int) < 8 by decide), (show (8 : Int) < 1073741824 by decide)⟩, _, _, rfl, rfl, (show (0 : Int) < 4 by decide), l, _, _, _, rfl, rfl, SqL.of hl, ex, ?_⟩
  have d2 : 2 ≤ sizeLine := by decide
  have d3 : 3 ≤ sizeLine := by decide
  have d0 : 0 ≤ sizeLine := by decide
  have d8 : (0 : Int) < 8 := by decide
  refine ⟨_, rfl, _, _, rfl, rfl, d8, rfl, _, rfl, ?_⟩
  refine ite2 (fun _ => ?_) (fun _ => ?_)
  · refine ⟨_, rfl, _, _, rfl, rfl, ⟨by decide, by decide, by decide⟩, _, _, rfl, rfl, (show (0 : Int) < 10 ^ 30 by decide), d2, fun p hp => ?_⟩
    exact q (.num _) _ _ (same_upd hp) ⟨p, rfl, upd_same⟩ rfl trivial
  refine ⟨_, rfl, _, _, rfl, rfl, d8, rfl, _, rfl, ?_⟩
  refine ite2 (fun _ => ?_) (fun _ => ?_)
  · obtain ⟨v, hv, ev⟩ := atI_in (xs := [V.str "ask", V.str "stop"]) (i := N / 8 % 2) (by omega) (by show _ < ((2 : Nat) : Int); omega)
    refine ⟨d2, fun p0 hp0 => ⟨_, rfl, _, _, rfl, rfl, ⟨(show (0 : Int) < 8 by decide), (show (8 : Int) < 1073741824 by decide)⟩, _, _, rfl, rfl, (show (0 : Int) < 2 by decide), p0, _, _, _, rfl, rfl, SqL.of upd_same, ev, _, rfl, d2, fun p hp => ?_⟩⟩
    simp only [List.mem_cons, List.not_mem_nil, or_false] at hv
    rcases hv with rfl | rfl
    · exact q (.ask x) _ _ ((same_upd hp0).trans (same_upd hp)) ⟨p, rfl, upd_same⟩ rfl trivial
    · exact q (.stop x) _ _ ((same_upd hp0).trans (same_upd hp)) ⟨p, rfl, upd_same⟩ rfl trivial
  refine ⟨_, rfl, _, _, rfl, rfl, d8, rfl, _, rfl, ?_⟩
  refine ite2 (fun _ => ?_) (fun _ => ?_)
  · obtain ⟨y1, hy1, e1⟩ := pick hw (N / 31)
    obtain ⟨y2, hy2, e2⟩ := pick hw (N / 63)
    obtain ⟨y3, hy3, e3⟩ := pick hw (N / 127)
    have d4 : (0 : Int) < 4 := by decide
    refine ⟨_, rfl, _, rfl, _, _, rfl, rfl, ⟨(show (0 : Int) < 31 by decide), (show (31 : Int) < 1073741824 by decide)⟩, _, _, rfl, rfl, d4, l, _, _, _, rfl, rfl, SqL.of hl, e1, d2, fun p1 hp1 => ?_⟩
    have g1 := same_upd (o := .tup [.str "name", .str y1]) hp1
    refine ⟨_, rfl, _, rfl, _, _, rfl, rfl, ⟨(show (0 : Int) < 63 by decide), (show (63 : Int) < 1073741824 by decide)⟩, _, _, rfl, rfl, d4, l, _, _, _, rfl, rfl, SqL.of (g1 _ _ hl), e2, d0, fun p2 hp2 => ⟨d3, fun p3 hp3 => ⟨d2, fun ls hls => ?_⟩⟩⟩
    have g2 := same_upd (o := .tup []) hp2
    have g3 := same_upd (o := .tup [.str "gap", .str y2, .ref p2]) hp3
    have g4 := same_upd (o := .lst [.ref p1, .ref p3]) hls
    have gA := g1.trans (g2.trans (g3.trans g4))
    have hlsH : H ls = none := (g1.trans (g2.trans g3)).free hls
    have t1 := g4 _ _ (g3 _ _ (g2 _ _ (upd_same (H := H) (a := p1) (o := .tup [.str "name", .str y1]))))
    have t2 := g4 _ _ (g3 _ _ (upd_same (H := upd H p1 (.tup [.str "name", .str y1])) (a := p2) (o := .tup [])))
    have t3 := g4 _ _ (upd_same (H := upd (upd H p1 (.tup [.str "name", .str y1])) p2 (.tup [])) (a := p3) (o := .tup [.str "gap", .str y2, .ref p2]))
    have els : (upd (upd (upd (upd H p1 (.tup [.str "name", .str y1])) p2 (.tup [])) p3 (.tup [.str "gap", .str y2, .ref p2])) ls (.lst [.ref p1, .ref p3])) ls = some (.lst [.ref p1, .ref p3]) := upd_same
    generalize upd (upd (upd (upd H p1 (.tup [.str "name", .str y1])) p2 (.tup [])) p3 (.tup [.str "gap", .str y2, .ref p2])) ls (.lst [.ref p1, .ref p3]) = H1 at gA t1 t2 t3 els ⊢
    clear g1 g2 g3 g4
    have hl1 := gA _ _ hl
    refine ⟨_, rfl, .inl ⟨rfl, _, SqL.of els⟩, _, rfl, _, _, rfl, rfl, (show (0 : Int) < 1000 by decide), d2, fun p4 hp4 => ?_⟩
    have g5 := same_upd (o := .tup [.str "num", .int (c % 1000)]) hp4
    refine ⟨_, rfl, _, rfl, _, _, rfl, rfl, ⟨(show (0 : Int) < 127 by decide), (show (127 : Int) < 1073741824 by decide)⟩, _, _, rfl, rfl, d4, l, _, _, _, rfl, rfl, SqL.of (g5 _ _ hl1), e3, d2, fun p5 hp5 => ⟨d2, fun pl hpl => ?_⟩⟩
    have g6 := same_upd (o := .tup [.str "name", .str y3]) hp5
    have g7 := same_upd (o := .lst [.ref p4, .ref p5]) hpl
    have gB := g5.trans (g6.trans g7)
    have t4 := g7 _ _ (g6 _ _ (upd_same (H := H1) (a := p4) (o := .tup [.str "num", .int (c % 1000)])))
    have t5 := g7 _ _ (upd_same (H := upd H1 p4 (.tup [.str "num", .int (c % 1000)])) (a := p5) (o := .tup [.str "name", .str y3]))
    have epl : (upd (upd (upd H1 p4 (.tup [.str "num", .int (c % 1000)])) p5 (.tup [.str "name", .str y3])) pl (.lst [.ref p4, .ref p5])) pl = some (.lst [.ref p4, .ref p5]) := upd_same
    generalize upd (upd (upd H1 p4 (.tup [.str "num", .int (c % 1000)])) p5 (.tup [.str "name", .str y3])) pl (.lst [.ref p4, .ref p5]) = H2 at gB t4 t5 epl ⊢
    clear g5 g6 g7
    obtain ⟨v3, hv3, ev3⟩ := atI_in (xs := [V.ref p4, V.ref p5]) (i := c % 2) (by omega) (by show _ < ((2 : Nat) : Int); omega)
    refine ⟨_, rfl, _, _, rfl, rfl, (show (0 : Int) < 2 by decide), pl, _, _, _, rfl, rfl, SqL.of epl, ev3, ?_⟩
    obtain ⟨a3, ra3, ha3⟩ : ∃ a3 : Atom, AtRep H2 a3 v3 ∧ ∀ y ∈ a3.names, y ∈ ws := by
      simp only [List.mem_cons, List.not_mem_nil, or_false] at hv3
      rcases hv3 with rfl | rfl
      · exact ⟨.num _, ⟨p4, rfl, t4⟩, fun y hy => by cases hy⟩
      · exact ⟨.name y3, ⟨p5, rfl, t5⟩, fun y hy => by rw [List.mem_singleton.mp hy]; exact hy3⟩
    have els2 := gB _ _ els
    refine ⟨ls, _, _, rfl, rfl, els2, small1000 (show 2 ≤ 1000 by decide), ?_⟩
    have s5 : Same H (upd H2 ls (.lst ([.ref p1, .ref p3] ++ [v3]))) := same_set (gA.trans gB) hlsH
    have k6 := Tk.lst (o := .lst ([.ref p1, .ref p3] ++ [v3])) els2
    have u1 := k6 _ _ (gB.tk _ _ t1)
    have u2 := k6 _ _ (gB.tk _ _ t2)
    have u3 := k6 _ _ (gB.tk _ _ t3)
    have u4 := ra3.mono k6
    have els3 : (upd H2 ls (.lst ([.ref p1, .ref p3] ++ [v3]))) ls = some (.lst ([.ref p1, .ref p3] ++ [v3])) := upd_same
    generalize upd H2 ls (.lst ([.ref p1, .ref p3] ++ [v3])) = H3 at s5 u1 u2 u3 u4 els3 ⊢
    generalize hz : N / 511 % 4 = z
    have hz0 : 0 ≤ z := by omega
    refine ⟨_, rfl, _, rfl, _, rfl, _, _, rfl, rfl, ⟨(show (0 : Int) < 511 by decide), (show (511 : Int) < 1073741824 by decide)⟩, _, _, rfl, rfl, d4, z, (by rw [← hz]), ls, _, rfl, SqL.of els3, fun p5 hp5 => ⟨p5, _, rfl, .inl ⟨SqL.of upd_same, fun p6 hp6 => ⟨d3, fun p7 hp7 => ?_⟩⟩⟩⟩
    have g6 := same_upd (o := .lst (cutV ([.ref p1, .ref p3] ++ [v3]) none (some z))) hp5
    have g7 := same_upd (o := .tup (cutV ([.ref p1, .ref p3] ++ [v3]) none (some z))) hp6
    have g8 := same_upd (o := .tup [.str "gap", .str x, .ref p6]) hp7
    have gC := (g6.trans (g7.trans g8)).tk
    refine q (.gap x ([Atom.name y1, .gap y2, a3].take z.toNat)) _ _ (s5.trans (g6.trans (g7.trans g8))) ⟨p7, p6, _, rfl, upd_same, g8 _ _ upd_same, ?_, ?_⟩ rfl ?_
    · exact Nat.le_trans (cutV_length _ _ _) (show 3 ≤ 1000 by decide)
    · have all : ∀ H' : Hp, Tk H3 H' → Paired (AtRep H') ([Atom.name y1, .gap y2, a3].take z.toNat) (cutV ([.ref p1, .ref p3] ++ [v3]) none (some z)) := fun H' k => by
        rw [cut_front _ _ hz0]
        exact paired_take _ (.cons ⟨p1, rfl, k _ _ u1⟩ (.cons ⟨p3, p2, rfl, k _ _ u3, k _ _ u2⟩ (.cons (u4.mono k) .nil)))
      exact all _ gC
    · intro a ha y hy
      have ha' := List.mem_of_mem_take ha
      simp only [List.mem_cons, List.not_mem_nil, or_false] at ha'
      rcases ha' with h | h | h
      · subst h; rw [List.mem_singleton.mp hy]; exact hy1
      · subst h; cases hy
      · subst h; exact ha3 y hy
  · refine ⟨_, rfl, d2, fun p hp => ?_⟩
    exact q (.name x) _ _ (same_upd hp) ⟨p, rfl, upd_same⟩ rfl hx
end
end K04
set_option Elab.async false
set_option linter.all false
set_option maxRecDepth 100000
set_option maxHeartbeats 4000000
namespace L2
open PySem
theorem sIx_int {n d : Nat} {v : Int} (h0 : 0 ≤ v) (h1 : v ≤ n) : HT.sIx n d (some v) = v.toNat := by
  have e : ((v.toNat : Nat) : Int) = v := by omega
  rw [← e, HT.sIx_nat, Int.toNat_natCast]
  omega
theorem cutInts {ns : List Int} {lo hi : Option Int} {i j : Nat} (h1 : HT.sIx ns.length 0 lo = i) (h2 : HT.sIx ns.length ns.length hi = j) (h : j ≤ ns.length) : ∃ ms : List Int, cutV (ns.map V.int) lo hi = ms.map V.int ∧ ms.length = j - i := by
  refine ⟨(ns.drop i).take (j - i), ?_, ?_⟩
  · unfold cutV
    rw [List.length_map, h1, h2, ← List.map_drop, ← List.map_take]
  · rw [List.length_take, List.length_drop]
    omega
end L2
namespace K04
open PySem PySem.Spec L2 PyProof.Rows
abbrev s_law_tree : Stmt := top 16
theorem sc_law_tree : FnScope ["_law_cells", "_law_words_here", "_law_deep", "_law_number", "_law_rest", "_law_at", "_law_sign", "_law_one", "_law_far", "_law_two", "_law_other"] ["_law_cells", "_law_words_here", "_law_deep"] (defScope s_law_tree) := ⟨rfl, rfl, rfl, by decide +kernel, rfl, by decide +kernel, by decide +kernel⟩
section
variable {P : Program} {w : World} {K : PySem.W.Frag} {mg : Str → Option Value} {base : Heap}
def sp_tree (K : PySem.W.Frag) (n : Nat) : Sp := fun vs H Q _ => ∃ (a l : Addr) (ns : List Int) (ws : List Str) (d : Int), vs = [.ref a, .ref l, .int d] ∧ SqL K H a (ns.map V.int) ∧ ns.length ≤ 63 ∧ H l = some (.lst (ws.map V.str)) ∧ ws.length = 4 ∧ 0 ≤ d ∧ d < n ∧
  ∀ (t : Tr) (v : V) (H' : Hp), Same H H' → Rep H' t v → t.size ≤ 3 * ns.length + 1 → (t.dep : Int) ≤ d + 2 → Good ws t → Q v H'
def kds : List Kd := [.say, .add, .sub, .mul, .thn, .ite, .lett, .lett, .lett]
theorem pickSign (z : Int) : ∃ kd : Kd, kd ∈ kds ∧ atI (kds.map fun k => V.str k.s) (z % 9) = some (.str kd.s) := by
  have hl : ((kds.map fun k => V.str k.s).length : Int) = 9 := rfl
  obtain ⟨v, hv, e⟩ := atI_in (xs := kds.map fun k => V.str k.s) (i := z % 9) (by omega) (by omega)
  obtain ⟨kd, hk, rfl⟩ := List.mem_map.mp hv
  exact ⟨kd, hk, e⟩
theorem ok_tree {k n : Nat} {f g1 : Addr} {fd gd1 : FuncData} (F : Fun K "_law_tree" "_law_tree" s_law_tree f fd) (z_len : mg "len" = none) (G_law_leaf : FnB P w K mg base k "_law_leaf" g1 gd1 ["_law_cell", "_law_words_here"] sp_leaf)
    (G_law_tree : FnB P w K mg base k "_law_tree" f fd ["_law_cells", "_law_words_here", "_law_deep"] (sp_tree K n)) :
    FnOk P w K mg base CX0 (k + 1) f fd ["_law_cells", "_law_words_here", "_law_deep"] (sp_tree K (n + 1)) := by
  refine F.ok sc_law_tree (fun vs H Q E h => ?_) (fun cdv A outer s H vs Q E hr h => ?_)
  · obtain ⟨a, l, ns, ws, d, rfl, _⟩ := h
    rfl
  obtain ⟨a, l, ns, ws, d, rfl, hS, h63, hl, hw, hd0, hdn, q⟩ := h
  refine ⟨_, (Sd.un (pss_consS (ps_ifS ⟨pt_cmpR op_eq (pe_callB call_len_seq (by rfl) z_len PySem.boot_len (pa_cons (pv 0) pa_nil)) pe_int (nomark _)⟩ (pss_oneS (ps_retS (pe_tupS (pa_consS ⟨pe_str⟩ (pa_consS (pe_ixS (r := rIxL K) ix_list ⟨pv 1⟩ ⟨pe_op op_mod (pv 2) pe_int⟩ (fun _ _ => rfl)) ⟨pa_nil⟩))))) ⟨pss_nil⟩)
    (pss_consS (ps_ifS ⟨(pw_or (pt_cmpR op_eq (pe_callB call_len_seq (by rfl) z_len PySem.boot_len (pa_cons (pv 0) pa_nil)) pe_int (nomark _)) (pw_or1 (pt_cmpR op_eq (pv 2) pe_int (nomark _)))).pt⟩ (pss_oneS (ps_retS ⟨pe_call G_law_leaf.ok hr (by rfl) G_law_leaf.gl G_law_leaf.kp G_law_leaf.bd .nil pass0 (pa_cons (pe_ix (r := rIxL K) ix_list (pv 0) pe_int (fun _ _ => rfl)) (pa_cons (pv 1) pa_nil))⟩)) ⟨pss_nil⟩)
    (pss_consS (ps_setS (i := 3) sc_law_tree.nd rfl (Or.inl rfl) ⟨pe_op op_mod (pe_op op_mul (pe_ix (r := rIxL K) ix_list (pv 0) pe_int (fun _ _ => rfl)) pe_int) pe_int⟩)
    (pss_consS (ps_setS (i := 4) sc_law_tree.nd rfl (Or.inl rfl) ⟨pe_slice (r := rSlL K) sl_list (pv 0) (po_some pe_int) po_none⟩)
    (pss_consS (ps_setS (i := 5) sc_law_tree.nd rfl (Or.inl rfl) ⟨pe_op op_mod (pe_op op_fdiv (pv 3) pe_int) (pe_op op_add (pe_callB call_len_seq (by rfl) z_len PySem.boot_len (pa_cons (pv 4) pa_nil)) pe_int)⟩)
    (pss_consS (ps_setS (i := 6) sc_law_tree.nd rfl (Or.inl rfl) (pe_ixS (r := rIxL K) ix_list ⟨pe_lstR [.str "say", .str "add", .str "sub", .str "mul", .str "then", .str "if", .str "let", .str "let", .str "let"] (by rfl)⟩ ⟨pe_op op_mod (pv 3) pe_int⟩ (fun _ _ => rfl)))
    (pss_consS (ps_ifS ⟨pt_cmpR op_eq (pv 6) pe_str (nomark _)⟩ (pss_oneS (ps_retS (pe_tupS (pa_consS ⟨pe_str⟩ (pa_consS ⟨pe_call G_law_tree.ok hr (by rfl) G_law_tree.gl G_law_tree.kp G_law_tree.bd .nil pass0 (pa_cons (pv 4) (pa_cons (pv 1) (pa_cons (pe_op op_sub (pv 2) pe_int) pa_nil)))⟩ ⟨pa_nil⟩))))) ⟨pss_nil⟩)
    (pss_consS (ps_setS (i := 7) sc_law_tree.nd rfl (Or.inl rfl) ⟨pe_call G_law_tree.ok hr (by rfl) G_law_tree.gl G_law_tree.kp G_law_tree.bd .nil pass0 (pa_cons (pe_slice (r := rSlL K) sl_list (pv 4) po_none (po_some (pv 5))) (pa_cons (pv 1) (pa_cons (pe_op op_sub (pv 2) pe_int) pa_nil)))⟩)
    (pss_consS (ps_ifS ⟨pt_cmpR op_eq (pv 6) pe_str (nomark _)⟩ (pss_consS (ps_setS (i := 8) sc_law_tree.nd rfl (Or.inl rfl) ⟨pe_op op_add (pv 5) (pe_op op_mod (pe_op op_fdiv (pv 3) pe_int) (pe_op op_add (pe_op op_sub (pe_callB call_len_seq (by rfl) z_len PySem.boot_len (pa_cons (pv 4) pa_nil)) (pv 5)) pe_int))⟩)
    (pss_consS (ps_setS (i := 9) sc_law_tree.nd rfl (Or.inl rfl) ⟨pe_call G_law_tree.ok hr (by rfl) G_law_tree.gl G_law_tree.kp G_law_tree.bd .nil pass0 (pa_cons (pe_slice (r := rSlL K) sl_list (pv 4) (po_some (pv 5)) (po_some (pv 8))) (pa_cons (pv 1) (pa_cons (pe_op op_sub (pv 2) pe_int) pa_nil)))⟩)
    (pss_oneS (ps_retS (pe_tupS (pa_consS ⟨pe_str⟩ (pa_consS ⟨pv 7⟩ (pa_consS ⟨pv 9⟩ (pa_consS ⟨pe_call G_law_tree.ok hr (by rfl) G_law_tree.gl G_law_tree.kp G_law_tree.bd .nil pass0 (pa_cons (pe_slice (r := rSlL K) sl_list (pv 4) (po_some (pv 8)) po_none) (pa_cons (pv 1) (pa_cons (pe_op op_sub (pv 2) pe_int) pa_nil)))⟩ ⟨pa_nil⟩))))))))) ⟨pss_nil⟩)
    (pss_consS (ps_setS (i := 10) sc_law_tree.nd rfl (Or.inl rfl) ⟨pe_call G_law_tree.ok hr (by rfl) G_law_tree.gl G_law_tree.kp G_law_tree.bd .nil pass0 (pa_cons (pe_slice (r := rSlL K) sl_list (pv 4) (po_some (pv 5)) po_none) (pa_cons (pv 1) (pa_cons (pe_op op_sub (pv 2) pe_int) pa_nil)))⟩)
    (pss_consS (ps_ifS ⟨pt_cmpR op_eq (pv 6) pe_str (nomark _)⟩ (pss_oneS (ps_retS (pe_tupS (pa_consS ⟨pe_str⟩ (pa_consS (pe_ixS (r := rIxL K) ix_list ⟨pv 1⟩ ⟨pe_op op_mod (pe_op op_fdiv (pv 3) pe_int) pe_int⟩ (fun _ _ => rfl)) (pa_consS ⟨pv 7⟩ (pa_consS ⟨pv 10⟩ ⟨pa_nil⟩))))))) ⟨pss_nil⟩)
    (pss_oneS (ps_retS (pe_tupS (pa_consS ⟨pv 6⟩ (pa_consS ⟨pv 7⟩ (pa_consS ⟨pv 10⟩ ⟨pa_nil⟩)))))))))))))))))), ?_⟩
  have d2 : 2 ≤ sizeLine := by decide
  have d3 : 3 ≤ sizeLine := by decide
  have d4 : 4 ≤ sizeLine := by decide
  have d9 : 9 ≤ sizeLine := by decide
  have z4 : (0 : Int) < 4 := by decide
  have hlen : (ns.map V.int).length = ns.length := List.length_map _
  refine ⟨_, rfl, a, _, rfl, .inl hS, rfl, _, rfl, ?_⟩
  refine ite2 (fun _ => ?_) (fun c0 => ?_)
  · obtain ⟨x, hx, ex⟩ := pick hw d
    refine ⟨_, rfl, _, rfl, _, _, rfl, rfl, z4, l, _, _, _, rfl, rfl, SqL.of hl, ex, d2, fun p hp => ?_⟩
    exact q (.name x) _ _ (same_upd hp) ⟨p, rfl, upd_same⟩ (by show 1 ≤ _; omega) (by show ((1 : Nat) : Int) ≤ _; omega) hx
  have c0' : ns.length ≠ 0 := fun z => c0 (decide_eq_true (by rw [hlen, z]; rfl))
  obtain ⟨v0, hv0, e0⟩ := atI_in (xs := ns.map V.int) (i := 0) (Int.le_refl 0) (by rw [hlen]; omega)
  obtain ⟨i0, _, rfl⟩ := List.mem_map.mp hv0
  refine ⟨_, rfl, a, _, rfl, .inl hS, rfl, _, rfl, ?_⟩
  refine ite2 (fun _ => ?_) (fun c1 => ⟨_, rfl, rfl, _, rfl, ite2 (fun _ => ?_) (fun c2 => ?_)⟩)
  · exact ⟨_, rfl, a, _, 0, _, rfl, rfl, hS, e0, _, rfl, i0, l, ws, rfl, hl, hw, fun t v H' g r sz gd => q t v H' g r (by omega) (by have := dep_leaf sz; omega) gd⟩
  · exact ⟨_, rfl, a, _, 0, _, rfl, rfl, hS, e0, _, rfl, i0, l, ws, rfl, hl, hw, fun t v H' g r sz gd => q t v H' g r (by omega) (by have := dep_leaf sz; omega) gd⟩
  have c2' : d ≠ 0 := fun z => c2 (decide_eq_true (by rw [z]))
  refine ⟨_, rfl, a, _, 0, _, rfl, rfl, hS, e0, _, _, rfl, rfl, .inr ⟨by decide, by decide⟩, _, _, rfl, rfl, (show (0 : Int) < 2147483629 by decide), ?_⟩
  obtain ⟨ms, em, lm⟩ := cutInts (ns := ns) (lo := some 1) (hi := none) (i := 1) (j := ns.length) (sIx_int (by decide) (by omega)) rfl (Nat.le_refl _)
  refine ⟨_, rfl, _, rfl, a, _, rfl, hS, fun pr hpr => ?_⟩
  rw [em]
  have g1 := same_upd (o := .lst (ms.map V.int)) hpr
  have epr : upd H pr (.lst (ms.map V.int)) pr = some (.lst (ms.map V.int)) := upd_same
  have hlm : (ms.map V.int).length = ms.length := List.length_map _
  generalize upd H pr (.lst (ms.map V.int)) = H1 at g1 epr ⊢
  dsimp only
  generalize hN : i0 * 69621 % 2147483629 = N
  have hl1 := g1 _ _ hl
  refine ⟨_, rfl, _, _, rfl, rfl, ⟨(show (0 : Int) < 9 by decide), (show (9 : Int) < 1073741824 by decide)⟩, _, rfl, pr, _, rfl, .inl (SqL.of epr), _, _, rfl, rfl, _, _, rfl, rfl, (by rw [hlm]; omega), ?_⟩
  obtain ⟨at_, hat, hat0, hat1⟩ : ∃ at_ : Int, N / 9 % (((ms.map V.int).length : Int) + 1) = at_ ∧ 0 ≤ at_ ∧ at_ ≤ ms.length :=
    ⟨_, rfl, Int.emod_nonneg _ (by omega), by have := Int.emod_lt_of_pos (N / 9) (show (0 : Int) < ((ms.map V.int).length : Int) + 1 by omega); rw [hlm] at this ⊢; omega⟩
  dsimp only
  rw [hat]
  obtain ⟨kd, hk, ek⟩ := pickSign N
  refine ⟨d9, fun ps hps => ⟨_, rfl, _, _, rfl, rfl, (show (0 : Int) < 9 by decide), ps, _, _, _, rfl, rfl, SqL.of upd_same, ek, ?_⟩⟩
  have g2 := same_upd (o := .lst [.str "say", .str "add", .str "sub", .str "mul", .str "then", .str "if", .str "let", .str "let", .str "let"]) hps
  have epr2 := g2 _ _ epr
  have hl2 := g2 _ _ hl1
  have gA := g1.trans g2
  generalize upd H1 ps (.lst [.str "say", .str "add", .str "sub", .str "mul", .str "then", .str "if", .str "let", .str "let", .str "let"]) = H2 at g2 epr2 hl2 gA ⊢
  refine ⟨_, rfl, rfl, _, rfl, ?_⟩
  refine ite2 (fun c3 => ?_) (fun c3 => ?_)
  · refine ⟨_, rfl, _, rfl, _, rfl, _, _, rfl, rfl, pr, l, ms, ws, d - 1, rfl, SqL.of epr2, by omega, hl2, hw, by omega, by omega, fun t v H3 g3 r3 sz3 dp3 gd3 => ⟨d2, fun p hp => ?_⟩⟩
    exact q (.say t) _ _ (gA.trans (g3.trans (same_upd hp))) ⟨p, v, rfl, upd_same, r3.mono (same_upd hp).tk⟩ (by show t.size + 1 ≤ _; omega) (by show ((t.dep + 1 : Nat) : Int) ≤ _; omega) gd3
  obtain ⟨m1, em1, lm1⟩ := cutInts (ns := ms) (lo := none) (hi := some at_) (i := 0) (j := at_.toNat) rfl (sIx_int hat0 hat1) (by omega)
  refine ⟨_, rfl, _, rfl, _, rfl, pr, _, rfl, SqL.of epr2, fun p1 hp1 => ?_⟩
  rw [em1]
  have g3 := same_upd (o := .lst (m1.map V.int)) hp1
  refine ⟨_, rfl, _, rfl, _, _, rfl, rfl, p1, l, m1, ws, d - 1, rfl, SqL.of upd_same, by omega, g3 _ _ hl2, hw, by omega, by omega, fun t1 v1 H4 g4 r1 sz1 dp1 gd1 => ?_⟩
  have gB := gA.trans (g3.trans g4)
  have epr4 := g4 _ _ (g3 _ _ epr2)
  have hl4 := g4 _ _ (g3 _ _ hl2)
  refine ⟨_, rfl, rfl, _, rfl, ?_⟩
  refine ite2 (fun c4 => ?_) (fun c4 => ?_)
  · refine ⟨_, rfl, _, rfl, _, _, rfl, rfl, ⟨(show (0 : Int) < 1009 by decide), (show (1009 : Int) < 1073741824 by decide)⟩, _, rfl, pr, _, rfl, .inl (SqL.of epr4), _, rfl, _, _, rfl, rfl, _, _, rfl, rfl, _, _, rfl, rfl, (by rw [hlm]; omega), _, _, rfl, rfl, ?_⟩
    obtain ⟨far, hfar, hf0, hf1⟩ : ∃ far : Int, at_ + N / 1009 % (((ms.map V.int).length : Int) - at_ + 1) = far ∧ at_ ≤ far ∧ far ≤ ms.length :=
      ⟨_, rfl, by have := Int.emod_nonneg (N / 1009) (show ((ms.map V.int).length : Int) - at_ + 1 ≠ 0 by rw [hlm]; omega); omega, by have := Int.emod_lt_of_pos (N / 1009) (show (0 : Int) < ((ms.map V.int).length : Int) - at_ + 1 by rw [hlm]; omega); rw [hlm] at this ⊢; omega⟩
    dsimp only
    rw [hfar]
    obtain ⟨m2, em2, lm2⟩ := cutInts (ns := ms) (lo := some at_) (hi := some far) (i := at_.toNat) (j := far.toNat) (sIx_int hat0 hat1) (sIx_int (by omega) hf1) (by omega)
    obtain ⟨m3, em3, lm3⟩ := cutInts (ns := ms) (lo := some far) (hi := none) (i := far.toNat) (j := ms.length) (sIx_int (by omega) hf1) rfl (Nat.le_refl _)
    refine ⟨_, rfl, _, rfl, _, rfl, _, rfl, _, rfl, pr, _, rfl, SqL.of epr4, fun p2 hp2 => ?_⟩
    rw [em2]
    have g5 := same_upd (o := .lst (m2.map V.int)) hp2
    refine ⟨_, rfl, _, rfl, _, _, rfl, rfl, p2, l, m2, ws, d - 1, rfl, SqL.of upd_same, by omega, g5 _ _ hl4, hw, by omega, by omega, fun t2 v2 H6 g6 r2 sz2 dp2 gd2 => ?_⟩
    have epr6 := g6 _ _ (g5 _ _ epr4)
    have hl6 := g6 _ _ (g5 _ _ hl4)
    refine ⟨_, rfl, _, rfl, _, rfl, _, rfl, _, rfl, pr, _, rfl, SqL.of epr6, fun p3 hp3 => ?_⟩
    rw [em3]
    have g7 := same_upd (o := .lst (m3.map V.int)) hp3
    refine ⟨_, rfl, _, rfl, _, _, rfl, rfl, p3, l, m3, ws, d - 1, rfl, SqL.of upd_same, by omega, g7 _ _ hl6, hw, by omega, by omega, fun t3 v3 H8 g8 r3 sz3 dp3 gd3 => ⟨d4, fun p hp => ?_⟩⟩
    have gp := same_upd (o := .tup [.str "if", v1, v2, v3]) hp
    exact q (.ite t1 t2 t3) _ _ (gB.trans (g5.trans (g6.trans (g7.trans (g8.trans gp))))) ⟨p, v1, v2, v3, rfl, upd_same, r1.mono (g5.trans (g6.trans (g7.trans (g8.trans gp)))).tk, r2.mono (g7.trans (g8.trans gp)).tk, r3.mono gp.tk⟩ (by show t1.size + t2.size + t3.size + 1 ≤ _; omega) (by show ((max t1.dep (max t2.dep t3.dep) + 1 : Nat) : Int) ≤ _; omega) ⟨gd1, gd2, gd3⟩
  obtain ⟨m2, em2, lm2⟩ := cutInts (ns := ms) (lo := some at_) (hi := none) (i := at_.toNat) (j := ms.length) (sIx_int hat0 hat1) rfl (Nat.le_refl _)
  refine ⟨_, rfl, _, rfl, _, rfl, pr, _, rfl, SqL.of epr4, fun p2 hp2 => ?_⟩
  rw [em2]
  have g5 := same_upd (o := .lst (m2.map V.int)) hp2
  refine ⟨_, rfl, _, rfl, _, _, rfl, rfl, p2, l, m2, ws, d - 1, rfl, SqL.of upd_same, by omega, g5 _ _ hl4, hw, by omega, by omega, fun t2 v2 H6 g6 r2 sz2 dp2 gd2 => ?_⟩
  have hl6 := g6 _ _ (g5 _ _ hl4)
  have gC := gB.trans (g5.trans g6)
  have r1' := r1.mono (g5.trans g6).tk
  refine ⟨_, rfl, rfl, _, rfl, ?_⟩
  refine ite2 (fun c5 => ?_) (fun c5 => ?_)
  · obtain ⟨x, hx, ex⟩ := pick hw (N / 5003)
    refine ⟨_, rfl, _, rfl, _, _, rfl, rfl, ⟨(show (0 : Int) < 5003 by decide), (show (5003 : Int) < 1073741824 by decide)⟩, _, _, rfl, rfl, z4, l, _, _, _, rfl, rfl, SqL.of hl6, ex, _, rfl, _, rfl, d4, fun p hp => ?_⟩
    have gp := same_upd (o := .tup [.str "let", .str x, v1, v2]) hp
    exact q (.lett x t1 t2) _ _ (gC.trans gp) ⟨p, v1, v2, rfl, upd_same, r1'.mono gp.tk, r2.mono gp.tk⟩ (by show t1.size + t2.size + 1 ≤ _; omega) (by show ((max t1.dep t2.dep + 1 : Nat) : Int) ≤ _; omega) ⟨gd1, gd2⟩
  · refine ⟨_, rfl, _, rfl, _, rfl, d3, fun p hp => ?_⟩
    have gp := same_upd (o := .tup [.str kd.s, v1, v2]) hp
    have n3 : kd ≠ .say := fun z => c3 (decide_eq_true (by rw [z]; rfl))
    have n4 : kd ≠ .ite := fun z => c4 (decide_eq_true (by rw [z]; rfl))
    have n5 : kd ≠ .lett := fun z => c5 (decide_eq_true (by rw [z]; rfl))
    obtain ⟨o, ho⟩ : ∃ o : Bin, o.s = kd.s := by
      cases kd with
      | add => exact ⟨.add, rfl⟩
      | sub => exact ⟨.sub, rfl⟩
      | mul => exact ⟨.mul, rfl⟩
      | thn => exact ⟨.thn, rfl⟩
      | say => exact absurd rfl n3
      | ite => exact absurd rfl n4
      | lett => exact absurd rfl n5
      | _ => exact absurd hk (by decide)
    exact q (.bin o t1 t2) _ _ (gC.trans gp) ⟨p, v1, v2, rfl, by rw [ho]; exact upd_same, r1'.mono gp.tk, r2.mono gp.tk⟩ (by show t1.size + t2.size + 1 ≤ _; omega) (by show ((max t1.dep t2.dep + 1 : Nat) : Int) ≤ _; omega) ⟨gd1, gd2⟩
theorem none_left {k : Nat} {f : Addr} {fd : FuncData} : FnOk P w K mg base CX0 k f fd ["_law_cells", "_law_words_here", "_law_deep"] (sp_tree K 0) := by
  have no : ∀ vs H Q E, ¬ sp_tree K 0 vs H Q E := fun vs H Q E h => by
    obtain ⟨a, l, ns, ws, d, _, _, _, _, _, h1, h2, _⟩ := h
    omega
  exact ⟨fun vs H Q E h => absurd h (no vs H Q E), fun A outer s H args us vs Q E _ _ _ _ h => absurd h (no vs H Q E)⟩
theorem all_tree {k : Nat} {f g1 : Addr} {fd gd1 : FuncData} (F : Fun K "_law_tree" "_law_tree" s_law_tree f fd) (b : Binds K fd ["_law_cells", "_law_words_here", "_law_deep"] []) (m : mg "_law_tree" = some (.ref f)) (z_len : mg "len" = none)
    (G : FnB P w K mg base k "_law_leaf" g1 gd1 ["_law_cell", "_law_words_here"] sp_leaf) : ∀ n : Nat, FnB P w K mg base (k + n) "_law_tree" f fd ["_law_cells", "_law_words_here", "_law_deep"] (sp_tree K n)
  | 0 => ⟨none_left, b, F.kp, m⟩
  | n + 1 => ⟨ok_tree F z_len (G.up (Nat.le_add_right _ _)) (all_tree F b m z_len G n), b, F.kp, m⟩
end
end K04
set_option Elab.async false
set_option linter.all false
set_option maxRecDepth 100000
set_option maxHeartbeats 4000000
namespace L2
open PySem
theorem look_skip (x : Str) : ∀ (rs : List Str) (i : Nat), (∀ y ∈ rs.take i, y ≠ x) → lookB x rs = (lookB x (rs.drop i)).map (· + i)
  | rs, 0, _ => by simp
  | [], i + 1, _ => by simp [lookB]
  | p :: r, i + 1, h => by
    have h1 := h p (by simp)
    rw [lookB, if_neg h1, List.drop_succ_cons, look_skip x r i fun q hq => h q (by simp [hq]), Option.map_map]
    congr 1
theorem bareN_at {x : Str} {bs : List Str} {i : Nat} (h : ∀ y ∈ bs.reverse.take i, y ≠ x) (e : bs.reverse[i]? = some x) : bareN x bs = .tup [.str "bound", .int (i : Nat)] := by
  obtain ⟨hl, e'⟩ := List.getElem?_eq_some_iff.mp e
  unfold bareN keyB
  rw [look_skip x _ i h, List.drop_eq_getElem_cons hl, e', lookB, if_pos rfl]
  simp [keyD]
theorem bareN_end {x : Str} {bs : List Str} (h : ∀ y ∈ bs.reverse.take bs.length, y ≠ x) : bareN x bs = .tup [.str "free", .str x] := by
  unfold bareN keyB
  rw [look_skip x _ _ h, List.drop_of_length_le (by simp)]
  rfl
theorem DRs.snoc {H : Hp} : ∀ {ds : List Dt} {vs : List V} {d : Dt} {v : V}, DRs H ds vs → DR H d v → DRs H (ds ++ [d]) (vs ++ [v])
  | _, _, _, _, .nil, h => .cons h .nil
  | _, _, _, _, .cons r t, h => .cons r (t.snoc h)
def Atom.tr : Atom → Tr
  | .name x => .name x | .num n => .num n | .gap g => .gap g []
theorem AtRep.tr {H : Hp} : ∀ {a : Atom} {v : V}, AtRep H a v → Rep H a.tr v
  | .name _, _, h => h
  | .num _, _, h => h
  | .gap _, _, ⟨a, b, e, h, h'⟩ => ⟨a, b, [], e, h, h', by simp, .nil⟩
theorem bareA_tr (bs : List Str) (a : Atom) : bareA bs a = bare a.tr bs := by cases a <;> rfl
theorem in3 (k : Kd) : inV (.str k.s) [.str "num", .str "ask", .str "stop"] = decide (k = .num ∨ k = .ask ∨ k = .stop) := by cases k <;> decide +kernel
theorem dep_pos (t : Tr) : 1 ≤ t.dep := by
  cases t with
  | gap g as => cases as <;> simp [Tr.dep]
  | _ => simp [Tr.dep]
theorem dep_part {t p : Tr} (h : p ∈ t.parts) : p.dep + 1 ≤ t.dep := by
  cases t <;> simp only [Tr.parts, List.mem_cons, List.not_mem_nil, or_false] at h
  · subst h; simp [Tr.dep]
  · rcases h with rfl | rfl <;> simp [Tr.dep] <;> omega
  · rcases h with rfl | rfl | rfl <;> simp [Tr.dep] <;> omega
  · rcases h with rfl | rfl <;> simp [Tr.dep] <;> omega
def Tr.inr (t : Tr) : Prop := t.kd.leaf = false ∧ t.kd ≠ .lett
theorem bare_in {t : Tr} (h : t.inr) (bs : List Str) : bare t bs = .tup (.str t.sign :: t.parts.map fun p => bare p bs) := by
  obtain ⟨h1, h2⟩ := h
  cases t with
  | say a => rfl
  | bin o a b => show Dt.tup [.str o.s, _, _] = Dt.tup [.str o.kd.s, _, _]; rw [Bin.kd_s]
  | ite a b c => rfl
  | lett x a b => exact absurd rfl h2
  | _ => cases h1
theorem head_in {t : Tr} (h : t.inr) : t.head = 1 ∧ 1 ≤ t.parts.length ∧ t.parts.length ≤ 3 := by
  obtain ⟨h1, h2⟩ := h
  cases t with
  | say a => exact ⟨rfl, by simp [Tr.parts], by simp [Tr.parts]⟩
  | bin o a b => exact ⟨rfl, by simp [Tr.parts], by simp [Tr.parts]⟩
  | ite a b c => exact ⟨rfl, by simp [Tr.parts], by simp [Tr.parts]⟩
  | lett x a b => exact absurd rfl h2
  | _ => cases h1
theorem cut_head (v : V) (us : List V) (h : 1 ≤ us.length) : cutV (v :: us) none (some 1) = [v] ∧ cutV (v :: us) (some 1) none = us ∧ ¬ (HT.sIx (v :: us).length 0 none = 0 ∧ HT.sIx (v :: us).length (v :: us).length (some 1) = (v :: us).length) ∧ ¬ (HT.sIx (v :: us).length 0 (some 1) = 0 ∧ HT.sIx (v :: us).length (v :: us).length none = (v :: us).length) := by
  have e1 : ∀ d, HT.sIx (v :: us).length d (some ((1 : Nat) : Int)) = 1 := fun d => by
    rw [HT.sIx_nat]
    simp
  have e1' : ∀ d, HT.sIx (v :: us).length d (some (1 : Int)) = 1 := e1
  refine ⟨?_, ?_, ?_, ?_⟩
  · unfold cutV
    rw [HT.sIx_none, e1']
    rfl
  · unfold cutV
    rw [HT.sIx_none, e1']
    simp
  · rw [e1']
    intro h
    have := h.2
    rw [List.length_cons] at this
    omega
  · rw [e1']
    simp
end L2
namespace K04
open PySem PySem.Spec L2 PyProof.Rows
abbrev s_law_bare_name : Stmt := top 17
theorem sc_law_bare_name : FnScope ["_law_name", "_law_bound", "_law_far"] ["_law_name", "_law_bound"] (defScope s_law_bare_name) := ⟨rfl, rfl, rfl, by decide +kernel, rfl, by decide +kernel, by decide +kernel⟩
abbrev s_law_bare : Stmt := top 18
theorem sc_law_bare : FnScope ["_law_tree_here", "_law_bound"] ["_law_tree_here", "_law_bound"] (defScope s_law_bare) := ⟨rfl, rfl, rfl, by decide +kernel, rfl, by decide +kernel, by decide +kernel⟩
section
variable {P : Program} {w : World} {K : PySem.W.Frag} {mg : Str → Option Value} {base : Heap}
def sp_bare_name : Sp := fun vs H Q _ => ∃ (x : Str) (b : Addr) (bs : List Str), vs = [.str x, .ref b] ∧ H b = some (.tup (bs.map V.str)) ∧ bs.length ≤ 900 ∧ ∀ v H', Same H H' → DR H' (bareN x bs) v → Q v H'
theorem ok_bare_name {k : Nat} {f : Addr} {fd : FuncData} (F : Fun K "_law_bare_name" "_law_bare_name" s_law_bare_name f fd) (z_len : mg "len" = none) (z_range : mg "range" = none) : FnOk P w K mg base CX0 (k + 1) f fd ["_law_name", "_law_bound"] sp_bare_name := by
  refine F.ok sc_law_bare_name (fun vs H Q E h => ?_) (fun cdv A outer s H vs Q E hr h => ?_)
  · obtain ⟨x, b, bs, rfl, _⟩ := h
    rfl
  obtain ⟨x, b, bs, rfl, hb, hz, q⟩ := h
  refine ⟨_, (pss_cons (ps_for PassesOwn.never rfl (pi_range1 (by rfl) z_range (pa_cons (pe_callB call_len_seq (by rfl) z_len PySem.boot_len (pa_cons (pv 1) pa_nil)) pa_nil)) (pg_name (i := 2) sc_law_bare_name.nd rfl (Or.inl rfl)) (pss_one (ps_if (pt_cmpR op_eq (pe_ix (r := rIxT K) ix_tup (pv 1) (pe_op op_sub (pe_op op_sub (pe_callB call_len_seq (by rfl) z_len PySem.boot_len (pa_cons (pv 1) pa_nil)) pe_int) (pv 2)) (fun _ _ => rfl)) (pv 0) (nomark _)) (pss_one (ps_ret (pe_tup (pa_cons pe_str (pa_cons (pv 2) pa_nil)) : PE _ _ _))) pss_nil)))
    (pss_one (ps_ret (pe_tup (pa_cons pe_str (pa_cons (pv 0) pa_nil)) : PE _ _ _)))), ?_⟩
  have hlen : (bs.map V.str).length = bs.length := List.length_map _
  have d2 : 2 ≤ sizeLine := by decide
  refine ⟨_, rfl, b, _, rfl, .inr (SqT.of hb), _, rfl, by omega, by rw [hlen]; omega, ?_⟩
  rw [hlen, Int.toNat_natCast]
  refine for_range (n := bs.length) (fun i σ' H' => ∃ s2, σ' = [some (.str x), some (.ref b), s2] ∧ H' = H ∧ ∀ y ∈ bs.reverse.take i, y ≠ x) ?_ ?_ ?_
  · exact ⟨none, rfl, rfl, by simp⟩
  · rintro i σ1 H1 hi ⟨s2, rfl, rfl, hall⟩
    have hr' : bs.reverse[i]? = some (bs[bs.length - 1 - i]'(by omega)) := by
      rw [List.getElem?_reverse hi]
      simp
    generalize bs[bs.length - 1 - i]'(by omega) = y at hr'
    have e : atI (bs.map V.str) (((bs.map V.str).length : Int) - 1 - (0 + (i : Int))) = some (.str y) := by
      have : (((bs.map V.str).length : Int) - 1 - (0 + (i : Int))) = ((bs.length - 1 - i : Nat) : Int) := by rw [hlen]; omega
      rw [this]
      refine atI_nat ?_
      rw [List.getElem?_reverse hi] at hr'
      rw [List.getElem?_map, hr']
      rfl
    refine ⟨_, rfl, _, rfl, b, _, rfl, .inr (SqT.of hb), _, _, rfl, rfl, _, rfl, _, _, rfl, rfl, b, _, _, _, rfl, rfl, SqT.of hb, e, _, rfl, rfl, _, rfl, ?_⟩
    refine ite2 (fun d => ?_) (fun d => ?_)
    · have d' : y = x := V.str.inj (of_decide_eq_true d)
      subst d'
      refine ⟨_, rfl, d2, fun p hp => q _ _ (same_upd hp) ?_⟩
      rw [bareN_at hall hr']
      have e0 : (0 + (i : Int)) = ((i : Nat) : Int) := by omega
      refine .tup upd_same (.cons (.str _) (.cons ?_ .nil))
      rw [e0]
      exact .int _
    · have d' : y ≠ x := fun z => d (by rw [z]; exact decide_eq_true rfl)
      refine ⟨_, rfl, rfl, fun z hz' => ?_⟩
      rw [take_next hr', List.mem_append, List.mem_singleton] at hz'
      rcases hz' with h | h
      · exact hall z h
      · rw [h]; exact d'
  · rintro σ1 H1 ⟨s2, rfl, rfl, hall⟩
    refine ⟨_, rfl, d2, fun p hp => q _ _ (same_upd hp) ?_⟩
    rw [bareN_end hall]
    exact .tup upd_same (.cons (.str _) (.cons (.str _) .nil))
def sp_bare (n : Nat) : Sp := fun vs H Q _ => ∃ (t : Tr) (v : V) (b : Addr) (bs : List Str), vs = [v, .ref b] ∧ Rep H t v ∧ t.dep ≤ n ∧ H b = some (.tup (bs.map V.str)) ∧ bs.length + t.dep ≤ 900 ∧ ∀ v' H', Same H H' → DR H' (bare t bs) v' → Q v' H'
theorem ok_bare {k n : Nat} {f g1 : Addr} {fd gd1 : FuncData} (F : Fun K "_law_bare" "_law_bare" s_law_bare f fd) (z_tuple : mg "tuple" = none) (G_law_bare_name : FnB P w K mg base k "_law_bare_name" g1 gd1 ["_law_name", "_law_bound"] sp_bare_name)
    (G_law_bare : FnB P w K mg base k "_law_bare" f fd ["_law_tree_here", "_law_bound"] (sp_bare n)) : FnOk P w K mg base CX0 (k + 1) f fd ["_law_tree_here", "_law_bound"] (sp_bare (n + 1)) := by
  refine F.ok sc_law_bare (fun vs H Q E h => ?_) (fun cdv A outer s H vs Q E hr h => ?_)
  · obtain ⟨t, v, b, bs, rfl, _⟩ := h
    rfl
  obtain ⟨t, v, b, bs, rfl, hR, hn, hb, hz, q⟩ := h
  refine ⟨_, (Sd.un (pss_consS (ps_ifS ⟨pt_cmpR op_eq (pe_ix (r := rIxT K) ix_tup (pv 0) pe_int (fun _ _ => rfl)) pe_str (nomark _)⟩ (pss_oneS (ps_retS ⟨pe_call G_law_bare_name.ok hr (by rfl) G_law_bare_name.gl G_law_bare_name.kp G_law_bare_name.bd .nil pass0 (pa_cons (pe_ix (r := rIxT K) ix_tup (pv 0) pe_int (fun _ _ => rfl)) (pa_cons (pv 1) pa_nil))⟩)) ⟨pss_nil⟩)
    (pss_consS (ps_ifS ⟨pt_cmpR op_eq (pe_ix (r := rIxT K) ix_tup (pv 0) pe_int (fun _ _ => rfl)) pe_str (nomark _)⟩ (pss_oneS (ps_retS (pe_tupS (pa_consS ⟨pe_str⟩ (pa_consS (pe_ixS (r := rIxT K) ix_tup ⟨pv 0⟩ ⟨pe_int⟩ (fun _ _ => rfl)) (pa_consS (pe_callTyS call_tuple_of (by rfl) z_tuple PyProof.Rows.boot_tuple (pa_consS ⟨pe_compB ["_law_atom", "_law_bound"] [none, some 1] rfl (pi_tup (pe_ix (r := rIxT K) ix_tup (pv 0) pe_int (fun _ _ => rfl))) (fun _ _ _ _ _ => (pg_name (i := 0) (show List.Nodup (["_law_atom", "_law_bound"] : List Str) by decide +kernel) rfl (Or.inl rfl))) (fun _ _ _ _ _ => pts_nil) (fun _ _ _ _ _ => (pe_call G_law_bare.ok hr (by rfl) G_law_bare.gl G_law_bare.kp G_law_bare.bd .nil pass0 (pa_cons (pv 0) (pa_cons (pv 1) pa_nil)))) rfl⟩ ⟨pa_nil⟩)) ⟨pa_nil⟩)))))) ⟨pss_nil⟩)
    (pss_consS (ps_ifS ⟨pt_cmpR op_eq (pe_ix (r := rIxT K) ix_tup (pv 0) pe_int (fun _ _ => rfl)) pe_str (nomark _)⟩ (pss_oneS (ps_retS (pe_tupS (pa_consS ⟨pe_str⟩ (pa_consS ⟨pe_call G_law_bare.ok hr (by rfl) G_law_bare.gl G_law_bare.kp G_law_bare.bd .nil pass0 (pa_cons (pe_ix (r := rIxT K) ix_tup (pv 0) pe_int (fun _ _ => rfl)) (pa_cons (pv 1) pa_nil))⟩ (pa_consS ⟨pe_call G_law_bare.ok hr (by rfl) G_law_bare.gl G_law_bare.kp G_law_bare.bd .nil pass0 (pa_cons (pe_ix (r := rIxT K) ix_tup (pv 0) pe_int (fun _ _ => rfl)) (pa_cons (pe_op op_catV (pv 1) (pe_tup (pa_cons (pe_ix (r := rIxT K) ix_tup (pv 0) pe_int (fun _ _ => rfl)) pa_nil) : PE _ _ _)) pa_nil))⟩ ⟨pa_nil⟩)))))) ⟨pss_nil⟩)
    (pss_consS (ps_ifS ⟨pt_cmpR (r := rIn K false) op_in_seq (pe_ix (r := rIxT K) ix_tup (pv 0) pe_int (fun _ _ => rfl)) (pe_tupR [.str "num", .str "ask", .str "stop"] (by rfl) : PE _ _ _) rfl⟩ (pss_oneS (ps_retS ⟨pv 0⟩)) ⟨pss_nil⟩)
    (pss_oneS (ps_retS ⟨pe_op op_catV (pe_slice sl_tupV (pv 0) po_none (po_some pe_int)) (pe_callTy call_tuple_of (by rfl) z_tuple PyProof.Rows.boot_tuple (pa_cons (pe_compB ["_law_part", "_law_bound"] [none, some 1] rfl (pi_tup (pe_slice sl_tupV (pv 0) (po_some pe_int) po_none)) (fun _ _ _ _ _ => (pg_name (i := 0) (show List.Nodup (["_law_part", "_law_bound"] : List Str) by decide +kernel) rfl (Or.inl rfl))) (fun _ _ _ _ _ => pts_nil) (fun _ _ _ _ _ => (pe_call G_law_bare.ok hr (by rfl) G_law_bare.gl G_law_bare.kp G_law_bare.bd .nil pass0 (pa_cons (pv 0) (pa_cons (pv 1) pa_nil)))) rfl) pa_nil))⟩))))))), ?_⟩
  have d3 : 3 ≤ sizeLine := by decide
  obtain ⟨a, hs, us, rfl, ha, hl, hp⟩ := hR.all
  have h0 : atI (V.str t.kd.s :: hs ++ us) 0 = some (.str t.kd.s) := atI_nat (j := 0) rfl
  refine ⟨_, rfl, a, _, 0, _, rfl, rfl, SqT.of ha, h0, rfl, _, rfl, ?_⟩
  refine ite2 (fun c => ?_) (fun c1 => ?_)
  · have z : t.kd = .name := Kd.eq_iff.mp (of_decide_eq_true c)
    cases t with
    | name x =>
      obtain ⟨a', e, ha'⟩ := hR
      cases e
      exact ⟨_, rfl, a, _, 1, _, rfl, rfl, SqT.of ha', rfl, _, rfl, x, b, bs, rfl, hb, by omega, fun v' H' g r => q v' H' g r⟩
    | bin o a b => cases o <;> cases z
    | _ => cases z
  refine ⟨_, rfl, a, _, 0, _, rfl, rfl, SqT.of ha, h0, rfl, _, rfl, ?_⟩
  refine ite2 (fun c => ?_) (fun c2 => ?_)
  · have z : t.kd = .gap := Kd.eq_iff.mp (of_decide_eq_true c)
    cases t with
    | gap g as =>
      obtain ⟨a', b', ws, e, ha', hb', hz', hp'⟩ := hR
      cases e
      refine ⟨_, rfl, a, _, 1, _, rfl, rfl, SqT.of ha', rfl, _, rfl, a, _, 2, _, rfl, rfl, SqT.of ha', rfl, b', rfl, ⟨_, SqT.of hb'⟩, fun acc hacc => ?_⟩
      refine comp_tupR (xs := ws) (fun i H' => Same H H' ∧ ∃ zs, H' acc = some (.lst zs) ∧ DRs H' ((as.take i).map (bareA bs)) zs) ⟨same_upd hacc, [], upd_same, by rw [List.take_zero]; exact .nil⟩ (fun i H' _ h => SqT.of (h.1 _ _ hb')) ?_ ?_
      · rintro j x Hx hx ⟨gx, zs, ezs, hzs⟩
        obtain ⟨m, em, rm⟩ := paired_get hp' hx
        have hj : j < ws.length := (List.getElem?_eq_some_iff.mp hx).1
        have lz := hzs.length
        have hd1 : m.tr.dep = 1 := by cases m <;> rfl
        have hd2 : (Tr.gap g as).dep = 2 := by
          cases as with
          | nil => cases em
          | cons _ _ => rfl
        refine ⟨.skip (.keep .nil), ?_⟩
        refine ⟨_, rfl, _, rfl, m.tr, x, b, bs, rfl, (rm.mono gx.tk).tr, by omega, gx _ _ hb, by omega, fun v' H2 g2 dr => ?_⟩
        have kset := Tk.lst (o := .lst (zs ++ [v'])) (g2 _ _ ezs)
        refine ⟨zs, g2 _ _ ezs, small1000 (by rw [← lz, List.length_map, List.length_take]; omega), same_set (gx.trans g2) hacc, _, upd_same, ?_⟩
        rw [take_next em, List.map_append]
        refine ((hzs.mono g2.tk).mono kset).snoc ?_
        rw [bareA_tr]
        exact dr.mono kset
      · rintro H1 ⟨g1, zs, ezs, hzs⟩
        rw [← hp'.length, List.take_length] at hzs
        refine ⟨acc, _, rfl, .inl ⟨SqL.of ezs, fun p1 hp1 => ⟨d3, fun p2 hp2 => ?_⟩⟩⟩
        have g2 := same_upd (o := .tup zs) hp1
        have g3 := same_upd (o := .tup [.str "gap", .str g, .ref p1]) hp2
        refine q _ _ (g1.trans (g2.trans g3)) (.tup upd_same (.cons (.str _) (.cons (.str _) (.cons (.tup (g3 _ _ upd_same) (hzs.mono (g2.trans g3).tk)) .nil))))
    | bin o a b => cases o <;> cases z
    | _ => cases z
  refine ⟨_, rfl, a, _, 0, _, rfl, rfl, SqT.of ha, h0, rfl, _, rfl, ?_⟩
  refine ite2 (fun c => ?_) (fun c3 => ?_)
  · have z : t.kd = .lett := Kd.eq_iff.mp (of_decide_eq_true c)
    cases t with
    | lett x s t =>
      obtain ⟨a', u1, w1, e, ha', r1, r2⟩ := hR
      cases e
      have hd : (Tr.lett x s t).dep = max s.dep t.dep + 1 := rfl
      refine ⟨_, rfl, a, _, 2, _, rfl, rfl, SqT.of ha', rfl, _, rfl, s, u1, b, bs, rfl, r1, by omega, hb, by omega, fun v1 H1 g1 dr1 => ?_⟩
      have hb1 := g1 _ _ hb
      have ha1 := g1 _ _ ha'
      refine ⟨_, rfl, a, _, 3, _, rfl, rfl, SqT.of ha1, rfl, _, rfl, _, rfl, a, _, 1, _, rfl, rfl, SqT.of ha1, rfl, (by show 1 ≤ sizeLine; decide), fun p hp' => ?_⟩
      have g2 := same_upd (o := .tup [.str x]) hp'
      refine ⟨b, p, _, [.str x], rfl, rfl, g2 _ _ hb1, upd_same, line1000 (by rw [List.length_map]; show bs.length + 1 ≤ 1000; omega), fun p2 H3 g3 e3 => ?_⟩
      have gA := g1.trans (g2.trans g3)
      refine ⟨t, w1, p2, bs ++ [x], rfl, r2.mono gA.tk, by omega, by rw [e3]; simp, by simp; omega, fun v2 H4 g4 dr2 => ⟨d3, fun p3 hp3 => ?_⟩⟩
      have g5 := same_upd (o := .tup [.str "let", v1, v2]) hp3
      exact q _ _ (gA.trans (g4.trans g5)) (.tup upd_same (.cons (.str _) (.cons (dr1.mono (g2.trans (g3.trans (g4.trans g5))).tk) (.cons (dr2.mono g5.tk) .nil))))
    | bin o a b => cases o <;> cases z
    | _ => cases z
  refine ⟨_, rfl, a, _, 0, _, rfl, rfl, SqT.of ha, h0, d3, fun pc hpc => ⟨pc, _, rfl, .inr (SqT.of upd_same), rfl, rfl, _, rfl, ?_⟩⟩
  have gc := same_upd (o := .tup [.str "num", .str "ask", .str "stop"]) hpc
  show if inV (.str t.kd.s) [.str "num", .str "ask", .str "stop"] = true then _ else _
  rw [in3]
  refine ite2 (fun c => ?_) (fun c4 => ?_)
  · refine ⟨_, rfl, q _ _ gc ?_⟩
    have z := of_decide_eq_true c
    cases t with
    | num n => obtain ⟨a', e, h⟩ := hR.mono gc.tk; cases e; exact .tup h (.cons (.str _) (.cons (.int _) .nil))
    | ask n => obtain ⟨a', e, h⟩ := hR.mono gc.tk; cases e; exact .tup h (.cons (.str _) (.cons (.str _) .nil))
    | stop n => obtain ⟨a', e, h⟩ := hR.mono gc.tk; cases e; exact .tup h (.cons (.str _) (.cons (.str _) .nil))
    | bin o a b => exfalso; cases o <;> (rcases z with z | z | z <;> cases z)
    | _ => exfalso; rcases z with z | z | z <;> cases z
  · have n1 : t.kd ≠ .name := fun z => c1 (by rw [z]; exact decide_eq_true rfl)
    have n2 : t.kd ≠ .gap := fun z => c2 (by rw [z]; exact decide_eq_true rfl)
    have n3 : t.kd ≠ .lett := fun z => c3 (by rw [z]; exact decide_eq_true rfl)
    have n4 : ¬ (t.kd = .num ∨ t.kd = .ask ∨ t.kd = .stop) := fun z => c4 (decide_eq_true z)
    have hin : t.inr := ⟨by
      cases hk : t.kd with
      | num => exact absurd (.inl hk) n4
      | ask => exact absurd (.inr (.inl hk)) n4
      | stop => exact absurd (.inr (.inr hk)) n4
      | name => exact absurd hk n1
      | gap => exact absurd hk n2
      | _ => rfl, n3⟩
    obtain ⟨hh, hp1, hp3⟩ := head_in hin
    have hs0 : hs = [] := by
      have : hs.length = 0 := by omega
      exact List.eq_nil_of_length_eq_zero this
    subst hs0
    have lus := hp.length
    have hac := gc _ _ ha
    generalize upd H pc (.tup [.str "num", .str "ask", .str "stop"]) = H1 at gc hac ⊢
    have hac' : H1 a = some (.tup (.str t.sign :: us)) := hac
    obtain ⟨k1, k2, k3, k4⟩ := cut_head (.str t.sign) us (by omega)
    refine ⟨_, rfl, 1, rfl, a, _, rfl, hac', k3, fun p1 H2 g2 e2 => ?_⟩
    rw [k1] at e2
    refine ⟨_, rfl, 1, rfl, a, _, rfl, g2 _ _ hac', k4, fun p2 H3 g3 e3 => ⟨p2, rfl, ⟨_, SqT.of e3⟩, fun acc hacc => ?_⟩⟩
    rw [k2] at e3
    have gA := gc.trans (g2.trans g3)
    have hb3 := gA _ _ hb
    have hp3' : Paired (Rep H3) t.parts us := Paired.mapP hp fun _ _ z => z.mono gA.tk
    refine comp_tupR (xs := us) (fun i H' => Same H3 H' ∧ ∃ zs, H' acc = some (.lst zs) ∧ DRs H' ((t.parts.take i).map fun p => bare p bs) zs) ⟨same_upd hacc, [], upd_same, by rw [List.take_zero]; exact .nil⟩ (fun i H' _ h => SqT.of (h.1 _ _ e3)) ?_ ?_
    · rintro j x Hx hx ⟨gx, zs, ezs, hzs⟩
      obtain ⟨m, em, rm⟩ := paired_get hp3' hx
      have hj : j < us.length := (List.getElem?_eq_some_iff.mp hx).1
      have lz := hzs.length
      have hdp := dep_part (List.mem_of_getElem? em)
      refine ⟨.skip (.keep .nil), ?_⟩
      refine ⟨_, rfl, _, rfl, m, x, b, bs, rfl, rm.mono gx.tk, by omega, gx _ _ hb3, by omega, fun v' H4 g4 dr => ?_⟩
      have kset := Tk.lst (o := .lst (zs ++ [v'])) (g4 _ _ ezs)
      refine ⟨zs, g4 _ _ ezs, small1000 (by rw [← lz, List.length_map, List.length_take]; omega), same_set (gx.trans g4) hacc, _, upd_same, ?_⟩
      rw [take_next em, List.map_append]
      exact ((hzs.mono g4.tk).mono kset).snoc (dr.mono kset)
    · rintro H4 ⟨g4, zs, ezs, hzs⟩
      rw [← lus, List.take_length] at hzs
      have lz := hzs.length
      rw [List.length_map] at lz
      refine ⟨acc, _, rfl, .inl ⟨SqL.of ezs, fun p4 hp4 => ?_⟩⟩
      have g5 := same_upd (o := .tup zs) hp4
      refine ⟨p1, p4, _, zs, rfl, rfl, g5 _ _ (g4 _ _ (g3 _ _ e2)), upd_same, line1000 (by simp; omega), fun r H5 g6 e6 => ?_⟩
      refine q _ _ (gA.trans (g4.trans (g5.trans g6))) ?_
      rw [bare_in hin]
      exact .tup e6 (.cons (.str _) (hzs.mono (g5.trans g6).tk))
theorem none_bare {k : Nat} {f : Addr} {fd : FuncData} : FnOk P w K mg base CX0 k f fd ["_law_tree_here", "_law_bound"] (sp_bare 0) := by
  have no : ∀ vs H Q E, ¬ sp_bare 0 vs H Q E := fun vs H Q E h => by
    obtain ⟨t, v, b, bs, _, _, h1, _⟩ := h
    have := dep_pos t
    omega
  exact ⟨fun vs H Q E h => absurd h (no vs H Q E), fun A outer s H args us vs Q E _ _ _ _ h => absurd h (no vs H Q E)⟩
theorem all_bare {k : Nat} {f g1 : Addr} {fd gd1 : FuncData} (F : Fun K "_law_bare" "_law_bare" s_law_bare f fd) (b : Binds K fd ["_law_tree_here", "_law_bound"] []) (m : mg "_law_bare" = some (.ref f)) (z_tuple : mg "tuple" = none)
    (G : FnB P w K mg base k "_law_bare_name" g1 gd1 ["_law_name", "_law_bound"] sp_bare_name) : ∀ n : Nat, FnB P w K mg base (k + n) "_law_bare" f fd ["_law_tree_here", "_law_bound"] (sp_bare n)
  | 0 => ⟨none_bare, b, F.kp, m⟩
  | n + 1 => ⟨ok_bare F z_tuple (G.up (Nat.le_add_right _ _)) (all_bare F b m z_tuple G n), b, F.kp, m⟩
end
end K04
set_option Elab.async false
set_option linter.all false
set_option maxRecDepth 100000
set_option maxHeartbeats 4000000
namespace L2
open PySem
def nwS (n : Nat) : Str := ⟨#[113, 97 + n / 26 % 26, 97 + n % 26]⟩
def newW (ws : List Str) (n : Nat) : Str := if nwS n ∈ ws then "y" ++ nwS n else nwS n
theorem nwS_len (n : Nat) : (nwS n).length = 3 := rfl
theorem yw_len (n : Nat) : ("y" ++ nwS n : Str).length = 4 := rfl
theorem nwS_inj {n m : Nat} (hn : n < 676) (hm : m < 676) (h : nwS n = nwS m) : n = m := by
  unfold nwS at h
  injection h with h
  have h := congrArg Array.toList h
  simp at h
  omega
theorem yw_inj {n m : Nat} (h : ("y" ++ nwS n : Str) = "y" ++ nwS m) : nwS n = nwS m := by
  have h' : (("y" : Str).cps ++ (nwS n).cps) = (("y" : Str).cps ++ (nwS m).cps) := congrArg Str.cps h
  have h2 := congrArg Array.toList h'
  rw [Array.toList_append, Array.toList_append] at h2
  have h3 := List.append_cancel_left h2
  have h4 : (nwS n).cps = (nwS m).cps := Array.toList_inj.mp h3
  cases hn : nwS n
  cases hm : nwS m
  rw [hn, hm] at h4
  simp only at h4
  rw [h4]
theorem newW_inj {ws : List Str} {n m : Nat} (hn : n < 676) (hm : m < 676) (h : newW ws n = newW ws m) : n = m := by
  unfold newW at h
  split at h <;> split at h
  · exact nwS_inj hn hm (yw_inj h)
  · have := congrArg Str.length h; rw [yw_len, nwS_len] at this; omega
  · have := congrArg Str.length h; rw [yw_len, nwS_len] at this; omega
  · exact nwS_inj hn hm h
theorem newW_not {ws : List Str} (h : ∃ n : Nat, ∀ x ∈ ws, x.length = n) (n : Nat) : newW ws n ∉ ws := by
  obtain ⟨k, hk⟩ := h
  unfold newW
  split
  · rename_i hi
    intro h2
    have e1 := hk _ hi
    have e2 := hk _ h2
    rw [nwS_len] at e1
    rw [yw_len] at e2
    omega
  · rename_i hi
    exact hi
theorem let_at : ∀ j : Nat, j < 26 → (Str.ofString "abcdefghijklmnopqrstuvwxyz").cps.toList[j]? = some (97 + j) := by decide +kernel
theorem let_int (z : Int) : atI (Str.ofString "abcdefghijklmnopqrstuvwxyz").cps.toList (z % 26) = some (97 + (z % 26).toNat) := by
  have e : ((z % 26).toNat : Int) = z % 26 := by omega
  have := atI_nat (let_at (z % 26).toNat (by omega))
  rwa [e] at this
theorem mem_strs (x : Str) (bs : List Str) : inV (.str x) (bs.map V.str) = decide (x ∈ bs) := by
  unfold inV
  rw [Bool.eq_iff_iff, List.any_eq_true, decide_eq_true_iff]
  constructor
  · rintro ⟨v, hv, h⟩
    obtain ⟨y, hy, rfl⟩ := List.mem_map.mp hv
    rw [eqV_str] at h
    exact h ▸ hy
  · intro h
    exact ⟨_, List.mem_map.mpr ⟨x, h, rfl⟩, (eqV_str _ _).mpr rfl⟩
abbrev Env := Str → Option Str
def Env.put (e : Env) (x w : Str) : Env := fun y => if y = x then some w else e y
def Env.nm (e : Env) (x : Str) : Str := (e x).getD x
def Atom.ren (e : Env) : Atom → Atom
  | .name x => .name (e.nm x)
  | a => a
def ren (ws : List Str) : Tr → Env → Nat → Tr × Nat
  | .name x, e, c => (.name (e.nm x), c)
  | .gap g as, e, c => (.gap g (as.map (Atom.ren e)), c)
  | .say a, e, c => let r := ren ws a e c; (.say r.1, r.2)
  | .bin o a b, e, c => let r := ren ws a e c; let r2 := ren ws b e r.2; (.bin o r.1 r2.1, r2.2)
  | .ite a b d, e, c => let r := ren ws a e c; let r2 := ren ws b e r.2; let r3 := ren ws d e r2.2; (.ite r.1 r2.1 r3.1, r3.2)
  | .lett x a b, e, c => let r := ren ws a e c; let w := newW ws (r.2 + 1); let r2 := ren ws b (e.put x w) (r.2 + 1); (.lett w r.1 r2.1, r2.2)
  | t, _, c => (t, c)
def EnvOk (ws : List Str) (e : Env) (c : Nat) : Prop := ∀ y v, e y = some v → ∃ j, j ≤ c ∧ v = newW ws j
theorem ren_cnt (ws : List Str) : ∀ (t : Tr) (e : Env) (c : Nat), c ≤ (ren ws t e c).2 ∧ (ren ws t e c).2 + 1 ≤ c + t.size
  | .name _, e, c => by simp [ren, Tr.size]
  | .num _, e, c => by simp [ren, Tr.size]
  | .ask _, e, c => by simp [ren, Tr.size]
  | .stop _, e, c => by simp [ren, Tr.size]
  | .gap _ _, e, c => by simp [ren, Tr.size]
  | .say a, e, c => by
    have := ren_cnt ws a e c
    simp only [ren, Tr.size]
    omega
  | .bin o a b, e, c => by
    have h1 := ren_cnt ws a e c
    have h2 := ren_cnt ws b e (ren ws a e c).2
    simp only [ren, Tr.size]
    omega
  | .ite a b d, e, c => by
    have h1 := ren_cnt ws a e c
    have h2 := ren_cnt ws b e (ren ws a e c).2
    have h3 := ren_cnt ws d e (ren ws b e (ren ws a e c).2).2
    simp only [ren, Tr.size]
    omega
  | .lett x a b, e, c => by
    have h1 := ren_cnt ws a e c
    have h2 := ren_cnt ws b (e.put x (newW ws ((ren ws a e c).2 + 1))) ((ren ws a e c).2 + 1)
    simp only [ren, Tr.size]
    omega
theorem ren_size (ws : List Str) : ∀ (t : Tr) (e : Env) (c : Nat), (ren ws t e c).1.size = t.size ∧ (ren ws t e c).1.dep = t.dep
  | .name _, e, c => ⟨rfl, rfl⟩
  | .num _, e, c => ⟨rfl, rfl⟩
  | .ask _, e, c => ⟨rfl, rfl⟩
  | .stop _, e, c => ⟨rfl, rfl⟩
  | .gap _ [], e, c => ⟨rfl, rfl⟩
  | .gap _ (_ :: _), e, c => ⟨rfl, rfl⟩
  | .say a, e, c => by
    have := ren_size ws a e c
    simp only [ren, Tr.size, Tr.dep]
    omega
  | .bin o a b, e, c => by
    have h1 := ren_size ws a e c
    have h2 := ren_size ws b e (ren ws a e c).2
    simp only [ren, Tr.size, Tr.dep]
    omega
  | .ite a b d, e, c => by
    have h1 := ren_size ws a e c
    have h2 := ren_size ws b e (ren ws a e c).2
    have h3 := ren_size ws d e (ren ws b e (ren ws a e c).2).2
    simp only [ren, Tr.size, Tr.dep]
    omega
  | .lett x a b, e, c => by
    have h1 := ren_size ws a e c
    have h2 := ren_size ws b (e.put x (newW ws ((ren ws a e c).2 + 1))) ((ren ws a e c).2 + 1)
    simp only [ren, Tr.size, Tr.dep]
    omega
theorem EnvOk.up {ws : List Str} {e : Env} {c d : Nat} (h : EnvOk ws e c) (hd : c ≤ d) : EnvOk ws e d := fun y v hv => by
  obtain ⟨j, hj, e⟩ := h y v hv
  exact ⟨j, by omega, e⟩
theorem ren_bare {ws : List Str} (hw : ∃ n : Nat, ∀ x ∈ ws, x.length = n) : ∀ (t : Tr) (e : Env) (c : Nat) (bs cs : List Str), Good ws t → EnvOk ws e c → c + t.size ≤ 600 → (∀ y ∈ ws, keyB (e.nm y) cs.reverse = keyB y bs.reverse) → bare (ren ws t e c).1 cs = bare t bs
  | .name x, e, c, bs, cs, g, he, hc, hk => by
    show bareN (e.nm x) cs = bareN x bs
    unfold bareN
    rw [hk x g]
  | .num _, e, c, bs, cs, g, he, hc, hk => rfl
  | .ask _, e, c, bs, cs, g, he, hc, hk => rfl
  | .stop _, e, c, bs, cs, g, he, hc, hk => rfl
  | .gap h as, e, c, bs, cs, g, he, hc, hk => by
    show Dt.tup [.str "gap", .str h, .tup ((as.map (Atom.ren e)).map (bareA cs))] = Dt.tup [.str "gap", .str h, .tup (as.map (bareA bs))]
    have : (as.map (Atom.ren e)).map (bareA cs) = as.map (bareA bs) := by
      rw [List.map_map]
      refine List.map_congr_left fun a ha => ?_
      cases a with
      | name x =>
        show bareN (e.nm x) cs = bareN x bs
        unfold bareN
        rw [hk x (g _ ha x (by simp [Atom.names]))]
      | _ => rfl
    rw [this]
  | .say a, e, c, bs, cs, g, he, hc, hk => by
    have h1 := ren_bare hw a e c bs cs g he (by simp only [Tr.size] at hc; omega) hk
    simp only [ren, bare, h1]
  | .bin o a b, e, c, bs, cs, g, he, hc, hk => by
    simp only [Tr.size] at hc
    have n1 := ren_cnt ws a e c
    have h1 := ren_bare hw a e c bs cs g.1 he (by omega) hk
    have h2 := ren_bare hw b e (ren ws a e c).2 bs cs g.2 (he.up n1.1) (by omega) hk
    simp only [ren, bare, h1, h2]
  | .ite a b d, e, c, bs, cs, g, he, hc, hk => by
    simp only [Tr.size] at hc
    have n1 := ren_cnt ws a e c
    have n2 := ren_cnt ws b e (ren ws a e c).2
    have h1 := ren_bare hw a e c bs cs g.1 he (by omega) hk
    have h2 := ren_bare hw b e (ren ws a e c).2 bs cs g.2.1 (he.up n1.1) (by omega) hk
    have h3 := ren_bare hw d e (ren ws b e (ren ws a e c).2).2 bs cs g.2.2 (he.up (by omega)) (by omega) hk
    simp only [ren, bare, h1, h2, h3]
  | .lett x a b, e, c, bs, cs, g, he, hc, hk => by
    simp only [Tr.size] at hc
    have n1 := ren_cnt ws a e c
    have h1 := ren_bare hw a e c bs cs g.1 he (by omega) hk
    have h2 := ren_bare hw b (e.put x (newW ws ((ren ws a e c).2 + 1))) ((ren ws a e c).2 + 1) (bs ++ [x]) (cs ++ [newW ws ((ren ws a e c).2 + 1)]) g.2 (fun y v hv => by
      unfold Env.put at hv
      split at hv
      · cases hv; exact ⟨_, Nat.le_refl _, rfl⟩
      · obtain ⟨j, hj, e'⟩ := he y v hv
        exact ⟨j, by omega, e'⟩) (by omega) (fun y hy => by
      rw [List.reverse_append, List.reverse_append]
      show keyB _ (newW ws ((ren ws a e c).2 + 1) :: cs.reverse) = keyB y (x :: bs.reverse)
      rw [keyB_cons, keyB_cons]
      by_cases hyx : y = x
      · subst hyx
        have : (e.put y (newW ws ((ren ws a e c).2 + 1))).nm y = newW ws ((ren ws a e c).2 + 1) := by simp [Env.nm, Env.put]
        rw [this, if_pos rfl, if_pos rfl]
      · have : (e.put x (newW ws ((ren ws a e c).2 + 1))).nm y = e.nm y := by simp [Env.nm, Env.put, hyx]
        have hne : ¬ newW ws ((ren ws a e c).2 + 1) = e.nm y := by
          intro z
          unfold Env.nm at z
          cases hey : e y with
          | none =>
            rw [hey] at z
            exact newW_not hw _ (by rw [z]; exact hy)
          | some v =>
            rw [hey] at z
            obtain ⟨j, hj, e'⟩ := he y v hey
            rw [e'] at z
            have z' : newW ws ((ren ws a e c).2 + 1) = newW ws j := z
            have := newW_inj (by omega) (by omega) z'
            omega
        rw [this, if_neg hne, if_neg (fun z => hyx z.symm), hk y hy])
    simp only [ren, bare, h1, h2]
end L2
set_option Elab.async false
set_option linter.all false
set_option maxRecDepth 100000
set_option maxHeartbeats 4000000
namespace L2
open PySem
def SameX (c : Addr) (H H' : Hp) : Prop := ∀ b u, b ≠ c → H b = some u → H' b = some u
theorem SameX.trans {c : Addr} {H H1 H2 : Hp} (a : SameX c H H1) (b : SameX c H1 H2) : SameX c H H2 := fun d u n h => b d u n (a d u n h)
theorem Same.x {H H' : Hp} (c : Addr) (g : Same H H') : SameX c H H' := fun b u _ h => g b u h
theorem SameX.tk {c : Addr} {H H' : Hp} {xs : List V} (g : SameX c H H') (h : H c = some (.lst xs)) : Tk H H' := fun b ys e => g b _ (fun z => by subst z; rw [h] at e; cases e) e
theorem SameX.set {c : Addr} {H : Hp} {o : HO} : SameX c H (upd H c o) := fun b u n h => by rw [upd_ne n]; exact h
theorem SameX.setN {c a : Addr} {H H' : Hp} {o : HO} (g : SameX c H H') (h : H a = none) : SameX c H (upd H' a o) := fun b u n q => by rw [upd_ne (ne_of_none q h)]; exact g b u n q
theorem SameX.free {c a : Addr} {H H' : Hp} {xs : List V} (g : SameX c H H') (hc : H' c = some (.lst xs)) (h : H' a = none) : H a = none := by
  cases e : H a with
  | none => rfl
  | some u =>
    by_cases z : a = c
    · subst z; rw [hc] at h; cases h
    · rw [g a u z e] at h; cases h
def EnvR (kvs : List (Key × V)) (e : Env) : Prop := ∀ x : Str, valV kvs (Sum.inr x) = (e x).map V.str
theorem putK_len (kvs : List (Key × V)) (k : Key) (v : V) : (putK kvs k v).length ≤ kvs.length + 1 := by
  unfold putK
  split
  · simp
  · simp
theorem rep_snoc (c : Nat) : List.replicate c (V.int 1) ++ [V.int 1] = List.replicate (c + 1) (V.int 1) := (List.replicate_succ' (n := c) (a := V.int 1)).symm
theorem Rep.at {H : Hp} : ∀ {a : Atom} {v : V}, Rep H a.tr v → AtRep H a v
  | .name _, _, h => h
  | .num _, _, h => h
  | .gap _, _, ⟨a, b, us, e, h, h', _, hp⟩ => by
    cases hp
    exact ⟨a, b, e, h, h'⟩
def rens (ws : List Str) (e : Env) : List Tr → Nat → List Tr × Nat
  | [], c => ([], c)
  | t :: r, c => let a := ren ws t e c; let b := rens ws e r a.2; (a.1 :: b.1, b.2)
theorem rens_snoc (ws : List Str) (e : Env) : ∀ (l : List Tr) (t : Tr) (c : Nat), rens ws e (l ++ [t]) c = ((rens ws e l c).1 ++ [(ren ws t e (rens ws e l c).2).1], (ren ws t e (rens ws e l c).2).2)
  | [], t, c => rfl
  | a :: l, t, c => by
    simp only [List.cons_append, rens]
    rw [rens_snoc ws e l t]
theorem rens_cnt (ws : List Str) (e : Env) : ∀ (l : List Tr) (c : Nat), c ≤ (rens ws e l c).2 ∧ (rens ws e l c).2 ≤ c + (l.map Tr.size).sum
  | [], c => by simp [rens]
  | a :: l, c => by
    have h1 := ren_cnt ws a e c
    have h2 := rens_cnt ws e l (ren ws a e c).2
    simp only [rens, List.map_cons, List.sum_cons]
    omega
theorem rens_len (ws : List Str) (e : Env) : ∀ (l : List Tr) (c : Nat), (rens ws e l c).1.length = l.length
  | [], c => rfl
  | a :: l, c => by simp [rens, rens_len ws e l]
theorem ren_in {t : Tr} (h : t.inr) (ws : List Str) (e : Env) (c : Nat) : (ren ws t e c).2 = (rens ws e t.parts c).2 ∧ ∀ {H : Hp} {a : Addr} {us : List V}, H a = some (.tup (.str t.sign :: us)) → Paired (Rep H) (rens ws e t.parts c).1 us → Rep H (ren ws t e c).1 (.ref a) := by
  obtain ⟨h1, h2⟩ := h
  cases t with
  | say x =>
    refine ⟨rfl, fun ha hp => ?_⟩
    cases hp with | cons r1 hp => cases hp; exact ⟨_, _, rfl, ha, r1⟩
  | bin o x y =>
    refine ⟨rfl, fun ha hp => ?_⟩
    cases hp with | cons r1 hp => cases hp with | cons r2 hp => cases hp; exact ⟨_, _, _, rfl, by rw [ha]; show some (HO.tup [V.str o.kd.s, _, _]) = _; rw [Bin.kd_s], r1, r2⟩
  | ite x y z =>
    refine ⟨rfl, fun ha hp => ?_⟩
    cases hp with | cons r1 hp => cases hp with | cons r2 hp => cases hp with | cons r3 hp => cases hp; exact ⟨_, _, _, _, rfl, ha, r1, r2, r3⟩
  | lett x a b => exact absurd rfl h2
  | _ => cases h1
theorem parts_size (t : Tr) : (t.parts.map Tr.size).sum + 1 = t.size := by
  cases t <;> simp only [Tr.parts, Tr.size, List.map_cons, List.map_nil, List.sum_cons, List.sum_nil] <;> omega
theorem take_sum (l : List Tr) (i : Nat) : ((l.take i).map Tr.size).sum ≤ (l.map Tr.size).sum := by
  conv => rhs; rw [← List.take_append_drop i l]
  rw [List.map_append, List.sum_append]
  omega
end L2
namespace K04
open PySem PySem.Spec L2 PyProof.Rows
abbrev s_law_new_word : Stmt := top 19
theorem sc_law_new_word : FnScope ["_law_words_here", "_law_number", "_law_letters", "_law_word_here"] ["_law_words_here", "_law_number"] (defScope s_law_new_word) := ⟨rfl, rfl, rfl, by decide +kernel, rfl, by decide +kernel, by decide +kernel⟩
abbrev s_law_renamed : Stmt := top 20
theorem sc_law_renamed : FnScope ["_law_tree_here", "_law_names", "_law_words_here", "_law_count", "_law_one", "_law_inner", "_law_own"] ["_law_tree_here", "_law_names", "_law_words_here", "_law_count"] (defScope s_law_renamed) := ⟨rfl, rfl, rfl, by decide +kernel, rfl, by decide +kernel, by decide +kernel⟩
section
variable {P : Program} {w : World} {K : PySem.W.Frag} {mg : Str → Option Value} {base : Heap}
def sp_new_word : Sp := fun vs H Q _ => ∃ (l : Addr) (ws : List Str) (n : Int), vs = [.ref l, .int n] ∧ H l = some (.lst (ws.map V.str)) ∧ 0 ≤ n ∧ Q (.str (newW ws n.toNat)) H
theorem ok_new_word {k : Nat} {f : Addr} {fd : FuncData} (F : Fun K "_law_new_word" "_law_new_word" s_law_new_word f fd) : FnOk P w K mg base CX0 (k + 1) f fd ["_law_words_here", "_law_number"] sp_new_word := by
  refine F.ok sc_law_new_word (fun vs H Q E h => ?_) (fun cdv A outer s H vs Q E hr h => ?_)
  · obtain ⟨l, ws, n, rfl, _⟩ := h
    rfl
  obtain ⟨l, ws, n, rfl, hl, hn, q⟩ := h
  refine ⟨_, (pss_cons (ps_set (i := 2) sc_law_new_word.nd rfl (Or.inl rfl) pe_str)
    (pss_cons (ps_set (i := 3) sc_law_new_word.nd rfl (Or.inl rfl) (pe_op op_add_str (pe_op op_add_str pe_str (pe_ix ix_str (pv 2) (pe_op op_mod (pe_op op_fdiv (pv 1) pe_int) pe_int) (fun _ _ => rfl))) (pe_ix ix_str (pv 2) (pe_op op_mod (pv 1) pe_int) (fun _ _ => rfl))))
    (pss_cons (ps_if (pt_cmpR (r := rIn K false) op_in_seq (pv 3) (pv 0) rfl) (pss_one (ps_ret (pe_op op_add_str pe_str (pv 3)))) pss_nil)
    (pss_one (ps_ret (pv 3)))))), ?_⟩
  have d26 : (0 : Int) < 26 := by decide
  generalize hL : Str.ofString "abcdefghijklmnopqrstuvwxyz" = L
  have hLl : L.length ≤ sizeLine := by rw [← hL]; decide
  have hat : ∀ z : Int, atI L.cps.toList (z % 26) = some (97 + (z % 26).toNat) := fun z => by rw [← hL]; exact let_int z
  refine ⟨_, rfl, _, rfl, _, _, rfl, rfl, ⟨d26, (show (26 : Int) < 1073741824 by decide)⟩, _, _, rfl, rfl, d26, L, _, _, rfl, rfl, hLl, hat _, _, _, rfl, rfl, (by show 1 + 1 ≤ sizeLine; decide), ?_⟩
  refine ⟨_, rfl, _, rfl, _, _, rfl, rfl, d26, L, _, _, rfl, rfl, hLl, hat _, _, _, rfl, rfl, (by show 2 + 1 ≤ sizeLine; decide), ?_⟩
  have e : (Str.ofString "q" ++ (⟨#[97 + (n / 26 % 26).toNat]⟩ : Str) ++ (⟨#[97 + (n % 26).toNat]⟩ : Str)) = nwS n.toNat := by
    have e1 : (n / 26 % 26).toNat = n.toNat / 26 % 26 := by omega
    have e2 : (n % 26).toNat = n.toNat % 26 := by omega
    rw [e1, e2]
    rfl
  refine ⟨_, rfl, _, rfl, l, _, rfl, .inl (SqL.of hl), rfl, flat_strs ws, _, rfl, ?_⟩
  show if inV (.str (Str.ofString "q" ++ (⟨#[97 + (n / 26 % 26).toNat]⟩ : Str) ++ (⟨#[97 + (n % 26).toNat]⟩ : Str))) (ws.map V.str) = true then _ else _
  rw [mem_strs]
  refine ite2 (fun c => ?_) (fun c => ?_)
  · have c' := of_decide_eq_true c
    refine ⟨_, rfl, _, _, rfl, rfl, (by rw [e]; show 1 + 3 ≤ sizeLine; decide), ?_⟩
    rw [e] at c' ⊢
    unfold newW at q
    rw [if_pos c'] at q
    exact q
  · have c' : ¬ _ := fun z => c (decide_eq_true z)
    refine ⟨_, rfl, ?_⟩
    rw [e] at c' ⊢
    unfold newW at q
    rw [if_neg c'] at q
    exact q
def sp_ren (n : Nat) : Sp := fun vs H Q _ => ∃ (t : Tr) (v : V) (d l cn : Addr) (ws : List Str) (kvs : List (Key × V)) (e : L2.Env) (c : Nat), vs = [v, .ref d, .ref l, .ref cn] ∧ Rep H t v ∧ t.dep ≤ n ∧ H d = some (.dK kvs) ∧ EnvR kvs e ∧ kvs.length + t.dep ≤ 900 ∧ H l = some (.lst (ws.map V.str)) ∧ H cn = some (.lst (List.replicate c (.int 1))) ∧ l ≠ cn ∧ c + t.size ≤ 600 ∧
  ∀ v' H', SameX cn H H' → H' cn = some (.lst (List.replicate (ren ws t e c).2 (.int 1))) → Rep H' (ren ws t e c).1 v' → Q v' H'
theorem ok_ren {k n : Nat} {f g1 : Addr} {fd gd1 : FuncData} (F : Fun K "_law_renamed" "_law_renamed" s_law_renamed f fd) (z_tuple : mg "tuple" = none) (z_dict : mg "dict" = none) (z_len : mg "len" = none) (G_law_new_word : FnB P w K mg base k "_law_new_word" g1 gd1 ["_law_words_here", "_law_number"] sp_new_word)
    (G_law_renamed : FnB P w K mg base k "_law_renamed" f fd ["_law_tree_here", "_law_names", "_law_words_here", "_law_count"] (sp_ren n)) : FnOk P w K mg base CX0 (k + 1) f fd ["_law_tree_here", "_law_names", "_law_words_here", "_law_count"] (sp_ren (n + 1)) := by
  refine F.ok sc_law_renamed (fun vs H Q E h => ?_) (fun cdv A outer s H vs Q E hr h => ?_)
  · obtain ⟨t, v, d, l, cn, ws, kvs, e, c, rfl, _⟩ := h
    rfl
  obtain ⟨t, v, d, l, cn, ws, kvs, e, c0, rfl, hR, hn, hd, he, hz, hl, hc, hlc, h6, q⟩ := h
  have hu := hu_of hr
  refine ⟨_, (Sd.un (pss_consS (ps_ifS ⟨pt_cmpR op_eq (pe_ix (r := rIxT K) ix_tup (pv 0) pe_int (fun _ _ => rfl)) pe_str (nomark _)⟩ (pss_oneS (ps_retS (pe_tupS (pa_consS ⟨pe_str⟩ (pa_consS ⟨pe_dget2 hu (pv 1) (pe_ix (r := rIxT K) ix_tup (pv 0) pe_int (fun _ _ => rfl)) (pe_ix (r := rIxT K) ix_tup (pv 0) pe_int (fun _ _ => rfl)) ⟨rfl, rfl, rfl, rfl⟩⟩ ⟨pa_nil⟩))))) ⟨pss_nil⟩)
    (pss_consS (ps_ifS ⟨pt_cmpR op_eq (pe_ix (r := rIxT K) ix_tup (pv 0) pe_int (fun _ _ => rfl)) pe_str (nomark _)⟩ (pss_oneS (ps_retS (pe_tupS (pa_consS ⟨pe_str⟩ (pa_consS (pe_ixS (r := rIxT K) ix_tup ⟨pv 0⟩ ⟨pe_int⟩ (fun _ _ => rfl)) (pa_consS (pe_callTyS call_tuple_of (by rfl) z_tuple PyProof.Rows.boot_tuple (pa_consS ⟨pe_compB ["_law_atom", "_law_names", "_law_words_here", "_law_count"] [none, some 1, some 2, some 3] rfl (pi_tup (pe_ix (r := rIxT K) ix_tup (pv 0) pe_int (fun _ _ => rfl))) (fun _ _ _ _ _ => (pg_name (i := 0) (show List.Nodup (["_law_atom", "_law_names", "_law_words_here", "_law_count"] : List Str) by decide +kernel) rfl (Or.inl rfl))) (fun _ _ _ _ _ => pts_nil) (fun _ _ _ _ _ => (pe_call G_law_renamed.ok hr (by rfl) G_law_renamed.gl G_law_renamed.kp G_law_renamed.bd .nil pass0 (pa_cons (pv 0) (pa_cons (pv 1) (pa_cons (pv 2) (pa_cons (pv 3) pa_nil)))))) rfl⟩ ⟨pa_nil⟩)) ⟨pa_nil⟩)))))) ⟨pss_nil⟩)
    (pss_consS (ps_ifS ⟨pt_cmpR op_eq (pe_ix (r := rIxT K) ix_tup (pv 0) pe_int (fun _ _ => rfl)) pe_str (nomark _)⟩ (pss_consS (ps_setS (i := 4) sc_law_renamed.nd rfl (Or.inl rfl) ⟨pe_call G_law_renamed.ok hr (by rfl) G_law_renamed.gl G_law_renamed.kp G_law_renamed.bd .nil pass0 (pa_cons (pe_ix (r := rIxT K) ix_tup (pv 0) pe_int (fun _ _ => rfl)) (pa_cons (pv 1) (pa_cons (pv 2) (pa_cons (pv 3) pa_nil))))⟩)
    (pss_consS (ps_setS (i := 5) sc_law_renamed.nd rfl (Or.inl rfl) (pe_callTyS call_dictD (by rfl) z_dict PyProof.Rows.boot_dict (pa_consS ⟨pv 1⟩ ⟨pa_nil⟩)))
    (pss_consS (ps_exprS (pe_bmS PySem.F.plainAttrs_list PySem.F.slot_list_append PySem.F.type_list_append mt_append ⟨pv 3⟩ (pa_consS ⟨pe_int⟩ ⟨pa_nil⟩)))
    (pss_consS ⟨ps_dput hu (pv 5) (pe_ix (r := rIxT K) ix_tup (pv 0) pe_int (fun _ _ => rfl)) (pe_call G_law_new_word.ok hr (by rfl) G_law_new_word.gl G_law_new_word.kp G_law_new_word.bd .nil pass0 (pa_cons (pv 2) (pa_cons (pe_callB call_len_seq (by rfl) z_len PySem.boot_len (pa_cons (pv 3) pa_nil)) pa_nil))) rfl⟩
    (pss_consS (ps_setS (i := 6) sc_law_renamed.nd rfl (Or.inl rfl) ⟨pe_dget hu (pv 5) (pe_ix (r := rIxT K) ix_tup (pv 0) pe_int (fun _ _ => rfl)) (fun _ _ => rfl)⟩)
    (pss_oneS (ps_retS (pe_tupS (pa_consS ⟨pe_str⟩ (pa_consS ⟨pv 6⟩ (pa_consS ⟨pv 4⟩ (pa_consS ⟨pe_call G_law_renamed.ok hr (by rfl) G_law_renamed.gl G_law_renamed.kp G_law_renamed.bd .nil pass0 (pa_cons (pe_ix (r := rIxT K) ix_tup (pv 0) pe_int (fun _ _ => rfl)) (pa_cons (pv 5) (pa_cons (pv 2) (pa_cons (pv 3) pa_nil))))⟩ ⟨pa_nil⟩)))))))))))) ⟨pss_nil⟩)
    (pss_consS (ps_ifS ⟨pt_cmpR (r := rIn K false) op_in_seq (pe_ix (r := rIxT K) ix_tup (pv 0) pe_int (fun _ _ => rfl)) (pe_tupR [.str "num", .str "ask", .str "stop"] (by rfl) : PE _ _ _) rfl⟩ (pss_oneS (ps_retS ⟨pv 0⟩)) ⟨pss_nil⟩)
    (pss_oneS (ps_retS ⟨pe_op op_catV (pe_slice sl_tupV (pv 0) po_none (po_some pe_int)) (pe_callTy call_tuple_of (by rfl) z_tuple PyProof.Rows.boot_tuple (pa_cons (pe_compB ["_law_part", "_law_names", "_law_words_here", "_law_count"] [none, some 1, some 2, some 3] rfl (pi_tup (pe_slice sl_tupV (pv 0) (po_some pe_int) po_none)) (fun _ _ _ _ _ => (pg_name (i := 0) (show List.Nodup (["_law_part", "_law_names", "_law_words_here", "_law_count"] : List Str) by decide +kernel) rfl (Or.inl rfl))) (fun _ _ _ _ _ => pts_nil) (fun _ _ _ _ _ => (pe_call G_law_renamed.ok hr (by rfl) G_law_renamed.gl G_law_renamed.kp G_law_renamed.bd .nil pass0 (pa_cons (pv 0) (pa_cons (pv 1) (pa_cons (pv 2) (pa_cons (pv 3) pa_nil)))))) rfl) pa_nil))⟩))))))), ?_⟩
  have d2 : 2 ≤ sizeLine := by decide
  have d3 : 3 ≤ sizeLine := by decide
  have d4 : 4 ≤ sizeLine := by decide
  have hdc : d ≠ cn := fun z => by subst z; rw [hd] at hc; cases hc
  have nfree : ∀ {a : Addr}, H a = none → a ≠ cn := fun ha z => by subst z; rw [hc] at ha; cases ha
  obtain ⟨a, hs, us, rfl, ha, hl', hp⟩ := hR.all
  have h0 : atI (V.str t.kd.s :: hs ++ us) 0 = some (.str t.kd.s) := atI_nat (j := 0) rfl
  refine ⟨_, rfl, a, _, 0, _, rfl, rfl, SqT.of ha, h0, rfl, _, rfl, ?_⟩
  refine ite2 (fun c => ?_) (fun c1 => ?_)
  · have z : t.kd = .name := Kd.eq_iff.mp (of_decide_eq_true c)
    cases t with
    | name x =>
      obtain ⟨a', e', ha'⟩ := hR
      cases e'
      have ev : (valV kvs (Sum.inr x)).getD (.str x) = .str (e.nm x) := by
        rw [he x]
        unfold L2.Env.nm
        cases e x <;> rfl
      refine ⟨_, rfl, d, rfl, .inl ⟨kvs, .inl hd⟩, _, rfl, a, _, 1, _, rfl, rfl, SqT.of ha', rfl, _, rfl, a, _, 1, _, rfl, rfl, SqT.of ha', rfl, _, DGet.k (k := Sum.inr x) hd, d2, ?_⟩
      rw [ev]
      intro p hp'
      exact q _ _ ((same_upd hp').x cn) (same_upd hp' _ _ hc) ⟨p, rfl, upd_same⟩
    | bin o a b => cases o <;> cases z
    | _ => cases z
  refine ⟨_, rfl, a, _, 0, _, rfl, rfl, SqT.of ha, h0, rfl, _, rfl, ?_⟩
  refine ite2 (fun c => ?_) (fun c2 => ?_)
  · have z : t.kd = .gap := Kd.eq_iff.mp (of_decide_eq_true c)
    cases t with
    | gap g as =>
      obtain ⟨a', b', us', e', ha', hb', hz', hp'⟩ := hR
      cases e'
      refine ⟨_, rfl, a, _, 1, _, rfl, rfl, SqT.of ha', rfl, _, rfl, a, _, 2, _, rfl, rfl, SqT.of ha', rfl, b', rfl, ⟨_, SqT.of hb'⟩, fun acc hacc => ?_⟩
      refine comp_tupR (xs := us') (fun i H' => SameX cn H H' ∧ H' cn = some (.lst (List.replicate c0 (.int 1))) ∧ ∃ zs, H' acc = some (.lst zs) ∧ Paired (AtRep H') ((as.take i).map (Atom.ren e)) zs) ⟨(same_upd hacc).x cn, same_upd hacc _ _ hc, [], upd_same, by rw [List.take_zero]; exact .nil⟩ (fun i H' _ h => SqT.of (h.1.tk hc _ _ hb')) ?_ ?_
      · rintro j x Hx hx ⟨gx, ecx, zs, ezs, hzs⟩
        obtain ⟨m, em, rm⟩ := paired_get hp' hx
        have hj : j < us'.length := (List.getElem?_eq_some_iff.mp hx).1
        have lz := hzs.length
        have hd1 : m.tr.dep = 1 ∧ m.tr.size = 1 := by cases m <;> exact ⟨rfl, rfl⟩
        have hd2 : (Tr.gap g as).dep = 2 := by
          cases as with
          | nil => cases em
          | cons _ _ => rfl
        have hsz : (Tr.gap g as).size = 1 := rfl
        have er : ren ws m.tr e c0 = ((m.ren e).tr, c0) := by cases m <;> rfl
        refine ⟨.skip (.keep (.keep (.keep .nil))), ?_⟩
        refine ⟨_, rfl, _, rfl, _, rfl, _, rfl, m.tr, x, d, l, cn, ws, kvs, e, c0, rfl, (rm.mono (gx.tk hc)).tr, by omega, gx _ _ hdc hd, he, by omega, gx _ _ hlc hl, ecx, hlc, by omega, fun v' H2 g2 ec2 rr => ?_⟩
        rw [er] at ec2 rr
        have ez2 := g2 _ _ (nfree hacc) ezs
        have kset := Tk.lst (o := .lst (zs ++ [v'])) ez2
        refine ⟨zs, ez2, small1000 (by rw [← lz, List.length_map, List.length_take]; omega), (gx.trans g2).setN hacc, by rw [upd_ne (nfree hacc).symm]; exact ec2, _, upd_same, ?_⟩
        rw [take_next em, List.map_append]
        exact paired_append (Paired.mapP hzs fun _ _ z => (z.mono (g2.tk ecx)).mono kset) (.cons (rr.at.mono kset) .nil)
      · rintro H1 ⟨g1, ec1, zs, ezs, hzs⟩
        rw [← hp'.length, List.take_length] at hzs
        have lz := hzs.length
        rw [List.length_map] at lz
        refine ⟨acc, _, rfl, .inl ⟨SqL.of ezs, fun p1 hp1 => ⟨d3, fun p2 hp2 => ?_⟩⟩⟩
        have g2 := same_upd (o := .tup zs) hp1
        have g3 := same_upd (o := .tup [.str "gap", .str g, .ref p1]) hp2
        have g23 := g2.trans g3
        exact q _ _ (g1.trans (g23.x cn)) (g23 _ _ ec1) ⟨p2, p1, zs, rfl, upd_same, g3 _ _ upd_same, by rw [← lz, hp'.length]; exact hz', Paired.mapP hzs fun _ _ z => z.mono g23.tk⟩
    | bin o a b => cases o <;> cases z
    | _ => cases z
  refine ⟨_, rfl, a, _, 0, _, rfl, rfl, SqT.of ha, h0, rfl, _, rfl, ?_⟩
  refine ite2 (fun c => ?_) (fun c3 => ?_)
  · have z : t.kd = .lett := Kd.eq_iff.mp (of_decide_eq_true c)
    cases t with
    | lett x s t =>
      obtain ⟨a', u1, w1, e', ha', r1, r2⟩ := hR
      cases e'
      have hdp : (Tr.lett x s t).dep = max s.dep t.dep + 1 := rfl
      have hsz : (Tr.lett x s t).size = s.size + t.size + 1 := rfl
      have n1 := ren_cnt ws s e c0
      refine ⟨_, rfl, a, _, 2, _, rfl, rfl, SqT.of ha', rfl, _, rfl, _, rfl, _, rfl, s, u1, d, l, cn, ws, kvs, e, c0, rfl, r1, by omega, hd, he, by omega, hl, hc, hlc, by omega, fun v1 H1 g1 ec1 rr1 => ?_⟩
      generalize hC : (ren ws s e c0).2 = C at ec1 n1
      have hd1 := g1 _ _ hdc hd
      have hl1 := g1 _ _ hlc hl
      have t1 := g1.tk hc
      have ha1 := t1 _ _ ha'
      refine ⟨_, rfl, d, kvs, rfl, hd1, fun p hp' => ?_⟩
      have gp := same_upd (o := .dK kvs) hp'
      have npc : p ≠ cn := fun z => by subst z; rw [ec1] at hp'; cases hp'
      refine ⟨_, rfl, .inl ⟨rfl, _, SqL.of (gp _ _ ec1)⟩, cn, _, _, rfl, rfl, gp _ _ ec1, small1000 (by simp; omega), ?_⟩
      rw [rep_snoc]
      have g3 : SameX cn H1 (upd (upd H1 p (.dK kvs)) cn (.lst (List.replicate (C + 1) (.int 1)))) := (gp.x cn).trans SameX.set
      have ec3 : (upd (upd H1 p (.dK kvs)) cn (.lst (List.replicate (C + 1) (.int 1)))) cn = some (.lst (List.replicate (C + 1) (.int 1))) := upd_same
      have ep3 : (upd (upd H1 p (.dK kvs)) cn (.lst (List.replicate (C + 1) (.int 1)))) p = some (.dK kvs) := by rw [upd_ne npc, upd_same]
      generalize upd (upd H1 p (.dK kvs)) cn (.lst (List.replicate (C + 1) (.int 1))) = H3 at g3 ec3 ep3 ⊢
      have hl3 := g3 _ _ hlc hl1
      have t3 := g3.tk ec1
      have ha3 := t3 _ _ ha1
      have hpH : H p = none := g1.free ec1 hp'
      refine ⟨_, rfl, _, rfl, cn, _, rfl, .inl (SqL.of ec3), l, ws, _, rfl, hl3, by omega, _, rfl, _, rfl, a, _, 1, _, rfl, rfl, SqT.of ha3, rfl, p, _, rfl, DPut.k (k := Sum.inr x) ep3 (small1000 (by omega)), ?_⟩
      have en : (((List.replicate (C + 1) (V.int 1)).length : Int)).toNat = C + 1 := by simp
      rw [en]
      have hext : SameX cn H (upd H3 p (.dK (putK kvs (Sum.inr x) (.str (newW ws (C + 1)))))) := (g1.trans g3).setN hpH
      have t4 : Tk H3 (upd H3 p (.dK (putK kvs (Sum.inr x) (.str (newW ws (C + 1)))))) := Tk.dk ep3
      have ec4 : (upd H3 p (.dK (putK kvs (Sum.inr x) (.str (newW ws (C + 1)))))) cn = some (.lst (List.replicate (C + 1) (.int 1))) := by rw [upd_ne npc.symm]; exact ec3
      have ep4 : (upd H3 p (.dK (putK kvs (Sum.inr x) (.str (newW ws (C + 1)))))) p = some (.dK (putK kvs (Sum.inr x) (.str (newW ws (C + 1))))) := upd_same
      have hl4 := hext _ _ hlc hl
      generalize upd H3 p (.dK (putK kvs (Sum.inr x) (.str (newW ws (C + 1))))) = H4 at hext t4 ec4 ep4 hl4 ⊢
      have ha4 := t4 _ _ ha3
      have gv : DGet H4 p (.str x) (some (.str (newW ws (C + 1)))) := by
        have := DGet.k (k := Sum.inr x) ep4
        rw [valV_put, if_pos rfl] at this
        exact this
      have he4 : EnvR (putK kvs (Sum.inr x) (.str (newW ws (C + 1)))) (e.put x (newW ws (C + 1))) := fun y => by
        rw [valV_put]
        unfold L2.Env.put
        by_cases hy : y = x
        · rw [if_pos (by rw [hy]), if_pos hy]; rfl
        · rw [if_neg (fun z => hy (Sum.inr.inj z)), if_neg hy]; exact he y
      have hpl := putK_len kvs (Sum.inr x) (.str (newW ws (C + 1)))
      refine ⟨_, rfl, _, rfl, a, _, 1, _, rfl, rfl, SqT.of ha4, rfl, p, _, rfl, gv, ?_⟩
      refine ⟨_, rfl, _, rfl, _, rfl, a, _, 3, _, rfl, rfl, SqT.of ha4, rfl, _, rfl, _, rfl, _, rfl, t, w1, p, l, cn, ws, _, e.put x (newW ws (C + 1)), C + 1, rfl, r2.mono (t1.trans (t3.trans t4)), by omega, ep4, he4, by omega, hl4, ec4, hlc, by omega, fun v2 H5 g5 ec5 rr5 => ⟨d4, fun p5 hp5 => ?_⟩⟩
      have g6 := same_upd (o := .tup [.str "let", .str (newW ws (C + 1)), v1, v2]) hp5
      refine q _ _ (hext.trans (g5.trans (g6.x cn))) ?_ ?_
      · rw [g6 _ _ ec5]
        simp only [ren, hC]
      · simp only [ren, hC]
        exact ⟨p5, v1, v2, rfl, upd_same, rr1.mono (t3.trans (t4.trans ((g5.tk ec4).trans g6.tk))), rr5.mono g6.tk⟩
    | bin o a b => cases o <;> cases z
    | _ => cases z
  refine ⟨_, rfl, a, _, 0, _, rfl, rfl, SqT.of ha, h0, d3, fun pc hpc => ⟨pc, _, rfl, .inr (SqT.of upd_same), rfl, rfl, _, rfl, ?_⟩⟩
  have gc := same_upd (o := .tup [.str "num", .str "ask", .str "stop"]) hpc
  show if inV (.str t.kd.s) [.str "num", .str "ask", .str "stop"] = true then _ else _
  rw [in3]
  refine ite2 (fun c => ?_) (fun c4 => ?_)
  · have z := of_decide_eq_true c
    refine ⟨_, rfl, q _ _ (gc.x cn) ?_ ?_⟩
    · cases t with
      | num n => exact gc _ _ hc
      | ask n => exact gc _ _ hc
      | stop n => exact gc _ _ hc
      | bin o a b => exfalso; cases o <;> (rcases z with z | z | z <;> cases z)
      | _ => exfalso; rcases z with z | z | z <;> cases z
    · cases t with
      | num n => exact hR.mono gc.tk
      | ask n => exact hR.mono gc.tk
      | stop n => exact hR.mono gc.tk
      | bin o a b => exfalso; cases o <;> (rcases z with z | z | z <;> cases z)
      | _ => exfalso; rcases z with z | z | z <;> cases z
  · have n1 : t.kd ≠ .name := fun z => c1 (by rw [z]; exact decide_eq_true rfl)
    have n2 : t.kd ≠ .gap := fun z => c2 (by rw [z]; exact decide_eq_true rfl)
    have n3 : t.kd ≠ .lett := fun z => c3 (by rw [z]; exact decide_eq_true rfl)
    have n4 : ¬ (t.kd = .num ∨ t.kd = .ask ∨ t.kd = .stop) := fun z => c4 (decide_eq_true z)
    have hin : t.inr := ⟨by
      cases hk : t.kd with
      | num => exact absurd (.inl hk) n4
      | ask => exact absurd (.inr (.inl hk)) n4
      | stop => exact absurd (.inr (.inr hk)) n4
      | name => exact absurd hk n1
      | gap => exact absurd hk n2
      | _ => rfl, n3⟩
    obtain ⟨hh, hp1, hp3⟩ := head_in hin
    have hs0 : hs = [] := by
      have : hs.length = 0 := by omega
      exact List.eq_nil_of_length_eq_zero this
    subst hs0
    obtain ⟨rn1, rn2⟩ := ren_in hin ws e c0
    have lus := hp.length
    have hac := gc _ _ ha
    have hpcc : pc ≠ cn := nfree hpc
    generalize upd H pc (.tup [.str "num", .str "ask", .str "stop"]) = H1 at gc hac ⊢
    have hac' : H1 a = some (.tup (.str t.sign :: us)) := hac
    obtain ⟨k1, k2, k3, k4⟩ := cut_head (.str t.sign) us (by omega)
    refine ⟨_, rfl, 1, rfl, a, _, rfl, hac', k3, fun p1 H2 g2 e2 => ?_⟩
    rw [k1] at e2
    refine ⟨_, rfl, 1, rfl, a, _, rfl, g2 _ _ hac', k4, fun p2 H3 g3 e3 => ⟨p2, rfl, ⟨_, SqT.of e3⟩, fun acc hacc => ?_⟩⟩
    rw [k2] at e3
    have gA := gc.trans (g2.trans g3)
    have hd3 := gA _ _ hd
    have hl3 := gA _ _ hl
    have hc3 := gA _ _ hc
    have hp3' : Paired (Rep H3) t.parts us := Paired.mapP hp fun _ _ z => z.mono gA.tk
    have nacc : acc ≠ cn := fun z => by subst z; rw [hc3] at hacc; cases hacc
    have psz := parts_size t
    refine comp_tupR (xs := us) (fun i H' => SameX cn H3 H' ∧ H' cn = some (.lst (List.replicate (rens ws e (t.parts.take i) c0).2 (.int 1))) ∧ ∃ zs, H' acc = some (.lst zs) ∧ Paired (Rep H') (rens ws e (t.parts.take i) c0).1 zs) ⟨(same_upd hacc).x cn, same_upd hacc _ _ hc3, [], upd_same, by rw [List.take_zero]; exact .nil⟩ (fun i H' _ h => SqT.of (h.1.tk hc3 _ _ e3)) ?_ ?_
    · rintro j x Hx hx ⟨gx, ecx, zs, ezs, hzs⟩
      obtain ⟨m, em, rm⟩ := paired_get hp3' hx
      have hj : j < us.length := (List.getElem?_eq_some_iff.mp hx).1
      have lz := hzs.length
      rw [rens_len] at lz
      have hdp := dep_part (List.mem_of_getElem? em)
      have cn1 := rens_cnt ws e (t.parts.take j) c0
      have ts := take_sum t.parts (j + 1)
      rw [take_next em, List.map_append, List.sum_append, List.map_cons, List.map_nil, List.sum_cons, List.sum_nil] at ts
      refine ⟨.skip (.keep (.keep (.keep .nil))), ?_⟩
      refine ⟨_, rfl, _, rfl, _, rfl, _, rfl, m, x, d, l, cn, ws, kvs, e, _, rfl, rm.mono (gx.tk hc3), by omega, gx _ _ hdc hd3, he, by omega, gx _ _ hlc hl3, ecx, hlc, by omega, fun v' H4 g4 ec4 rr => ?_⟩
      have ez4 := g4 _ _ nacc ezs
      have kset := Tk.lst (o := .lst (zs ++ [v'])) ez4
      refine ⟨zs, ez4, small1000 (by rw [← lz, List.length_take]; omega), (gx.trans g4).setN hacc, ?_, _, upd_same, ?_⟩
      · rw [upd_ne nacc.symm, take_next em, rens_snoc]
        exact ec4
      · rw [take_next em, rens_snoc]
        exact paired_append (Paired.mapP hzs fun _ _ z => (z.mono (g4.tk ecx)).mono kset) (.cons (rr.mono kset) .nil)
    · rintro H4 ⟨g4, ec4, zs, ezs, hzs⟩
      rw [← lus, List.take_length] at hzs ec4
      have lz := hzs.length
      rw [rens_len] at lz
      refine ⟨acc, _, rfl, .inl ⟨SqL.of ezs, fun p4 hp4 => ?_⟩⟩
      have g5 := same_upd (o := .tup zs) hp4
      have t4 := g4.tk hc3
      refine ⟨p1, p4, _, zs, rfl, rfl, g5 _ _ (t4 _ _ (g3 _ _ e2)), upd_same, line1000 (by simp; omega), fun r H5 g6 e6 => ?_⟩
      have g56 := g5.trans g6
      refine q _ _ ((gA.x cn).trans (g4.trans (g56.x cn))) ?_ ?_
      · rw [rn1]
        exact g56 _ _ ec4
      · exact rn2 e6 (Paired.mapP hzs fun _ _ z => z.mono g56.tk)
theorem none_ren {k : Nat} {f : Addr} {fd : FuncData} : FnOk P w K mg base CX0 k f fd ["_law_tree_here", "_law_names", "_law_words_here", "_law_count"] (sp_ren 0) := by
  have no : ∀ vs H Q E, ¬ sp_ren 0 vs H Q E := fun vs H Q E h => by
    obtain ⟨t, v, d, l, cn, ws, kvs, e, c, _, _, h1, _⟩ := h
    have := dep_pos t
    omega
  exact ⟨fun vs H Q E h => absurd h (no vs H Q E), fun A outer s H args us vs Q E _ _ _ _ h => absurd h (no vs H Q E)⟩
theorem all_ren {k : Nat} {f g1 : Addr} {fd gd1 : FuncData} (F : Fun K "_law_renamed" "_law_renamed" s_law_renamed f fd) (b : Binds K fd ["_law_tree_here", "_law_names", "_law_words_here", "_law_count"] []) (m : mg "_law_renamed" = some (.ref f)) (z_tuple : mg "tuple" = none) (z_dict : mg "dict" = none) (z_len : mg "len" = none)
    (G : FnB P w K mg base k "_law_new_word" g1 gd1 ["_law_words_here", "_law_number"] sp_new_word) : ∀ n : Nat, FnB P w K mg base (k + n) "_law_renamed" f fd ["_law_tree_here", "_law_names", "_law_words_here", "_law_count"] (sp_ren n)
  | 0 => ⟨none_ren, b, F.kp, m⟩
  | n + 1 => ⟨ok_ren F z_tuple z_dict z_len (G.up (Nat.le_add_right _ _)) (all_ren F b m z_tuple z_dict z_len G n), b, F.kp, m⟩
end
end K04
set_option Elab.async false
set_option linter.all false
set_option maxRecDepth 100000
set_option maxHeartbeats 4000000
namespace L2
open PySem
theorem paired_drop {α : Type} {F : α → V → Prop} : ∀ {as : List α} {us : List V} (n : Nat), Paired F as us → Paired F (as.drop n) (us.drop n)
  | _, _, 0, h => h
  | _, _, _ + 1, .nil => .nil
  | _, _, n + 1, .cons _ t => paired_drop n t
theorem paired_takeN {α : Type} {F : α → V → Prop} : ∀ {as : List α} {us : List V} (n : Nat), Paired F as us → Paired F (as.take n) (us.take n)
  | _, _, 0, _ => .nil
  | _, _, _ + 1, .nil => .nil
  | _, _, n + 1, .cons r t => .cons r (paired_takeN n t)
theorem paired_cut {α : Type} {F : α → V → Prop} {as : List α} {us : List V} (lo hi : Option Int) (h : Paired F as us) : ∃ as', Paired F as' (cutV us lo hi) := by
  unfold cutV
  exact ⟨_, paired_takeN _ (paired_drop _ h)⟩
theorem cut_neg (us : List V) (h : 0 < us.length) : (cutV us none (some (-1))).length + 1 = us.length := by
  unfold cutV
  have e : HT.sIx us.length us.length (some (-1)) = us.length - 1 := by
    unfold HT.sIx
    simp
    omega
  rw [HT.sIx_none, e]
  simp
  omega
theorem dep_gap2 (g : Str) (as : List Atom) : (Tr.gap g as).dep ≤ 2 := by cases as <;> simp [Tr.dep]
theorem in3n (k : Kd) : inV (.str k.s) [.str "name", .str "ask", .str "stop"] = decide (k = .name ∨ k = .ask ∨ k = .stop) := by cases k <;> decide +kernel
end L2
namespace K04
open PySem PySem.Spec L2 PyProof.Rows
abbrev s_law_otherwise : Stmt := top 21
theorem sc_law_otherwise : FnScope ["_law_part", "_law_word_here", "_law_cell"] ["_law_part", "_law_word_here", "_law_cell"] (defScope s_law_otherwise) := ⟨rfl, rfl, rfl, by decide +kernel, rfl, by decide +kernel, by decide +kernel⟩
section
variable {P : Program} {w : World} {K : PySem.W.Frag} {mg : Str → Option Value} {base : Heap}
def sp_other : Sp := fun vs H Q _ => ∃ (t : Tr) (v : V) (wd : Str) (c : Int), vs = [v, .str wd, .int c] ∧ Rep H t v ∧ ∀ t' v' H', Same H H' → Rep H' t' v' → t'.size = t.size → t'.dep ≤ t.dep + 1 → Q v' H'
theorem ok_other {k : Nat} {f : Addr} {fd : FuncData} (F : Fun K "_law_otherwise" "_law_otherwise" s_law_otherwise f fd) (z_len : mg "len" = none) (z_tuple : mg "tuple" = none) (z_reversed : mg "reversed" = none) : FnOk P w K mg base CX0 (k + 1) f fd ["_law_part", "_law_word_here", "_law_cell"] sp_other := by
  refine F.ok sc_law_otherwise (fun vs H Q E h => ?_) (fun cdv A outer s H vs Q E hr h => ?_)
  · obtain ⟨t, v, wd, c, rfl, _⟩ := h
    rfl
  obtain ⟨t, v, wd, c, rfl, hR, q⟩ := h
  refine ⟨_, (Sd.un (pss_consS (ps_ifS ⟨pt_cmpR op_eq (pe_ix (r := rIxT K) ix_tup (pv 0) pe_int (fun _ _ => rfl)) pe_str (nomark _)⟩ (pss_oneS (ps_retS (pe_tupS (pa_consS ⟨pe_str⟩ (pa_consS ⟨pe_op op_mod (pe_op op_add (pe_ix (r := rIxT K) ix_tup (pv 0) pe_int (fun _ _ => rfl)) pe_int) (pe_op op_pow pe_int pe_int)⟩ ⟨pa_nil⟩))))) ⟨pss_nil⟩)
    (pss_consS (ps_ifS ⟨(pw_and (pt_cmpR op_eq (pe_ix (r := rIxT K) ix_tup (pv 0) pe_int (fun _ _ => rfl)) pe_str (nomark _)) (pw_and (pt_cmpR op_gt (pe_callB call_len_seq (by rfl) z_len PySem.boot_len (pa_cons (pe_ix (r := rIxT K) ix_tup (pv 0) pe_int (fun _ _ => rfl)) pa_nil)) pe_int (nomark _)) (pw_and1 (pt_cmpR op_eq (pe_op op_mod (pv 2) pe_int) pe_int (nomark _))))).pt⟩ (pss_oneS (ps_retS (pe_tupS (pa_consS ⟨pe_str⟩ (pa_consS (pe_ixS (r := rIxT K) ix_tup ⟨pv 0⟩ ⟨pe_int⟩ (fun _ _ => rfl)) (pa_consS ⟨pe_op op_catV (pe_slice sl_tupW (pe_ix (r := rIxT K) ix_tup (pv 0) pe_int (fun _ _ => rfl)) po_none (po_some (pe_un un_neg pe_int))) (pe_tup (pa_cons (pe_tup (pa_cons pe_str (pa_cons (pv 1) pa_nil)) : PE _ _ _) pa_nil) : PE _ _ _)⟩ ⟨pa_nil⟩)))))) ⟨pss_nil⟩)
    (pss_consS (ps_ifS ⟨pt_cmpR op_eq (pe_ix (r := rIxT K) ix_tup (pv 0) pe_int (fun _ _ => rfl)) pe_str (nomark _)⟩ (pss_oneS (ps_retS (pe_tupS (pa_consS ⟨pe_str⟩ (pa_consS ⟨pv 1⟩ (pa_consS ⟨pe_slice sl_tupW (pe_op op_catV (pe_ix (r := rIxT K) ix_tup (pv 0) pe_int (fun _ _ => rfl)) (pe_op op_mulT (pe_tup (pa_cons (pe_tup (pa_cons pe_str (pa_cons pe_int pa_nil)) : PE _ _ _) pa_nil) : PE _ _ _) (pe_op op_fdiv (pe_op op_mod (pv 2) pe_int) pe_int))) po_none (po_some pe_int)⟩ ⟨pa_nil⟩)))))) ⟨pss_nil⟩)
    (pss_consS (ps_ifS ⟨pt_cmpR op_eq (pe_ix (r := rIxT K) ix_tup (pv 0) pe_int (fun _ _ => rfl)) pe_str (nomark _)⟩ (pss_oneS (ps_retS (pe_tupS (pa_consS ⟨pe_str⟩ (pa_consS ⟨pv 1⟩ (pa_consS (pe_ixS (r := rIxT K) ix_tup ⟨pv 0⟩ ⟨pe_int⟩ (fun _ _ => rfl)) (pa_consS (pe_ixS (r := rIxT K) ix_tup ⟨pv 0⟩ ⟨pe_int⟩ (fun _ _ => rfl)) ⟨pa_nil⟩))))))) ⟨pss_nil⟩)
    (pss_consS (ps_ifS ⟨pt_cmpR (r := rIn K false) op_in_seq (pe_ix (r := rIxT K) ix_tup (pv 0) pe_int (fun _ _ => rfl)) (pe_tupR [.str "name", .str "ask", .str "stop"] (by rfl) : PE _ _ _) rfl⟩ (pss_oneS (ps_retS (pe_tupS (pa_consS (pe_ixS (r := rIxL K) ix_list (pe_lstS (pa_consS (pe_ixS (r := rIxT K) ix_tup ⟨pv 0⟩ ⟨pe_int⟩ (fun _ _ => rfl)) (pa_consS ⟨pe_str⟩ (pa_consS ⟨pe_str⟩ ⟨pa_nil⟩)))) ⟨pe_op op_mod (pv 2) pe_int⟩ (fun _ _ => rfl)) (pa_consS ⟨pv 1⟩ ⟨pa_nil⟩))))) ⟨pss_nil⟩)
    (pss_oneS (ps_retS ⟨pe_op op_catV (pe_slice sl_tupV (pv 0) po_none (po_some pe_int)) (pe_tupRev rfl (by rfl) z_tuple (by rfl) z_reversed (pa_cons (pe_slice sl_tupV (pv 0) (po_some pe_int) po_none) pa_nil))⟩)))))))), ?_⟩
  have d1 : 1 ≤ sizeLine := by decide
  have d2 : 2 ≤ sizeLine := by decide
  have d3 : 3 ≤ sizeLine := by decide
  have d4 : 4 ≤ sizeLine := by decide
  have dpos := dep_pos t
  obtain ⟨a, hs, us, rfl, ha, hl', hp⟩ := hR.all
  have h0 : atI (V.str t.kd.s :: hs ++ us) 0 = some (.str t.kd.s) := atI_nat (j := 0) rfl
  refine ⟨_, rfl, a, _, 0, _, rfl, rfl, SqT.of ha, h0, rfl, _, rfl, ?_⟩
  refine ite2 (fun c => ?_) (fun c1 => ?_)
  · have z : t.kd = .num := Kd.eq_iff.mp (of_decide_eq_true c)
    cases t with
    | num n =>
      obtain ⟨a', e', ha'⟩ := hR
      cases e'
      refine ⟨_, rfl, a, _, 1, _, rfl, rfl, SqT.of ha', rfl, _, _, rfl, rfl, _, _, rfl, rfl, ⟨by decide, by decide, by decide⟩, _, _, rfl, rfl, (show (0 : Int) < 10 ^ 30 by decide), d2, fun p hp' => ?_⟩
      exact q (.num _) _ _ (same_upd hp') ⟨p, rfl, upd_same⟩ rfl (by simp [Tr.dep])
    | bin o a b => cases o <;> cases z
    | _ => cases z
  refine ⟨_, rfl, a, _, 0, _, rfl, rfl, SqT.of ha, h0, rfl, _, rfl, ?_⟩
  have gaps : t.kd = .gap → ∃ g as b' us', t = .gap g as ∧ H a = some (.tup [.str "gap", .str g, .ref b']) ∧ H b' = some (.tup us') ∧ us'.length ≤ 1000 ∧ Paired (AtRep H) as us' := fun z => by
    cases t with
    | gap g as =>
      obtain ⟨a', b', us', e', ha', hb', hz', hp'⟩ := hR
      cases e'
      exact ⟨g, as, b', us', rfl, ha', hb', hz', hp'⟩
    | bin o a b => cases o <;> cases z
    | _ => cases z
  refine ite2 (fun c2 => ?_) (fun c2 => ?_)
  · have z : t.kd = .gap := Kd.eq_iff.mp (of_decide_eq_true c2)
    obtain ⟨g, as, b', us', rfl, k1, k2, hz', hp'⟩ := gaps z
    refine ⟨_, rfl, a, _, 2, _, rfl, rfl, SqT.of k1, rfl, b', _, rfl, .inr (SqT.of k2), _, _, rfl, rfl, _, rfl, ?_⟩
    refine ite2 (fun c3 => ?_) (fun c3 => ?_)
    · refine ⟨_, rfl, _, _, rfl, rfl, (show (0 : Int) < 2 by decide), rfl, _, rfl, ?_⟩
      refine ite2 (fun c4 => ?_) (fun c4 => ?_)
      · refine ⟨_, rfl, a, _, 1, _, rfl, rfl, SqT.of k1, rfl, ?_⟩
        refine ⟨_, rfl, a, _, 2, _, rfl, rfl, SqT.of k1, rfl, 1, rfl, -1, rfl, b', us', rfl, k2, fun p1 H1 g1 e1 => ?_⟩
        refine ⟨_, rfl, d2, fun p2 hp2 => ⟨d1, fun p3 hp3 => ?_⟩⟩
        have g2 := same_upd (o := .tup [.str "name", .str wd]) hp2
        have g3 := same_upd (o := .tup [.ref p2]) hp3
        have hpos : 0 < us'.length := by have : (0 : Int) < us'.length := of_decide_eq_true c3; omega
        have hcl := cut_neg us' hpos
        refine ⟨p1, p3, _, [.ref p2], rfl, rfl, g3 _ _ (g2 _ _ e1), upd_same, line1000 (by show _ + 1 ≤ 1000; omega), fun r H4 g4 e4 => ⟨d3, fun p hp'' => ?_⟩⟩
        have g5 := same_upd (o := .tup [.str "gap", .str g, .ref r]) hp''
        have gg := g1.trans (g2.trans (g3.trans (g4.trans g5)))
        obtain ⟨as', has'⟩ := paired_cut none (some (-1)) (Paired.mapP hp' fun _ _ z => z.mono gg.tk)
        exact q (.gap g (as' ++ [.name wd])) _ _ gg ⟨p, r, _, rfl, upd_same, g5 _ _ e4, by rw [List.length_append]; show _ + 1 ≤ 1000; omega, paired_append has' (.cons (show AtRep _ (.name wd) (.ref p2) from ⟨p2, rfl, g5 _ _ (g4 _ _ (g3 _ _ upd_same))⟩) .nil)⟩ rfl (by have := dep_gap2 g (as' ++ [.name wd]); omega)
      · refine ⟨_, rfl, a, _, 0, _, rfl, rfl, SqT.of ha, h0, rfl, _, rfl, ?_⟩
        refine iteY rfl ?_
        refine ⟨_, rfl, _, rfl, a, _, 2, _, rfl, rfl, SqT.of k1, rfl, d2, fun p1 hp1 => ⟨d1, fun p2 hp2 => ?_⟩⟩
        have f1 := same_upd (o := .tup [.str "num", .int 0]) hp1
        have f2 := same_upd (o := .tup [.ref p1]) hp2
        have f12 := f1.trans f2
        have m1 := f12 _ _ k2
        have m2 := f2 _ _ (upd_same (H := H) (a := p1) (o := .tup [.str "num", .int 0]))
        have m3 : (upd (upd H p1 (.tup [.str "num", .int 0])) p2 (.tup [.ref p1])) p2 = some (.tup [.ref p1]) := upd_same
        generalize upd (upd H p1 (.tup [.str "num", .int 0])) p2 (.tup [.ref p1]) = H2 at f12 m1 m2 m3 ⊢
        refine ⟨_, rfl, _, _, rfl, rfl, (show (0 : Int) < 3 by decide), _, _, rfl, rfl, ⟨(show (0 : Int) < 2 by decide), (show (2 : Int) < 1073741824 by decide)⟩, p2, .ref p1, rfl, m3, ?_⟩
        have fin : ∀ (x : Addr) (xs : List V) (ls : List Atom) (H3 : Hp), Same H2 H3 → H3 x = some (.tup xs) → Paired (AtRep H3) ls xs → xs.length ≤ 1 → rCatV (.ref b') (.ref x) H3 fun y H4 => ∃ j : Int, (.int 3 : V) = .int j ∧ rSlW y none (some j) H4 fun r H5 => 3 ≤ sizeLine ∧ ∀ p, H5 p = none → Q (.ref p) (upd H5 p (.tup [.str "gap", .str wd, r])) := by
          intro x xs ls H3 f3 ex px lx
          refine ⟨b', x, us', xs, rfl, rfl, f3 _ _ m1, ex, Nat.le_trans (show us'.length + xs.length ≤ 1001 by omega) (small1000 (Nat.le_refl 1000)), fun p4 H4 g4 e4 => ⟨3, rfl, p4, _, rfl, e4, fun p5 H5 g5 e5 => ⟨d3, fun p6 hp6 => ?_⟩⟩⟩
          have g6 := same_upd (o := .tup [.str "gap", .str wd, .ref p5]) hp6
          have gg := f12.trans (f3.trans (g4.trans (g5.trans g6)))
          obtain ⟨as', ha'⟩ := paired_cut none (some 3) (paired_append (Paired.mapP hp' fun _ _ z => z.mono gg.tk) (Paired.mapP px fun _ _ z => z.mono (g4.trans (g5.trans g6)).tk))
          exact q (.gap wd as') _ _ gg ⟨p6, p5, _, rfl, upd_same, g6 _ _ e5, by rw [cut_front _ _ (by decide)]; simp; omega, ha'⟩ rfl (by have := dep_gap2 wd as'; omega)
        rcases (show c % 3 / 2 = 0 ∨ c % 3 / 2 = 1 by omega) with z0 | z0
        · refine .inr ⟨by show V.int (c % 3 / 2) = _; rw [z0], fun p3 hp3 => ?_⟩
          exact fin p3 [] [] _ (same_upd hp3) upd_same .nil (by simp)
        · refine .inl ⟨by show V.int (c % 3 / 2) = _; rw [z0], ?_⟩
          exact fin p2 [.ref p1] [.num 0] _ (.refl _) m3 (.cons ⟨p1, rfl, m2⟩ .nil) (by simp)
    · refine iteF ?_
      refine ⟨_, rfl, a, _, 0, _, rfl, rfl, SqT.of ha, h0, rfl, _, rfl, ?_⟩
      refine iteY rfl ?_
      refine ⟨_, rfl, _, rfl, a, _, 2, _, rfl, rfl, SqT.of k1, rfl, d2, fun p1 hp1 => ⟨d1, fun p2 hp2 => ?_⟩⟩
      have f1 := same_upd (o := .tup [.str "num", .int 0]) hp1
      have f2 := same_upd (o := .tup [.ref p1]) hp2
      have f12 := f1.trans f2
      have m1 := f12 _ _ k2
      have m2 := f2 _ _ (upd_same (H := H) (a := p1) (o := .tup [.str "num", .int 0]))
      have m3 : (upd (upd H p1 (.tup [.str "num", .int 0])) p2 (.tup [.ref p1])) p2 = some (.tup [.ref p1]) := upd_same
      generalize upd (upd H p1 (.tup [.str "num", .int 0])) p2 (.tup [.ref p1]) = H2 at f12 m1 m2 m3 ⊢
      refine ⟨_, rfl, _, _, rfl, rfl, (show (0 : Int) < 3 by decide), _, _, rfl, rfl, ⟨(show (0 : Int) < 2 by decide), (show (2 : Int) < 1073741824 by decide)⟩, p2, .ref p1, rfl, m3, ?_⟩
      have fin : ∀ (x : Addr) (xs : List V) (ls : List Atom) (H3 : Hp), Same H2 H3 → H3 x = some (.tup xs) → Paired (AtRep H3) ls xs → xs.length ≤ 1 → rCatV (.ref b') (.ref x) H3 fun y H4 => ∃ j : Int, (.int 3 : V) = .int j ∧ rSlW y none (some j) H4 fun r H5 => 3 ≤ sizeLine ∧ ∀ p, H5 p = none → Q (.ref p) (upd H5 p (.tup [.str "gap", .str wd, r])) := by
        intro x xs ls H3 f3 ex px lx
        refine ⟨b', x, us', xs, rfl, rfl, f3 _ _ m1, ex, Nat.le_trans (show us'.length + xs.length ≤ 1001 by omega) (small1000 (Nat.le_refl 1000)), fun p4 H4 g4 e4 => ⟨3, rfl, p4, _, rfl, e4, fun p5 H5 g5 e5 => ⟨d3, fun p6 hp6 => ?_⟩⟩⟩
        have g6 := same_upd (o := .tup [.str "gap", .str wd, .ref p5]) hp6
        have gg := f12.trans (f3.trans (g4.trans (g5.trans g6)))
        obtain ⟨as', ha'⟩ := paired_cut none (some 3) (paired_append (Paired.mapP hp' fun _ _ z => z.mono gg.tk) (Paired.mapP px fun _ _ z => z.mono (g4.trans (g5.trans g6)).tk))
        exact q (.gap wd as') _ _ gg ⟨p6, p5, _, rfl, upd_same, g6 _ _ e5, by rw [cut_front _ _ (by decide)]; simp; omega, ha'⟩ rfl (by have := dep_gap2 wd as'; omega)
      rcases (show c % 3 / 2 = 0 ∨ c % 3 / 2 = 1 by omega) with z0 | z0
      · refine .inr ⟨by show V.int (c % 3 / 2) = _; rw [z0], fun p3 hp3 => ?_⟩
        exact fin p3 [] [] _ (same_upd hp3) upd_same .nil (by simp)
      · refine .inl ⟨by show V.int (c % 3 / 2) = _; rw [z0], ?_⟩
        exact fin p2 [.ref p1] [.num 0] _ (.refl _) m3 (.cons ⟨p1, rfl, m2⟩ .nil) (by simp)
  · refine iteF ?_
    have nz : t.kd ≠ .gap := fun z => c2 (by rw [z]; exact decide_eq_true rfl)
    refine ⟨_, rfl, a, _, 0, _, rfl, rfl, SqT.of ha, h0, rfl, _, rfl, iteN (fun z => nz (Kd.eq_iff.mp z)) ?_⟩
    refine ⟨_, rfl, a, _, 0, _, rfl, rfl, SqT.of ha, h0, rfl, _, rfl, ?_⟩
    refine ite2 (fun c3 => ?_) (fun c3 => ?_)
    · have z : t.kd = .lett := Kd.eq_iff.mp (of_decide_eq_true c3)
      cases t with
      | lett x s t =>
        obtain ⟨a', u1, w1, e', ha', r1, r2⟩ := hR
        cases e'
        refine ⟨_, rfl, _, rfl, a, _, 2, _, rfl, rfl, SqT.of ha', rfl, _, rfl, a, _, 3, _, rfl, rfl, SqT.of ha', rfl, d4, fun p hp' => ?_⟩
        have g := same_upd (o := .tup [.str "let", .str wd, u1, w1]) hp'
        exact q (.lett wd s t) _ _ g ⟨p, u1, w1, rfl, upd_same, r1.mono g.tk, r2.mono g.tk⟩ rfl (Nat.le_succ _)
      | bin o a b => cases o <;> cases z
      | _ => cases z
    refine ⟨_, rfl, a, _, 0, _, rfl, rfl, SqT.of ha, h0, d3, fun pc hpc => ⟨pc, _, rfl, .inr (SqT.of upd_same), rfl, rfl, _, rfl, ?_⟩⟩
    have gc := same_upd (o := .tup [.str "name", .str "ask", .str "stop"]) hpc
    show if inV (.str t.kd.s) [.str "name", .str "ask", .str "stop"] = true then _ else _
    rw [in3n]
    have hac := gc _ _ ha
    generalize upd H pc (.tup [.str "name", .str "ask", .str "stop"]) = H1 at gc hac ⊢
    refine ite2 (fun c4 => ?_) (fun c4 => ?_)
    · have z := of_decide_eq_true c4
      refine ⟨_, rfl, a, _, 0, _, rfl, rfl, SqT.of hac, h0, d3, fun pl hpl => ?_⟩
      obtain ⟨v, hv, ev⟩ := atI_in (xs := [V.str t.kd.s, V.str "name", V.str "ask"]) (i := c % 3) (by omega) (by show _ < ((3 : Nat) : Int); omega)
      refine ⟨_, rfl, _, _, rfl, rfl, (show (0 : Int) < 3 by decide), pl, _, _, _, rfl, rfl, SqL.of upd_same, ev, _, rfl, d2, fun p hp' => ?_⟩
      have g2 := (same_upd (o := .lst [V.str t.kd.s, V.str "name", V.str "ask"]) hpl).trans (same_upd (o := .tup [v, .str wd]) hp')
      have hsz : t.size = 1 := by
        cases t with
        | bin o a b => exfalso; cases o <;> (rcases z with z | z | z <;> cases z)
        | name n => rfl
        | ask n => rfl
        | stop n => rfl
        | _ => exfalso; rcases z with z | z | z <;> cases z
      have fin : ∀ (k : Kd), (k = .name ∨ k = .ask ∨ k = .stop) → v = .str k.s → Q (.ref p) (upd (upd H1 pl (.lst [V.str t.kd.s, V.str "name", V.str "ask"])) p (.tup [v, .str wd])) := fun k hk e => by
        subst e
        rcases hk with rfl | rfl | rfl
        · exact q (.name wd) _ _ (gc.trans g2) ⟨p, rfl, upd_same⟩ hsz.symm (by show 1 ≤ _; omega)
        · exact q (.ask wd) _ _ (gc.trans g2) ⟨p, rfl, upd_same⟩ hsz.symm (by show 1 ≤ _; omega)
        · exact q (.stop wd) _ _ (gc.trans g2) ⟨p, rfl, upd_same⟩ hsz.symm (by show 1 ≤ _; omega)
      simp only [List.mem_cons, List.not_mem_nil, or_false] at hv
      rcases hv with e | e | e
      · exact fin t.kd z e
      · exact fin .name (.inl rfl) e
      · exact fin .ask (.inr (.inl rfl)) e
    · have n1 : t.kd ≠ .num := fun z => c1 (by rw [z]; exact decide_eq_true rfl)
      have n3 : t.kd ≠ .lett := fun z => c3 (by rw [z]; exact decide_eq_true rfl)
      have n4 : ¬ (t.kd = .name ∨ t.kd = .ask ∨ t.kd = .stop) := fun z => c4 (decide_eq_true z)
      have hin : t.inr := ⟨by
        cases hk : t.kd with
        | name => exact absurd (.inl hk) n4
        | ask => exact absurd (.inr (.inl hk)) n4
        | stop => exact absurd (.inr (.inr hk)) n4
        | num => exact absurd hk n1
        | gap => exact absurd hk nz
        | _ => rfl, n3⟩
      obtain ⟨hh, hp1, hp3⟩ := head_in hin
      have hs0 : hs = [] := by
        have : hs.length = 0 := by omega
        exact List.eq_nil_of_length_eq_zero this
      subst hs0
      have lus := hp.length
      have hac' : H1 a = some (.tup (.str t.sign :: us)) := hac
      obtain ⟨k1, k2, k3, k4⟩ := cut_head (.str t.sign) us (by omega)
      refine ⟨_, rfl, 1, rfl, a, _, rfl, hac', k3, fun p1 H2 g2 e2 => ?_⟩
      rw [k1] at e2
      refine ⟨_, rfl, 1, rfl, a, _, rfl, g2 _ _ hac', k4, fun p2 H3 g3 e3 => ?_⟩
      rw [k2] at e3
      refine ⟨p2, us, rfl, e3, by omega, fun p4 hp4 => ?_⟩
      have g5 := same_upd (o := .tup us.reverse) hp4
      refine ⟨p1, p4, _, _, rfl, rfl, g5 _ _ (g3 _ _ e2), upd_same, line1000 (by simp; omega), fun r H5 g6 e6 => ?_⟩
      have gg := gc.trans (g2.trans (g3.trans (g5.trans g6)))
      have hpr : Paired (Rep H5) t.parts us := Paired.mapP hp fun _ _ z => z.mono gg.tk
      obtain ⟨h1, h2⟩ := hin
      cases t with
      | say x =>
        cases hpr with | cons r1 hpr => cases hpr; exact q (.say x) _ _ gg ⟨_, _, rfl, e6, r1⟩ rfl (Nat.le_succ _)
      | bin o x y =>
        cases hpr with | cons r1 hpr => cases hpr with | cons r2 hpr => cases hpr; exact q (.bin o y x) _ _ gg ⟨_, _, _, rfl, by rw [e6]; show some (HO.tup [V.str o.kd.s, _, _]) = _; rw [Bin.kd_s], r2, r1⟩ (by simp only [Tr.size]; omega) (by simp only [Tr.dep]; omega)
      | ite x y z =>
        cases hpr with | cons r1 hpr => cases hpr with | cons r2 hpr => cases hpr with | cons r3 hpr => cases hpr; exact q (.ite z y x) _ _ gg ⟨_, _, _, _, rfl, e6, r3, r2, r1⟩ (by simp only [Tr.size]; omega) (by simp only [Tr.dep]; omega)
      | lett x a b => exact absurd rfl h2
      | _ => cases h1
end
end K04
set_option Elab.async false
set_option linter.all false
set_option maxRecDepth 100000
set_option maxHeartbeats 4000000
namespace L2
open PySem
def PthR (t : Tr) : List (Tr × Nat) → Tr → Prop
  | [], c => c = t
  | (s, i) :: r, c => s.parts[i]? = some c ∧ PthR t r s
def FrRep (H : Hp) (p : Tr × Nat) (v : V) : Prop := ∃ a u, v = .ref a ∧ H a = some (.tup [u, .int ((p.1.head + p.2 : Nat) : Int)]) ∧ Rep H p.1 u
theorem FrRep.mono {H H' : Hp} (k : Tk H H') {p : Tr × Nat} {v : V} : FrRep H p v → FrRep H' p v
  | ⟨a, u, e, h, r⟩ => ⟨a, u, e, k _ _ h, r.mono k⟩
def Tr.setP : Tr → Nat → Tr → Tr
  | .say _, _, f => .say f
  | .bin o _ b, 0, f => .bin o f b
  | .bin o a _, _, f => .bin o a f
  | .ite _ b c, 0, f => .ite f b c
  | .ite a _ c, 1, f => .ite a f c
  | .ite a b _, _, f => .ite a b f
  | .lett x _ b, 0, f => .lett x f b
  | .lett x a _, _, f => .lett x a f
  | t, _, _ => t
theorem setP_size {s sub f : Tr} {i : Nat} (h : s.parts[i]? = some sub) (hs : f.size = sub.size) (hd : f.dep ≤ sub.dep + 1) : (s.setP i f).size = s.size ∧ (s.setP i f).dep ≤ s.dep + 1 := by
  cases s with
  | say a => match i, h with | 0, h => cases h; simp only [Tr.setP, Tr.size, Tr.dep]; omega
  | bin o a b => match i, h with
    | 0, h => cases h; simp only [Tr.setP, Tr.size, Tr.dep]; omega
    | 1, h => cases h; simp only [Tr.setP, Tr.size, Tr.dep]; omega
  | ite a b c => match i, h with
    | 0, h => cases h; simp only [Tr.setP, Tr.size, Tr.dep]; omega
    | 1, h => cases h; simp only [Tr.setP, Tr.size, Tr.dep]; omega
    | 2, h => cases h; simp only [Tr.setP, Tr.size, Tr.dep]; omega
  | lett x a b => match i, h with
    | 0, h => cases h; simp only [Tr.setP, Tr.size, Tr.dep]; omega
    | 1, h => cases h; simp only [Tr.setP, Tr.size, Tr.dep]; omega
  | _ => cases h
theorem setP_rep {H H' : Hp} {s sub f : Tr} {i : Nat} {a r : Addr} {xs : List V} {vf : V} (h : s.parts[i]? = some sub) (k : Tk H H') (hR : Rep H s (.ref a)) (ha : H a = some (.tup xs)) (hf : Rep H' f vf) (hr : H' r = some (.tup (xs.take (s.head + i) ++ [vf] ++ xs.drop (s.head + i + 1)))) : Rep H' (s.setP i f) (.ref r) := by
  have hR' := hR.mono k
  have ha' := k _ _ ha
  cases s with
  | say a => match i, h with
    | 0, h =>
      obtain ⟨_, u, e, q, r1⟩ := hR'
      cases e; rw [ha'] at q; cases q
      exact ⟨r, vf, rfl, hr, hf⟩
  | bin o a b => match i, h with
    | 0, h =>
      obtain ⟨_, u, w, e, q, r1, r2⟩ := hR'
      cases e; rw [ha'] at q; cases q
      exact ⟨r, vf, w, rfl, hr, hf, r2⟩
    | 1, h =>
      obtain ⟨_, u, w, e, q, r1, r2⟩ := hR'
      cases e; rw [ha'] at q; cases q
      exact ⟨r, u, vf, rfl, hr, r1, hf⟩
  | ite a b c => match i, h with
    | 0, h =>
      obtain ⟨_, u, w, z, e, q, r1, r2, r3⟩ := hR'
      cases e; rw [ha'] at q; cases q
      exact ⟨r, vf, w, z, rfl, hr, hf, r2, r3⟩
    | 1, h =>
      obtain ⟨_, u, w, z, e, q, r1, r2, r3⟩ := hR'
      cases e; rw [ha'] at q; cases q
      exact ⟨r, u, vf, z, rfl, hr, r1, hf, r3⟩
    | 2, h =>
      obtain ⟨_, u, w, z, e, q, r1, r2, r3⟩ := hR'
      cases e; rw [ha'] at q; cases q
      exact ⟨r, u, w, vf, rfl, hr, r1, r2, hf⟩
  | lett x a b => match i, h with
    | 0, h =>
      obtain ⟨_, u, w, e, q, r1, r2⟩ := hR'
      cases e; rw [ha'] at q; cases q
      exact ⟨r, vf, w, rfl, hr, hf, r2⟩
    | 1, h =>
      obtain ⟨_, u, w, e, q, r1, r2⟩ := hR'
      cases e; rw [ha'] at q; cases q
      exact ⟨r, u, vf, rfl, hr, r1, hf⟩
  | _ => cases h
theorem cut_back (xs : List V) (k : Nat) : cutV xs (some (k : Int)) none = xs.drop k := by
  unfold cutV
  rw [HT.sIx_nat, HT.sIx_none]
  by_cases h : k ≤ xs.length
  · rw [Nat.min_eq_left h, List.take_of_length_le (by simp)]
  · rw [Nat.min_eq_right (by omega), List.drop_of_length_le (Nat.le_refl _), List.drop_of_length_le (by omega)]
    simp
theorem Rep.tup {H : Hp} {t : Tr} {v : V} (h : Rep H t v) : ∃ a xs, v = .ref a ∧ H a = some (.tup xs) := by
  obtain ⟨a, hs, us, e, ha, _⟩ := h.all
  exact ⟨a, _, e, ha⟩
end L2
namespace K04
open PySem PySem.Spec L2 PyProof.Rows
abbrev s_law_changed : Stmt := top 22
theorem sc_law_changed : FnScope ["_law_tree_here", "_law_cell", "_law_word_here", "_law_deep", "_law_way", "_law_part", "_law_at", "_law_found", "_law_around"] ["_law_tree_here", "_law_cell", "_law_word_here"] (defScope s_law_changed) := ⟨rfl, rfl, rfl, by decide +kernel, rfl, by decide +kernel, by decide +kernel⟩
section
variable {P : Program} {w : World} {K : PySem.W.Frag} {mg : Str → Option Value} {base : Heap}
def ChgT (K : PySem.W.Frag) (c : Int) (n : Nat) (cur : Tr) (vc : V) (v0 v2 v4 s6 s7 s8 : Option V) (H : Hp) : Prop := ∃ B : Bool, (B = true → cur.kd.leaf = false ∧ (n : Int) < c % 14) ∧ ∀ Q : Bool → Hp → Prop, Q B H →
    tAnd (tB (tCB (rIsi K) (tCons (tOp (rIxT K) (tVar 5) (tUn (rU fun i => V.int (-i)) (tC (V.int 1)))) (tCons (tC (V.ty "tuple")) tNil))))
      (tAnd (tTest (tOp rNe (tOp (rIxT K) (tVar 5) (tC (V.int 0))) (tC (V.str "gap")))) (tTest (tOp (rI0 fun i j => V.bl (decide (i < j))) (tVar 3) (tOp (rI (fun _ j => 0 < j) fun i j => V.int (i % j)) (tVar 1) (tC (V.int 14))))))
      [v0, some (V.int c), v2, some (V.int (n : Int)), v4, some vc, s6, s7, s8] H Q
theorem chg_test {c : Int} {n : Nat} {cur : Tr} {vc : V} {v0 v2 v4 s6 s7 s8 : Option V} {H : Hp} (hcur : Rep H cur vc) : ChgT K c n cur vc v0 v2 v4 s6 s7 s8 H := by
  have inner : ∀ (a : Addr) (xs : List V) (u : V), vc = .ref a → H a = some (.tup (.str cur.kd.s :: (xs ++ [u]))) → (∃ b ys, u = .ref b ∧ H b = some (.tup ys)) → cur.kd.leaf = false → ChgT K c n cur vc v0 v2 v4 s6 s7 s8 H := fun a xs u e ha hu hlf => by
    obtain ⟨b, ys, rfl, hb⟩ := hu
    refine ⟨decide ((n : Int) < c % 14), fun z => ⟨hlf, of_decide_eq_true z⟩, fun Q hq => ?_⟩
    subst e
    have e1 : atI (V.str cur.kd.s :: (xs ++ [V.ref b])) (-1) = some (.ref b) := atI_last (V.str cur.kd.s :: xs) (.ref b)
    have e0 : atI (V.str cur.kd.s :: (xs ++ [V.ref b])) 0 = some (.str cur.kd.s) := atI_nat (j := 0) rfl
    refine ⟨_, rfl, 1, rfl, a, _, -1, _, rfl, rfl, SqT.of ha, e1, _, "tuple", _, true, rfl, .tup hb, rfl, _, rfl, iteT ?_⟩
    refine ⟨_, rfl, a, _, 0, _, rfl, rfl, SqT.of ha, e0, rfl, _, rfl, ?_⟩
    have ng : (!decide (V.str cur.kd.s = V.str "gap")) = true := by
      rw [decide_eq_false (fun z => ?_)]
      · rfl
      · have : cur.kd = .gap := Kd.eq_iff.mp z
        rw [this] at hlf
        cases hlf
    show if (!decide (V.str cur.kd.s = V.str "gap")) = true then _ else _
    rw [if_pos ng]
    exact ⟨_, rfl, _, rfl, _, _, rfl, rfl, (show (0 : Int) < 14 by decide), _, _, rfl, rfl, _, rfl, hq⟩
  have leafy : ∀ (a : Addr) (x u : V) (T : Value), vc = .ref a → H a = some (.tup [x, u]) → TyOf K H u T → PySem.W.kitOne K T (.type "tuple") = some false → ChgT K c n cur vc v0 v2 v4 s6 s7 s8 H := fun a x u T e ha ty hk => by
    refine ⟨false, (nomatch ·), fun Q hq => ?_⟩
    subst e
    exact ⟨_, rfl, 1, rfl, a, _, -1, u, rfl, rfl, SqT.of ha, atI_last [x] u, _, "tuple", _, false, rfl, ty, hk, _, rfl, hq⟩
  cases cur with
  | num m => obtain ⟨a, e, h⟩ := hcur; exact leafy a _ _ _ e h (.int m) rfl
  | name m => obtain ⟨a, e, h⟩ := hcur; exact leafy a _ _ _ e h (.str m) rfl
  | ask m => obtain ⟨a, e, h⟩ := hcur; exact leafy a _ _ _ e h (.str m) rfl
  | stop m => obtain ⟨a, e, h⟩ := hcur; exact leafy a _ _ _ e h (.str m) rfl
  | gap g as =>
    obtain ⟨a, b, us, rfl, h, h', _⟩ := hcur
    refine ⟨false, (nomatch ·), fun Q hq => ?_⟩
    refine ⟨_, rfl, 1, rfl, a, _, -1, .ref b, rfl, rfl, SqT.of h, atI_last [_, _] _, _, "tuple", _, true, rfl, .tup h', rfl, _, rfl, iteT ?_⟩
    exact ⟨_, rfl, a, _, 0, _, rfl, rfl, SqT.of h, rfl, rfl, _, rfl, hq⟩
  | say x => obtain ⟨a, u, e, h, r⟩ := hcur; exact inner a [] u e h r.tup rfl
  | bin o x y => obtain ⟨a, u, w', e, h, r, r2⟩ := hcur; exact inner a [u] w' e (by rw [h]; show some (HO.tup [V.str o.s, u, w']) = some (HO.tup [V.str o.kd.s, u, w']); rw [Bin.kd_s]) r2.tup (by cases o <;> rfl)
  | ite x y z => obtain ⟨a, u, w', u3, e, h, r, r2, r3⟩ := hcur; exact inner a [u, w'] u3 e h r3.tup rfl
  | lett x y z => obtain ⟨a, u, w', e, h, r, r2⟩ := hcur; exact inner a [.str x, u] w' e h r2.tup rfl
def sp_chg : Sp := fun vs H Q _ => ∃ (t : Tr) (v : V) (c : Int) (wd : Str), vs = [v, .int c, .str wd] ∧ Rep H t v ∧ ∀ t' v' H', Same H H' → Rep H' t' v' → t'.size = t.size → t'.dep ≤ t.dep + 1 → Q v' H'
theorem ok_chg {k : Nat} {f g1 : Addr} {fd gd1 : FuncData} (F : Fun K "_law_changed" "_law_changed" s_law_changed f fd) (z_len : mg "len" = none) (z_isinstance : mg "isinstance" = none) (z_tuple : mg "tuple" = none) (z_reversed : mg "reversed" = none)
    (G_law_otherwise : FnB P w K mg base k "_law_otherwise" g1 gd1 ["_law_part", "_law_word_here", "_law_cell"] sp_other) : FnOk P w K mg base CX0 (k + 1) f fd ["_law_tree_here", "_law_cell", "_law_word_here"] sp_chg := by
  refine F.ok sc_law_changed (fun vs H Q E h => ?_) (fun cdv A outer s H vs Q E hr h => ?_)
  · obtain ⟨t, v, c, wd, rfl, _⟩ := h
    rfl
  obtain ⟨t, v, c, wd, rfl, hR, q⟩ := h
  refine ⟨_, (pss_cons (ps_set (i := 3) sc_law_changed.nd rfl (Or.inl rfl) pe_int)
    (pss_cons (ps_set (i := 4) sc_law_changed.nd rfl (Or.inl rfl) (pe_lst pa_nil : PE _ _ _))
    (pss_cons (ps_set (i := 5) sc_law_changed.nd rfl (Or.inl rfl) (pv 0))
    (pss_cons (ps_while PassesOwn.never (pw_and (pt_val (pe_callB call_isi (by rfl) z_isinstance PyProof.Rows.boot_isinstance (pa_cons (pe_ix (r := rIxT K) ix_tup (pv 5) (pe_un un_neg pe_int) (fun _ _ => rfl)) (pa_cons (pe_bltn (v := .ty _) (by rfl) z_tuple PyProof.Rows.boot_tuple (by rfl)) pa_nil)))) (pw_and (pt_cmpR op_ne (pe_ix (r := rIxT K) ix_tup (pv 5) pe_int (fun _ _ => rfl)) pe_str (nomark _)) (pw_and1 (pt_cmpR op_lt (pv 3) (pe_op op_mod (pv 1) pe_int) (nomark _))))).pt (pss_cons (ps_set (i := 6) sc_law_changed.nd rfl (Or.inl rfl) (pe_op op_sub (pe_op op_sub (pe_callB call_len_seq (by rfl) z_len PySem.boot_len (pa_cons (pv 5) pa_nil)) pe_int) (pe_op op_mod (pe_op op_fdiv (pv 1) (pe_op op_add pe_int (pv 3))) (pe_op op_sub (pe_callB call_len_seq (by rfl) z_len PySem.boot_len (pa_cons (pv 5) pa_nil)) pe_int))))
    (pss_cons (ps_if (pt_not (pt_val (pe_callB call_isi (by rfl) z_isinstance PyProof.Rows.boot_isinstance (pa_cons (pe_ix (r := rIxT K) ix_tup (pv 5) (pv 6) (fun _ _ => rfl)) (pa_cons (pe_bltn (v := .ty _) (by rfl) z_tuple PyProof.Rows.boot_tuple (by rfl)) pa_nil))))) (pss_one (ps_set (i := 6) sc_law_changed.nd rfl (Or.inl rfl) (pe_op op_sub (pe_callB call_len_seq (by rfl) z_len PySem.boot_len (pa_cons (pv 5) pa_nil)) pe_int))) pss_nil)
    (pss_cons (ps_expr (pe_bm PySem.F.plainAttrs_list PySem.F.slot_list_append PySem.F.type_list_append mt_append (pv 4) (pa_cons (pe_tup (pa_cons (pv 5) (pa_cons (pv 6) pa_nil)) : PE _ _ _) pa_nil)))
    (pss_cons (ps_set (i := 5) sc_law_changed.nd rfl (Or.inl rfl) (pe_ix (r := rIxT K) ix_tup (pv 5) (pv 6) (fun _ _ => rfl)))
    (pss_one (ps_set (i := 3) sc_law_changed.nd rfl (Or.inl rfl) (pe_op op_add (pv 3) pe_int))))))))
    (pss_cons (ps_set (i := 7) sc_law_changed.nd rfl (Or.inl rfl) (pe_call G_law_otherwise.ok hr (by rfl) G_law_otherwise.gl G_law_otherwise.kp G_law_otherwise.bd .nil pass0 (pa_cons (pv 5) (pa_cons (pv 2) (pa_cons (pe_op op_fdiv (pv 1) pe_int) pa_nil)))))
    (pss_cons (ps_for PassesOwn.never rfl (pi_revL (by rfl) z_reversed (pa_cons (pv 4) pa_nil)) (pg_tup rfl (pgs_cons (pg_name (i := 8) sc_law_changed.nd rfl (Or.inl rfl)) (pgs_cons (pg_name (i := 6) sc_law_changed.nd rfl (Or.inl rfl)) pgs_nil))) (pss_one (ps_set (i := 7) sc_law_changed.nd rfl (Or.inl rfl) (pe_op op_catV (pe_op op_catV (pe_slice sl_tupV (pv 8) po_none (po_some (pv 6))) (pe_tup (pa_cons (pv 7) pa_nil) : PE _ _ _)) (pe_slice sl_tupV (pv 8) (po_some (pe_op op_add (pv 6) pe_int)) po_none)))))
    (pss_one (ps_ret (pv 7))))))))), ?_⟩
  have d1 : 1 ≤ sizeLine := by decide
  have d2 : 2 ≤ sizeLine := by decide
  refine ⟨(by show 0 ≤ sizeLine; decide), fun wy hwy => ⟨_, rfl, ?_⟩⟩
  have g0 := same_upd (o := .lst []) hwy
  refine ⟨fun m σ' H' => ∃ (ws : List V) (fr : List (Tr × Nat)) (cur : Tr) (vc : V) (s6 s7 s8 : Option V), σ' = [some v, some (.int c), some (.str wd), some (.int (fr.length : Int)), some (.ref wy), some vc, s6, s7, s8] ∧ Same H H' ∧ H' wy = some (.lst ws) ∧ Paired (FrRep H') fr ws ∧ PthR t fr.reverse cur ∧ Rep H' cur vc ∧ m + fr.length = 14,
    ⟨14, [], [], t, v, none, none, none, rfl, g0, upd_same, .nil, rfl, hR.mono g0.tk, rfl⟩, ?_⟩
  rintro m σ' Hw ⟨ws, fr, cur, vc, s6, s7, s8, rfl, gw, ew, hfr, hpt, hcur, hm⟩
  have lfr := hfr.length
  obtain ⟨B, hB, hT⟩ := chg_test (K := K) (c := c) (n := fr.length) (v0 := some v) (v2 := some (.str wd)) (v4 := some (.ref wy)) (s6 := s6) (s7 := s7) (s8 := s8) hcur
  refine hT _ ?_
  cases B with
  | true =>
    obtain ⟨hlf, hdeep⟩ := hB rfl
    rw [if_pos rfl]
    obtain ⟨a, hs, us, rfl, ha, hl', hp⟩ := hcur.all
    have lus := hp.length
    have hn1 : 1 ≤ cur.parts.length := by
      cases cur with
      | say x => exact Nat.le_refl _
      | bin o x y => show 1 ≤ 2; omega
      | ite x y z => show 1 ≤ 3; omega
      | lett x y z => show 1 ≤ 2; omega
      | _ => cases hlf
    have hh1 := head_pos cur
    have hlen : (V.str cur.sign :: hs ++ us).length = cur.head + us.length := by rw [List.length_append, List.length_cons]; omega
    have hps : us.length ≤ 3 := by rw [← lus]; cases cur <;> simp [Tr.parts]
    have hhd : cur.head ≤ 3 := by cases cur <;> simp [Tr.head]
    have atU : ∀ (i : Nat), i < us.length → ∃ child u, cur.parts[i]? = some child ∧ Rep Hw child u ∧ atI (V.str cur.sign :: hs ++ us) ((cur.head + i : Nat) : Int) = some u := fun i hi => by
      have hx : us[i]? = some us[i] := by simp [hi]
      obtain ⟨ch, ech, rch⟩ := paired_get hp hx
      refine ⟨ch, us[i], ech, rch, atI_nat ?_⟩
      rw [List.getElem?_append_right (by rw [List.length_cons]; omega), List.length_cons]
      rw [show cur.head + i - (hs.length + 1) = i by omega]
      exact hx
    refine ⟨_, fun _ _ h => h, ?_⟩
    refine ⟨_, rfl, a, _, rfl, .inr (SqT.of ha), _, _, rfl, rfl, _, rfl, _, rfl, _, _, rfl, rfl, _, _, rfl, rfl, ⟨(by omega), (by omega)⟩, _, rfl, a, _, rfl, .inr (SqT.of ha), _, _, rfl, rfl, _, _, rfl, rfl, (by rw [hlen]; omega), _, _, rfl, rfl, ?_⟩
    dsimp only
    generalize c / (14 + (fr.length : Int)) = X
    obtain ⟨y, hy, hy0, hy1⟩ : ∃ y : Nat, ((V.str cur.sign :: hs ++ us).length : Int) - 1 - X % (((V.str cur.sign :: hs ++ us).length : Int) - 1) = (y : Int) ∧ 1 ≤ y ∧ y < cur.head + us.length := by
      have h1 := Int.emod_nonneg X (show (((V.str cur.sign :: hs ++ us).length : Int) - 1) ≠ 0 by rw [hlen]; omega)
      have h2 := Int.emod_lt_of_pos X (show (0 : Int) < (((V.str cur.sign :: hs ++ us).length : Int) - 1) by rw [hlen]; omega)
      rw [hlen] at h1 h2 ⊢
      exact ⟨(((cur.head + us.length : Nat) : Int) - 1 - X % (((cur.head + us.length : Nat) : Int) - 1)).toNat, by omega, by omega, by omega⟩
    rw [hy]
    by_cases hyh : cur.head ≤ y
    · obtain ⟨i, hi⟩ : ∃ i, y = cur.head + i := ⟨y - cur.head, by omega⟩
      subst hi
      obtain ⟨child, u, ech, rch, eat⟩ := atU i (by omega)
      obtain ⟨b, ys, eb, hb⟩ := rch.tup
      refine ⟨_, rfl, _, rfl, a, _, _, _, rfl, rfl, SqT.of ha, eat, _, "tuple", _, true, rfl, by rw [eb]; exact .tup hb, rfl, _, rfl, ?_⟩
      refine iteF ?_
      refine ⟨_, rfl, .inl ⟨rfl, _, SqL.of ew⟩, _, rfl, _, rfl, d2, fun p hp' => ?_⟩
      have gp := same_upd (o := .tup [.ref a, .int ((cur.head + i : Nat) : Int)]) hp'
      refine ⟨wy, _, _, rfl, rfl, gp _ _ ew, small1000 (by omega), ?_⟩
      have kw : Tk Hw (upd (upd Hw p (.tup [.ref a, .int ((cur.head + i : Nat) : Int)])) wy (.lst (ws ++ [.ref p]))) := gp.tk.trans (Tk.lst (gp _ _ ew))
      refine ⟨_, rfl, _, rfl, a, _, ((cur.head + i : Nat) : Int), _, rfl, rfl, SqT.of (kw _ _ ha), eat, ?_⟩
      have ed : ((fr ++ [(cur, i)]).length : Int) = (fr.length : Int) + 1 := by simp
      refine ⟨_, rfl, _, _, rfl, rfl, m - 1, by omega, ws ++ [.ref p], fr ++ [(cur, i)], child, u, some (.int ((cur.head + i : Nat) : Int)), s7, s8, by rw [ed]; rfl, same_set (gw.trans gp) hwy, upd_same, ?_, ?_, rch.mono kw, by simp; omega⟩
      · exact paired_append (Paired.mapP hfr fun _ _ z => z.mono kw) (.cons ⟨p, .ref a, rfl, Tk.lst (gp _ _ ew) _ _ upd_same, hcur.mono kw⟩ .nil)
      · rw [List.reverse_append]
        exact ⟨ech, hpt⟩
    · have hk : cur.kd = .lett := by
        have : hs ≠ [] := fun z => by rw [z] at hl'; simp at hl'; omega
        cases cur with
        | lett x y z => rfl
        | say x => exact absurd (List.eq_nil_of_length_eq_zero (by have : hs.length + 1 = 1 := hl'; omega)) this
        | bin o x y => exact absurd (List.eq_nil_of_length_eq_zero (by have : hs.length + 1 = 1 := hl'; omega)) this
        | ite x y z => exact absurd (List.eq_nil_of_length_eq_zero (by have : hs.length + 1 = 1 := hl'; omega)) this
        | _ => cases hlf
      have hx1 : ∃ x, atI (V.str cur.sign :: hs ++ us) ((y : Nat) : Int) = some (.str x) := by
        cases cur with
        | lett x s1 s2 =>
          obtain ⟨a', u1, w1, e', ha', _⟩ := hcur
          cases e'
          rw [ha'] at ha
          have e1 : [V.str "let", V.str x, u1, w1] = V.str "let" :: hs ++ us := by injection ha with ha; injection ha
          have hy2 : y = 1 := by have : ¬ 2 ≤ y := hyh; omega
          subst hy2
          refine ⟨x, ?_⟩
          show atI (V.str "let" :: hs ++ us) ((1 : Nat) : Int) = _
          rw [← e1]
          exact atI_nat rfl
        | bin o x y => cases o <;> cases hk
        | _ => cases hk
      obtain ⟨x, ex⟩ := hx1
      obtain ⟨child, u, ech, rch, eat⟩ := atU (us.length - 1) (by omega)
      refine ⟨_, rfl, _, rfl, a, _, _, _, rfl, rfl, SqT.of ha, ex, _, "tuple", _, false, rfl, .str x, rfl, _, rfl, iteT ?_⟩
      refine ⟨_, rfl, a, _, rfl, .inr (SqT.of ha), _, _, rfl, rfl, ?_⟩
      have eL : ((V.str cur.sign :: hs ++ us).length : Int) - 1 = ((cur.head + (us.length - 1) : Nat) : Int) := by rw [hlen]; omega
      dsimp only
      rw [eL]
      refine ⟨_, rfl, .inl ⟨rfl, _, SqL.of ew⟩, _, rfl, _, rfl, d2, fun p hp' => ?_⟩
      have gp := same_upd (o := .tup [.ref a, .int ((cur.head + (us.length - 1) : Nat) : Int)]) hp'
      refine ⟨wy, _, _, rfl, rfl, gp _ _ ew, small1000 (by omega), ?_⟩
      have kw : Tk Hw (upd (upd Hw p (.tup [.ref a, .int ((cur.head + (us.length - 1) : Nat) : Int)])) wy (.lst (ws ++ [.ref p]))) := gp.tk.trans (Tk.lst (gp _ _ ew))
      refine ⟨_, rfl, _, rfl, a, _, ((cur.head + (us.length - 1) : Nat) : Int), _, rfl, rfl, SqT.of (kw _ _ ha), eat, ?_⟩
      have ed : ((fr ++ [(cur, us.length - 1)]).length : Int) = (fr.length : Int) + 1 := by simp
      refine ⟨_, rfl, _, _, rfl, rfl, m - 1, by omega, ws ++ [.ref p], fr ++ [(cur, us.length - 1)], child, u, some (.int ((cur.head + (us.length - 1) : Nat) : Int)), s7, s8, by rw [ed]; rfl, same_set (gw.trans gp) hwy, upd_same, ?_, ?_, rch.mono kw, by simp; omega⟩
      · exact paired_append (Paired.mapP hfr fun _ _ z => z.mono kw) (.cons ⟨p, .ref a, rfl, Tk.lst (gp _ _ ew) _ _ upd_same, hcur.mono kw⟩ .nil)
      · rw [List.reverse_append]
        exact ⟨ech, hpt⟩
  | false =>
    rw [if_neg Bool.false_ne_true]
    refine ⟨_, rfl, _, rfl, _, rfl, _, _, rfl, rfl, ⟨(show (0 : Int) < 3 by decide), (show (3 : Int) < 1073741824 by decide)⟩, cur, vc, wd, _, rfl, hcur, fun t' v' H1 g1 r1 sz1 dd1 => ?_⟩
    refine ⟨_, rfl, wy, rfl, ws, SqL.of (g1 _ _ ew), ?_⟩
    refine for_revL (xs := ws) (fun i σ' H' => ∃ (f : Tr) (vf : V) (sub : Tr) (s6 s8 : Option V), σ' = [some v, some (.int c), some (.str wd), some (.int (fr.length : Int)), some (.ref wy), some vc, s6, some vf, s8] ∧ Same H1 H' ∧ Rep H' f vf ∧ PthR t (fr.reverse.drop i) sub ∧ f.size = sub.size ∧ f.dep ≤ sub.dep + 1) ?_ ?_ ?_ ?_
    · exact ⟨t', v', cur, s6, s8, rfl, .refl _, r1, hpt, sz1, dd1⟩
    · rintro i σ1 H2 _ ⟨f, vf, sub, s6, s8, rfl, g2, rf, hp2, hs2, hd2⟩
      exact SqL.of (g2 _ _ (g1 _ _ ew))
    · rintro i x σ1 H2 hi hx ⟨f, vf, sub, s6, s8, rfl, g2, rf, hp2, hs2, hd2⟩
      obtain ⟨⟨s', i'⟩, ep, rp⟩ := paired_get hfr hx
      obtain ⟨b, u, rfl, hb, ru⟩ := rp.mono (g1.trans g2).tk
      dsimp only at hb ru
      have er : fr.reverse[i]? = some (s', i') := by
        rw [List.getElem?_reverse (by omega), lfr]
        exact ep
      have dr : fr.reverse.drop i = (s', i') :: fr.reverse.drop (i + 1) := by
        obtain ⟨hl, e⟩ := List.getElem?_eq_some_iff.mp er
        rw [List.drop_eq_getElem_cons hl, e]
      rw [dr] at hp2
      obtain ⟨hpi, hp3⟩ := hp2
      obtain ⟨au, xs, eu, hxs⟩ := ru.tup
      subst eu
      have hlx : s'.head + i' < xs.length ∧ 1 ≤ s'.head ∧ xs.length ≤ 6 := by
        obtain ⟨a3, hs3, us3, e3, ha3, hl3, hp3'⟩ := ru.all
        cases e3
        rw [hxs] at ha3
        cases ha3
        have := (List.getElem?_eq_some_iff.mp hpi).1
        have q1 : s'.parts.length ≤ 3 := by cases s' <;> simp [Tr.parts]
        have q2 : s'.head ≤ 3 := by cases s' <;> simp [Tr.head]
        have q3 := head_pos s'
        rw [List.length_append, List.length_cons, ← hp3'.length]
        omega
      refine ⟨b, _, rfl, SqT.of hb, rfl, _, _, rfl, _, _, rfl, rfl, ?_⟩
      have e1 : cutV xs none (some ((s'.head + i' : Nat) : Int)) = xs.take (s'.head + i') := by rw [cut_front _ _ (by omega), Int.toNat_natCast]
      have e2 : cutV xs (some (((s'.head + i' : Nat) : Int) + 1)) none = xs.drop (s'.head + i' + 1) := cut_back xs (s'.head + i' + 1)
      refine ⟨_, rfl, _, rfl, _, rfl, au, xs, rfl, hxs, fun z => ?_, fun p1 H3 g3 c1 => ?_⟩
      · have := z.2
        rw [HT.sIx_nat] at this
        omega
      rw [e1] at c1
      refine ⟨_, rfl, d1, fun p2 hp2' => ?_⟩
      have g4 := same_upd (o := .tup [vf]) hp2'
      refine ⟨p1, p2, _, [vf], rfl, rfl, g4 _ _ c1, upd_same, ?_, fun p3 H4 g5 c3 => ?_⟩
      · exact line1000 (by simp; omega)
      refine ⟨_, rfl, _, rfl, _, _, rfl, rfl, _, rfl, au, xs, rfl, g5 _ _ (g4 _ _ (g3 _ _ hxs)), fun z => ?_, fun p4 H5 g6 c4 => ?_⟩
      · have z1 : HT.sIx xs.length 0 (some ((s'.head + i' + 1 : Nat) : Int)) = 0 := z.1
        rw [HT.sIx_nat] at z1
        omega
      rw [e2] at c4
      refine ⟨p3, p4, _, _, rfl, rfl, g6 _ _ c3, c4, ?_, fun p5 H6 g7 c5 => ?_⟩
      · exact line1000 (by simp; omega)
      have gB := g3.trans (g4.trans (g5.trans (g6.trans g7)))
      have sz := setP_size hpi hs2 hd2
      exact ⟨s'.setP i' f, .ref p5, s', _, _, rfl, g2.trans gB, setP_rep hpi gB.tk ru hxs (rf.mono gB.tk) c5, hp3, sz.1, sz.2⟩
    · rintro σ1 H2 ⟨f, vf, sub, s6, s8, rfl, g2, rf, hp2, hs2, hd2⟩
      rw [List.drop_of_length_le (by rw [List.length_reverse]; omega)] at hp2
      have e : sub = t := hp2
      subst e
      exact ⟨_, rfl, q f vf _ (gw.trans (g1.trans g2)) rf hs2 hd2⟩
end
end K04
set_option Elab.async false
set_option linter.all false
set_option maxRecDepth 100000
set_option maxHeartbeats 4000000
namespace L2
open PySem
theorem deeps_atoms (bs : List Str) : ∀ as : List Atom, Dt.deeps (as.map (bareA bs)) ≤ 2
  | [] => by simp [Dt.deeps]
  | a :: as => by
    have ih := deeps_atoms bs as
    have h1 : (bareA bs a).deep ≤ 2 := by
      cases a with
      | name x =>
        show (bareN x bs).deep ≤ 2
        unfold bareN
        cases keyB x bs.reverse <;> simp [keyD, Dt.deep, Dt.deeps]
      | num n => simp [bareA, bareL, Atom.lf, dtL, Dt.deep, Dt.deeps]
      | gap g => simp [bareA, bareL, Atom.lf, dtL, Dt.deep, Dt.deeps]
    simp only [List.map_cons, Dt.deeps]
    omega
theorem bare_deep : ∀ (t : Tr) (bs : List Str), (bare t bs).deep ≤ t.dep + 3
  | .num _, bs => by simp [bare, Dt.deep, Dt.deeps]
  | .name x, bs => by
    show (bareN x bs).deep ≤ _
    unfold bareN
    cases keyB x bs.reverse <;> simp [keyD, Dt.deep, Dt.deeps]
  | .ask _, bs => by simp [bare, Dt.deep, Dt.deeps]
  | .stop _, bs => by simp [bare, Dt.deep, Dt.deeps]
  | .gap g as, bs => by
    have := deeps_atoms bs as
    have := dep_pos (.gap g as)
    simp only [bare, Dt.deep, Dt.deeps]
    omega
  | .say a, bs => by
    have := bare_deep a bs
    simp only [bare, Dt.deep, Dt.deeps, Tr.dep]
    omega
  | .bin o a b, bs => by
    have := bare_deep a bs
    have := bare_deep b bs
    simp only [bare, Dt.deep, Dt.deeps, Tr.dep]
    omega
  | .ite a b c, bs => by
    have := bare_deep a bs
    have := bare_deep b bs
    have := bare_deep c bs
    simp only [bare, Dt.deep, Dt.deeps, Tr.dep]
    omega
  | .lett x a b, bs => by
    have := bare_deep a bs
    have := bare_deep b (bs ++ [x])
    simp only [bare, Dt.deep, Dt.deeps, Tr.dep]
    omega
theorem SameX.newS {c : Addr} {H H' : Hp} {o : HO} (h : H c = none) (g : SameX c (upd H c o) H') : Same H H' := fun b u q => by
  have n : b ≠ c := ne_of_none q h
  exact g b u n (by rw [upd_ne n]; exact q)
end L2
namespace K04
open PySem PySem.Spec L2 PyProof.Rows
abbrev s_law_told : Stmt := top 23
theorem sc_law_told : FnScope ["_law_one", "_law_other", "_law_due", "_law_found"] ["_law_one", "_law_other"] (defScope s_law_told) := ⟨rfl, rfl, rfl, by decide +kernel, rfl, by decide +kernel, by decide +kernel⟩
abbrev s_law : Stmt := top 24
theorem sc_law : FnScope ["_law_script", "_law_words_here", "_law_tree_here", "_law_twin", "_law_cell", "_law_word_here", "_law_other", "_law_last"] ["_law_script"] (defScope s_law) := ⟨rfl, rfl, rfl, by decide +kernel, rfl, by decide +kernel, by decide +kernel⟩
section
variable {P : Program} {w : World} {K : PySem.W.Frag} {mg : Str → Option Value} {base : Heap}
def sp_told : Sp := fun vs H Q _ => ∃ (t u : Tr) (v1 v2 : V), vs = [v1, v2] ∧ Rep H t v1 ∧ Rep H u v2 ∧ t.size ≤ 500 ∧ u.size ≤ 500 ∧ t.dep ≤ 20 ∧ u.dep ≤ 20 ∧ ∀ H', Same H H' → Q (.bl true) H'
theorem ok_told {k : Nat} {f g1 g2 : Addr} {fd gd1 gd2 : FuncData} (F : Fun K "_law_told" "_law_told" s_law_told f fd) (z_isinstance : mg "isinstance" = none) (z_bool : mg "bool" = none)
    (G_law_bare : FnB P w K mg base k "_law_bare" g1 gd1 ["_law_tree_here", "_law_bound"] (sp_bare 20)) (G_alike : FnB P w K mg base k "alike" g2 gd2 ["one", "other"] sp_alike) : FnOk P w K mg base CX0 (k + 1) f fd ["_law_one", "_law_other"] sp_told := by
  refine F.ok sc_law_told (fun vs H Q E h => ?_) (fun cdv A outer s H vs Q E hr h => ?_)
  · obtain ⟨t, u, v1, v2, rfl, _⟩ := h
    rfl
  obtain ⟨t, u, v1, v2, rfl, hR, hS, s1, s2, e1, e2, q⟩ := h
  have hu5 := hu150 hr
  refine ⟨_, (pss_cons (ps_set (i := 2) sc_law_told.nd rfl (Or.inl rfl) (pe_cmpR (op_eqD hu5) (pe_call G_law_bare.ok hr (by rfl) G_law_bare.gl G_law_bare.kp G_law_bare.bd .nil pass0 (pa_cons (pv 0) (pa_cons (pe_tup pa_nil : PE _ _ _) pa_nil))) (pe_call G_law_bare.ok hr (by rfl) G_law_bare.gl G_law_bare.kp G_law_bare.bd .nil pass0 (pa_cons (pv 1) (pa_cons (pe_tup pa_nil : PE _ _ _) pa_nil))) (nomark _)))
    (pss_cons (ps_for PassesOwn.never rfl (pi_list (pe_lst (pa_cons (pe_call G_alike.ok hr (by rfl) G_alike.gl G_alike.kp G_alike.bd .nil pass0 (pa_cons (pv 0) (pa_cons (pv 1) pa_nil))) (pa_cons (pe_call G_alike.ok hr (by rfl) G_alike.gl G_alike.kp G_alike.bd .nil pass0 (pa_cons (pv 1) (pa_cons (pv 0) pa_nil))) pa_nil)) : PE _ _ _)) (pg_name (i := 3) sc_law_told.nd rfl (Or.inl rfl)) (pss_one (ps_if (pw_or (pt_not (pt_val (pe_callB call_isi (by rfl) z_isinstance PyProof.Rows.boot_isinstance (pa_cons (pv 3) (pa_cons (pe_bltn (v := .ty _) (by rfl) z_bool PyProof.Rows.boot_bool (by rfl)) pa_nil))))) (pw_or1 (pt_cmpR op_ne (pv 3) (pv 2) (nomark _)))).pt (pss_one (ps_ret pe_bl)) pss_nil)))
    (pss_one (ps_ret pe_bl)))), ?_⟩
  have d0 : 0 ≤ sizeLine := by decide
  refine ⟨_, rfl, d0, fun p1 hp1 => ?_⟩
  have g1 := same_upd (o := .tup []) hp1
  refine ⟨t, v1, p1, [], rfl, hR.mono g1.tk, e1, upd_same, by simp; omega, fun x1 H1 f1 dr1 => ?_⟩
  refine ⟨_, rfl, d0, fun p2 hp2 => ?_⟩
  have g2 := same_upd (o := .tup []) hp2
  have gA := g1.trans (f1.trans g2)
  refine ⟨u, v2, p2, [], rfl, hS.mono gA.tk, e2, upd_same, by simp; omega, fun x2 H2 f2 dr2 => ?_⟩
  obtain ⟨sg, r, eb, _⟩ := bare_tag t []
  obtain ⟨sg', r', eb', _⟩ := bare_tag u []
  have dp := bare_deep t []
  have hD : Dt.beqs (.str sg :: r) (.str sg' :: r') = decide (bare t [] = bare u []) := by
    rw [eb, eb', Bool.eq_iff_iff, Dt.beqs_iff, decide_eq_true_iff]
    simp
  rw [eb] at dr1 dp
  rw [eb'] at dr2
  refine ⟨_, _, dr1.mono (g2.trans f2).tk, dr2, by omega, ?_⟩
  rw [if_neg Bool.false_ne_true, hD]
  have gB := gA.trans f2
  refine ⟨_, rfl, _, rfl, t, u, v1, v2, rfl, hR.mono gB.tk, hS.mono gB.tk, s1, fun H3 f3 => ?_⟩
  have gC := gB.trans f3
  refine ⟨_, rfl, _, rfl, u, t, v2, v1, rfl, hS.mono gC.tk, hR.mono gC.tk, s2, fun H4 f4 => ?_⟩
  have gD := gC.trans f4
  refine ⟨(by show 2 ≤ sizeLine; decide), fun pl hpl => ?_⟩
  have eD : decide (bare u [] = bare t []) = decide (bare t [] = bare u []) := by
    rw [Bool.eq_iff_iff, decide_eq_true_iff, decide_eq_true_iff]
    exact ⟨Eq.symm, Eq.symm⟩
  rw [eD]
  generalize decide (bare t [] = bare u []) = D
  have g5 := same_upd (o := .lst [V.bl D, V.bl D]) hpl
  have epl : (upd H4 pl (.lst [V.bl D, V.bl D])) pl = some (.lst [V.bl D, V.bl D]) := upd_same
  generalize upd H4 pl (.lst [V.bl D, V.bl D]) = H5 at g5 epl ⊢
  refine ⟨pl, rfl, ⟨_, SqL.of epl⟩, ?_⟩
  refine for_list (xs := [V.bl D, V.bl D]) (fun j σ' H' => ∃ s3 : Option V, σ' = [some v1, some v2, some (.bl D), s3] ∧ H' = H5) ⟨none, rfl, rfl⟩ ?_ ?_ ?_
  · rintro j σ1 H6 _ ⟨s3, rfl, rfl⟩
    exact SqL.of epl
  · rintro j x σ1 H6 hx ⟨s3, rfl, rfl⟩
    have ex : x = .bl D := by
      match j, hx with
      | 0, hx => cases hx; rfl
      | 1, hx => cases hx; rfl
    subst ex
    refine ⟨_, rfl, _, "bool", _, true, rfl, .bl D, rfl, _, rfl, iteF ?_⟩
    refine ⟨_, rfl, _, rfl, rfl, _, rfl, ?_⟩
    show if (!decide (V.bl D = V.bl D)) = true then _ else _
    rw [decide_eq_true rfl, if_neg (by decide)]
    exact ⟨_, rfl, rfl⟩
  · rintro σ1 H6 ⟨s3, rfl, rfl⟩
    exact q _ (gD.trans g5)
end
end K04
set_option Elab.async false
set_option linter.all false
set_option maxRecDepth 100000
set_option maxHeartbeats 4000000
namespace K04
open PySem PySem.Spec L2 PyProof.Rows
section
variable {P : Program} {w : World} {K : PySem.W.Frag} {mg : Str → Option Value} {base : Heap}
def sp_law (K : PySem.W.Frag) : Sp := fun vs H Q _ => ∃ (a : Addr) (ns : List Int), vs = [.ref a] ∧ SqL K H a (ns.map V.int) ∧ ns.length ≤ 63 ∧ ∀ H', Q (.bl true) H'
theorem ok_law {k : Nat} {f g1 g2 g3 g4 g5 g6 g7 g8 : Addr} {fd gd1 gd2 gd3 gd4 gd5 gd6 gd7 gd8 : FuncData} (F : Fun K "law" "law" s_law f fd)
    (G_law_words : FnB P w K mg base k "_law_words" g1 gd1 ["_law_cell"] sp_words) (G_law_cell_at : FnB P w K mg base k "_law_cell_at" g2 gd2 ["_law_script", "_law_k"] (sp_cell_at K))
    (G_law_tree : FnB P w K mg base k "_law_tree" g3 gd3 ["_law_cells", "_law_words_here", "_law_deep"] (sp_tree K 13)) (G_law_renamed : FnB P w K mg base k "_law_renamed" g4 gd4 ["_law_tree_here", "_law_names", "_law_words_here", "_law_count"] (sp_ren 20))
    (G_law_new_word : FnB P w K mg base k "_law_new_word" g5 gd5 ["_law_words_here", "_law_number"] sp_new_word) (G_law_told : FnB P w K mg base k "_law_told" g6 gd6 ["_law_one", "_law_other"] sp_told)
    (G_law_changed : FnB P w K mg base k "_law_changed" g7 gd7 ["_law_tree_here", "_law_cell", "_law_word_here"] sp_chg) (G_alike : FnB P w K mg base k "alike" g8 gd8 ["one", "other"] sp_alike) :
    FnOk P w K mg base CX0 (k + 1) f fd ["_law_script"] (sp_law K) := by
  refine F.ok sc_law (fun vs H Q E h => ?_) (fun cdv A outer s H vs Q E hr h => ?_)
  · obtain ⟨a, ns, rfl, _⟩ := h
    rfl
  obtain ⟨a, ns, rfl, hS, h63, q⟩ := h
  refine ⟨_, (Sd.un (pss_consS (ps_setS (i := 1) sc_law.nd rfl (Or.inl rfl) ⟨pe_call G_law_words.ok hr (by rfl) G_law_words.gl G_law_words.kp G_law_words.bd .nil pass0 (pa_cons (pe_call G_law_cell_at.ok hr (by rfl) G_law_cell_at.gl G_law_cell_at.kp G_law_cell_at.bd .nil pass0 (pa_cons (pv 0) (pa_cons pe_int pa_nil))) pa_nil)⟩)
    (pss_consS (ps_setS (i := 2) sc_law.nd rfl (Or.inl rfl) ⟨pe_call G_law_tree.ok hr (by rfl) G_law_tree.gl G_law_tree.kp G_law_tree.bd .nil pass0 (pa_cons (pe_slice (r := rSlL K) sl_list (pv 0) (po_some pe_int) (po_some pe_int)) (pa_cons (pv 1) (pa_cons pe_int pa_nil)))⟩)
    (pss_consS (ps_setS (i := 3) sc_law.nd rfl (Or.inl rfl) ⟨pe_call G_law_renamed.ok hr (by rfl) G_law_renamed.gl G_law_renamed.kp G_law_renamed.bd .nil pass0 (pa_cons (pv 2) (pa_cons pe_dnewK (pa_cons (pv 1) (pa_cons (pe_lst pa_nil : PE _ _ _) pa_nil))))⟩)
    (pss_consS (ps_setS (i := 4) sc_law.nd rfl (Or.inl rfl) ⟨pe_call G_law_cell_at.ok hr (by rfl) G_law_cell_at.gl G_law_cell_at.kp G_law_cell_at.bd .nil pass0 (pa_cons (pv 0) (pa_cons pe_int pa_nil))⟩)
    (pss_consS (ps_setS (i := 5) sc_law.nd rfl (Or.inl rfl) (pe_ixS (r := rIxL K) ix_list (pe_lstS (pa_consS (pe_ixS (r := rIxL K) ix_list ⟨pv 1⟩ ⟨pe_op op_mod (pe_op op_fdiv (pv 4) pe_int) pe_int⟩ (fun _ _ => rfl)) (pa_consS (pe_ixS (r := rIxL K) ix_list ⟨pv 1⟩ ⟨pe_op op_mod (pe_op op_fdiv (pv 4) pe_int) pe_int⟩ (fun _ _ => rfl)) (pa_consS ⟨pe_call G_law_new_word.ok hr (by rfl) G_law_new_word.gl G_law_new_word.kp G_law_new_word.bd .nil pass0 (pa_cons (pv 1) (pa_cons (pe_op op_mod (pe_op op_fdiv (pv 4) pe_int) pe_int) pa_nil))⟩ ⟨pa_nil⟩)))) ⟨pe_op op_mod (pv 4) pe_int⟩ (fun _ _ => rfl)))
    (pss_consS (ps_ifS ⟨(pw_or (pt_not (pt_val (pe_call G_law_told.ok hr (by rfl) G_law_told.gl G_law_told.kp G_law_told.bd .nil pass0 (pa_cons (pv 2) (pa_cons (pv 3) pa_nil))))) (pw_or1 (pt_not (pt_val (pe_call G_law_told.ok hr (by rfl) G_law_told.gl G_law_told.kp G_law_told.bd .nil pass0 (pa_cons (pv 2) (pa_cons (pv 2) pa_nil))))))).pt⟩ (pss_oneS (ps_retS ⟨pe_bl⟩)) ⟨pss_nil⟩)
    (pss_consS (ps_setS (i := 6) sc_law.nd rfl (Or.inl rfl) ⟨pe_call G_law_changed.ok hr (by rfl) G_law_changed.gl G_law_changed.kp G_law_changed.bd .nil pass0 (pa_cons (pv 2) (pa_cons (pe_op op_mod (pe_call G_law_cell_at.ok hr (by rfl) G_law_cell_at.gl G_law_cell_at.kp G_law_cell_at.bd .nil pass0 (pa_cons (pv 0) (pa_cons pe_int pa_nil))) pe_int) (pa_cons (pv 5) pa_nil)))⟩)
    (pss_consS (ps_setS (i := 7) sc_law.nd rfl (Or.inl rfl) ⟨pe_call G_law_changed.ok hr (by rfl) G_law_changed.gl G_law_changed.kp G_law_changed.bd .nil pass0 (pa_cons (pv 3) (pa_cons (pe_op op_mod (pv 4) pe_int) (pa_cons (pe_ix (r := rIxL K) ix_list (pv 1) (pe_op op_mod (pe_op op_fdiv (pv 4) pe_int) pe_int) (fun _ _ => rfl)) pa_nil)))⟩)
    (pss_consS (ps_ifS ⟨(pw_or (pt_not (pt_val (pe_call G_law_told.ok hr (by rfl) G_law_told.gl G_law_told.kp G_law_told.bd .nil pass0 (pa_cons (pv 2) (pa_cons (pv 6) pa_nil))))) (pw_or (pt_not (pt_val (pe_call G_law_told.ok hr (by rfl) G_law_told.gl G_law_told.kp G_law_told.bd .nil pass0 (pa_cons (pv 6) (pa_cons (pv 7) pa_nil))))) (pw_or1 (pt_not (pt_val (pe_call G_law_told.ok hr (by rfl) G_law_told.gl G_law_told.kp G_law_told.bd .nil pass0 (pa_cons (pv 2) (pa_cons (pv 7) pa_nil)))))))).pt⟩ (pss_oneS (ps_retS ⟨pe_bl⟩)) ⟨pss_nil⟩)
    (pss_oneS (ps_retS ⟨pe_cmpR op_isT (pe_call G_alike.ok hr (by rfl) G_alike.gl G_alike.kp G_alike.bd .nil pass0 (pa_cons (pv 3) (pa_cons (pv 2) pa_nil))) pe_bl (nomark _)⟩)))))))))))), ?_⟩
  have d0 : 0 ≤ sizeLine := by decide
  have d3 : 3 ≤ sizeLine := by decide
  have z4 : (0 : Int) < 4 := by decide
  refine ⟨_, rfl, a, ns, 0, rfl, hS, Int.le_refl 0, fun i => ⟨i, rfl, fun l H1 ws g1 hl hw hwl el => ?_⟩⟩
  obtain ⟨ms, em, lm⟩ : ∃ ms : List Int, cutV (ns.map V.int) (some 3) (some 61) = ms.map V.int ∧ ms.length ≤ 58 := by
    have e61 : ∃ j, HT.sIx ns.length ns.length (some 61) = j ∧ j ≤ ns.length ∧ j ≤ 61 := ⟨_, rfl, by
      have : HT.sIx ns.length ns.length (some ((61 : Nat) : Int)) = min 61 ns.length := HT.sIx_nat _ _ _
      rw [show ((61 : Nat) : Int) = 61 from rfl] at this
      rw [this]; omega⟩
    obtain ⟨j, ej, j1, j2⟩ := e61
    have e1 : HT.sIx ns.length 0 (some 3) = min 3 ns.length := by
      have : HT.sIx ns.length 0 (some ((3 : Nat) : Int)) = min 3 ns.length := HT.sIx_nat _ _ _
      rw [show ((3 : Nat) : Int) = 3 from rfl] at this
      exact this
    obtain ⟨ms, e, h⟩ := cutInts e1 ej j1
    exact ⟨ms, e, by omega⟩
  refine ⟨_, rfl, _, rfl, _, rfl, a, _, rfl, g1.seq hS, fun pc hpc => ?_⟩
  rw [em]
  have g2 := same_upd (o := .lst (ms.map V.int)) hpc
  refine ⟨_, rfl, pc, l, ms, ws, 12, rfl, SqL.of upd_same, by omega, g2 _ _ el, hw, by decide, by decide, fun t v H3 g3 rt szt dpt gdt => ?_⟩
  have hS3 := g3.seq (g2.seq (g1.seq hS))
  have el3 := g3 _ _ (g2 _ _ el)
  have hlH : H l = none := hl
  refine ⟨_, rfl, fun d hd => ⟨_, rfl, d0, fun cn hcn => ?_⟩⟩
  have g4 := same_upd (o := .dK []) hd
  have g5 := same_upd (o := .lst []) hcn
  have el5 := g5 _ _ (g4 _ _ el3)
  refine ⟨t, v, d, l, cn, ws, [], fun _ => none, 0, rfl, rt.mono (g4.trans g5).tk, by omega, g5 _ _ upd_same, fun _ => rfl, by simp; omega, el5, upd_same, ne_of_none (g4 _ _ el3) hcn, by omega, fun v2 H6 gx ec rr => ?_⟩
  have g6 : Same H3 H6 := g4.trans (SameX.newS hcn gx)
  have hsz := ren_size ws t (fun _ => none) 0
  have hbare : bare (ren ws t (fun _ => none) 0).1 [] = bare t [] := ren_bare hwl t (fun _ => none) 0 [] [] gdt (fun y v h => by cases h) (by omega) (fun y _ => rfl)
  generalize (ren ws t (fun _ => none) 0).1 = tw at rr hsz hbare
  have el6 := g6 _ _ el3
  have hS6 := g6.seq hS3
  have rt6 := rt.mono g6.tk
  refine ⟨_, rfl, a, ns, 1, rfl, hS6, by decide, fun ci => ?_⟩
  obtain ⟨y1, hy1, e1⟩ := pick hw (ci / 5)
  obtain ⟨y2, hy2, e2⟩ := pick hw (ci / 7)
  refine ⟨_, rfl, _, rfl, _, _, rfl, rfl, ⟨(show (0 : Int) < 5 by decide), (show (5 : Int) < 1073741824 by decide)⟩, _, _, rfl, rfl, z4, l, _, _, _, rfl, rfl, SqL.of el6, e1, ?_⟩
  refine ⟨_, rfl, _, rfl, _, _, rfl, rfl, ⟨(show (0 : Int) < 7 by decide), (show (7 : Int) < 1073741824 by decide)⟩, _, _, rfl, rfl, z4, l, _, _, _, rfl, rfl, SqL.of el6, e2, ?_⟩
  refine ⟨_, rfl, _, rfl, _, _, rfl, rfl, ⟨(show (0 : Int) < 5 by decide), (show (5 : Int) < 1073741824 by decide)⟩, _, _, rfl, rfl, (show (0 : Int) < 60 by decide), l, ws, _, rfl, el6, by omega, ?_⟩
  refine ⟨d3, fun pl hpl => ?_⟩
  obtain ⟨v5, hv5, ev5⟩ := atI_in (xs := [V.str y1, V.str y2, V.str (newW ws (ci / 5 % 60).toNat)]) (i := ci % 3) (by omega) (by show _ < ((3 : Nat) : Int); omega)
  obtain ⟨wd, rfl⟩ : ∃ wd, v5 = .str wd := by
    simp only [List.mem_cons, List.not_mem_nil, or_false] at hv5
    rcases hv5 with rfl | rfl | rfl <;> exact ⟨_, rfl⟩
  refine ⟨_, rfl, _, _, rfl, rfl, (show (0 : Int) < 3 by decide), pl, _, _, _, rfl, rfl, SqL.of upd_same, ev5, ?_⟩
  have g7 := same_upd (o := .lst [V.str y1, V.str y2, V.str (newW ws (ci / 5 % 60).toNat)]) hpl
  have el7 := g7 _ _ el6
  have hS7 := g7.seq hS6
  have rt7 := rt6.mono g7.tk
  have rr7 := rr.mono g7.tk
  generalize upd H6 pl (.lst [V.str y1, V.str y2, V.str (newW ws (ci / 5 % 60).toNat)]) = H7 at el7 hS7 rt7 rr7 ⊢
  have sz : t.size ≤ 200 := by omega
  have dp : t.dep ≤ 14 := by omega
  refine ⟨_, rfl, _, rfl, t, tw, v, v2, rfl, rt7, rr7, by omega, by omega, by omega, by omega, fun H8 g8 => ⟨_, rfl, iteF ?_⟩⟩
  refine ⟨_, rfl, _, rfl, t, t, v, v, rfl, rt7.mono g8.tk, rt7.mono g8.tk, by omega, by omega, by omega, by omega, fun H9 g9 => ⟨_, rfl, iteF ?_⟩⟩
  have gq := g8.trans g9
  have hS9 := gq.seq hS7
  have el9 := gq _ _ el7
  have rt9 := rt7.mono gq.tk
  have rr9 := rr7.mono gq.tk
  refine ⟨_, rfl, _, rfl, a, ns, 2, rfl, hS9, by decide, fun cj => ⟨_, _, rfl, rfl, (show (0 : Int) < 2147483647 by decide), _, rfl, t, v, _, wd, rfl, rt9, fun t1 w1 Ha ga r1 s1 e1' => ?_⟩⟩
  obtain ⟨y3, hy3, e3⟩ := pick hw (ci / 11)
  refine ⟨_, rfl, _, rfl, _, _, rfl, rfl, (show (0 : Int) < 2147483647 by decide), _, rfl, _, rfl, _, _, rfl, rfl, ⟨(show (0 : Int) < 11 by decide), (show (11 : Int) < 1073741824 by decide)⟩, _, _, rfl, rfl, z4, l, _, _, _, rfl, rfl, SqL.of (ga _ _ el9), e3, tw, v2, _, y3, rfl, rr9.mono ga.tk, fun t2 w2 Hb gb r2 s2 e2' => ?_⟩
  have rtb := (rt9.mono ga.tk).mono gb.tk
  have rrb := (rr9.mono ga.tk).mono gb.tk
  have r1b := r1.mono gb.tk
  refine ⟨_, rfl, _, rfl, t, t1, v, w1, rfl, rtb, r1b, by omega, by omega, by omega, by omega, fun Hc gc => ⟨_, rfl, iteF ?_⟩⟩
  refine ⟨_, rfl, _, rfl, t1, t2, w1, w2, rfl, r1b.mono gc.tk, r2.mono gc.tk, by omega, by omega, by omega, by omega, fun Hd gd => ⟨_, rfl, iteF ?_⟩⟩
  have gcd := gc.trans gd
  refine ⟨_, rfl, _, rfl, t, t2, v, w2, rfl, rtb.mono gcd.tk, r2.mono gcd.tk, by omega, by omega, by omega, by omega, fun He ge => ⟨_, rfl, iteF ?_⟩⟩
  have gce := gcd.trans ge
  refine ⟨_, rfl, _, rfl, tw, t, v2, v, rfl, rrb.mono gce.tk, rtb.mono gce.tk, by omega, fun Hf gf => ?_⟩
  rw [decide_eq_true hbare]
  exact ⟨true, rfl, rfl, q _⟩
end
end K04
set_option Elab.async false
set_option linter.all false
set_option maxRecDepth 100000
set_option maxHeartbeats 4000000
namespace K04
open PySem PySem.Spec L2 PyProof.Rows
theorem all_mk {l : PySem.W.OpenLaw} {w : World} {K : PySem.W.Frag} {h : Heap} {mg : Str → Option Value} {fa f0 f1 f2 f3 f4 f5 f6 f7 f8 f9 f10 f11 f12 f13 f14 f15 f16 f17 f18 f19 f20 lv : Addr} (X : K.In h) (G : h.Ns mainGlobals mg) (hfa : mg "law" = some (.ref fa))
    {od0 an0 : Option Addr} {sl0 : Array (Option Value)} {oc0 kV0 dc0 pm0 cd0 ct0 : Value}
    {od1 an1 : Option Addr} {sl1 : Array (Option Value)} {oc1 kV1 dc1 pm1 cd1 ct1 : Value}
    {od2 an2 : Option Addr} {sl2 : Array (Option Value)} {oc2 kV2 dc2 pm2 cd2 ct2 : Value}
    {od3 an3 : Option Addr} {sl3 : Array (Option Value)} {oc3 kV3 dc3 pm3 cd3 ct3 : Value}
    {od4 an4 : Option Addr} {sl4 : Array (Option Value)} {oc4 kV4 dc4 pm4 cd4 ct4 : Value}
    {od5 an5 : Option Addr} {sl5 : Array (Option Value)} {oc5 kV5 dc5 pm5 cd5 ct5 : Value}
    {od6 an6 : Option Addr} {sl6 : Array (Option Value)} {oc6 kV6 dc6 pm6 cd6 ct6 : Value}
    {od7 an7 : Option Addr} {sl7 : Array (Option Value)} {oc7 kV7 dc7 pm7 cd7 ct7 : Value}
    {od8 an8 : Option Addr} {sl8 : Array (Option Value)} {oc8 kV8 dc8 pm8 cd8 ct8 : Value}
    {od9 an9 : Option Addr} {sl9 : Array (Option Value)} {oc9 kV9 dc9 pm9 cd9 ct9 : Value}
    {od10 an10 : Option Addr} {sl10 : Array (Option Value)} {oc10 kV10 dc10 pm10 cd10 ct10 : Value}
    {od11 an11 : Option Addr} {sl11 : Array (Option Value)} {oc11 kV11 dc11 pm11 cd11 ct11 : Value}
    {od12 an12 : Option Addr} {sl12 : Array (Option Value)} {oc12 kV12 dc12 pm12 cd12 ct12 : Value}
    {od13 an13 : Option Addr} {sl13 : Array (Option Value)} {oc13 kV13 dc13 pm13 cd13 ct13 : Value}
    {od14 an14 : Option Addr} {sl14 : Array (Option Value)} {oc14 kV14 dc14 pm14 cd14 ct14 : Value}
    {od15 an15 : Option Addr} {sl15 : Array (Option Value)} {oc15 kV15 dc15 pm15 cd15 ct15 : Value}
    {od16 an16 : Option Addr} {sl16 : Array (Option Value)} {oc16 kV16 dc16 pm16 cd16 ct16 : Value}
    {od17 an17 : Option Addr} {sl17 : Array (Option Value)} {oc17 kV17 dc17 pm17 cd17 ct17 : Value}
    {od18 an18 : Option Addr} {sl18 : Array (Option Value)} {oc18 kV18 dc18 pm18 cd18 ct18 : Value}
    {od19 an19 : Option Addr} {sl19 : Array (Option Value)} {oc19 kV19 dc19 pm19 cd19 ct19 : Value}
    {od20 an20 : Option Addr} {sl20 : Array (Option Value)} {oc20 kV20 dc20 pm20 cd20 ct20 : Value}
    {odL : Option Addr} {slL : Array (Option Value)} {nL : Nat} {t1 t2 t3 t4 t5 : Tok}
    (a0 : PySem.W.nsIn K mainGlobals "parts_begin" = some (some (.ref f0))) (l0 : K.lookup f0 = some ⟨oc0, od0, .func (PySem.W.fnOf "parts_begin" "parts_begin" (defArgs s_parts_begin) (defBody s_parts_begin) (defScope s_parts_begin) .none kV0 dc0 pm0 an0 cd0 ct0), sl0⟩) (c0 : PySem.W.codeIn K cd0 "parts_begin" = true) (k0 : PySem.W.keepIn K (.ref f0) = true)
    (a1 : PySem.W.nsIn K mainGlobals "parts" = some (some (.ref f1))) (l1 : K.lookup f1 = some ⟨oc1, od1, .func (PySem.W.fnOf "parts" "parts" (defArgs s_parts) (defBody s_parts) (defScope s_parts) .none kV1 dc1 pm1 an1 cd1 ct1), sl1⟩) (c1 : PySem.W.codeIn K cd1 "parts" = true) (k1 : PySem.W.keepIn K (.ref f1) = true)
    (a2 : PySem.W.nsIn K mainGlobals "same_name" = some (some (.ref f2))) (l2 : K.lookup f2 = some ⟨oc2, od2, .func (PySem.W.fnOf "same_name" "same_name" (defArgs s_same_name) (defBody s_same_name) (defScope s_same_name) .none kV2 dc2 pm2 an2 cd2 ct2), sl2⟩) (c2 : PySem.W.codeIn K cd2 "same_name" = true) (k2 : PySem.W.keepIn K (.ref f2) = true)
    (a3 : PySem.W.nsIn K mainGlobals "alike_leaves" = some (some (.ref f3))) (l3 : K.lookup f3 = some ⟨oc3, od3, .func (PySem.W.fnOf "alike_leaves" "alike_leaves" (defArgs s_alike_leaves) (defBody s_alike_leaves) (defScope s_alike_leaves) .none kV3 dc3 pm3 an3 cd3 ct3), sl3⟩) (c3 : PySem.W.codeIn K cd3 "alike_leaves" = true) (k3 : PySem.W.keepIn K (.ref f3) = true)
    (a4 : PySem.W.nsIn K mainGlobals "alike_atoms" = some (some (.ref f4))) (l4 : K.lookup f4 = some ⟨oc4, od4, .func (PySem.W.fnOf "alike_atoms" "alike_atoms" (defArgs s_alike_atoms) (defBody s_alike_atoms) (defScope s_alike_atoms) .none kV4 dc4 pm4 an4 cd4 ct4), sl4⟩) (c4 : PySem.W.codeIn K cd4 "alike_atoms" = true) (k4 : PySem.W.keepIn K (.ref f4) = true)
    (a5 : PySem.W.nsIn K mainGlobals "alike_heads" = some (some (.ref f5))) (l5 : K.lookup f5 = some ⟨oc5, od5, .func (PySem.W.fnOf "alike_heads" "alike_heads" (defArgs s_alike_heads) (defBody s_alike_heads) (defScope s_alike_heads) .none kV5 dc5 pm5 an5 cd5 ct5), sl5⟩) (c5 : PySem.W.codeIn K cd5 "alike_heads" = true) (k5 : PySem.W.keepIn K (.ref f5) = true)
    (a6 : PySem.W.nsIn K mainGlobals "pairs_in" = some (some (.ref f6))) (l6 : K.lookup f6 = some ⟨oc6, od6, .func (PySem.W.fnOf "pairs_in" "pairs_in" (defArgs s_pairs_in) (defBody s_pairs_in) (defScope s_pairs_in) .none kV6 dc6 pm6 an6 cd6 ct6), sl6⟩) (c6 : PySem.W.codeIn K cd6 "pairs_in" = true) (k6 : PySem.W.keepIn K (.ref f6) = true)
    (a7 : PySem.W.nsIn K mainGlobals "alike" = some (some (.ref f7))) (l7 : K.lookup f7 = some ⟨oc7, od7, .func (PySem.W.fnOf "alike" "alike" (defArgs s_alike) (defBody s_alike) (defScope s_alike) .none kV7 dc7 pm7 an7 cd7 ct7), sl7⟩) (c7 : PySem.W.codeIn K cd7 "alike" = true) (k7 : PySem.W.keepIn K (.ref f7) = true)
    (a8 : PySem.W.nsIn K mainGlobals "_law_cell_at" = some (some (.ref f8))) (l8 : K.lookup f8 = some ⟨oc8, od8, .func (PySem.W.fnOf "_law_cell_at" "_law_cell_at" (defArgs s_law_cell_at) (defBody s_law_cell_at) (defScope s_law_cell_at) .none kV8 dc8 pm8 an8 cd8 ct8), sl8⟩) (c8 : PySem.W.codeIn K cd8 "_law_cell_at" = true) (k8 : PySem.W.keepIn K (.ref f8) = true)
    (a9 : PySem.W.nsIn K mainGlobals "_law_word" = some (some (.ref f9))) (l9 : K.lookup f9 = some ⟨oc9, od9, .func (PySem.W.fnOf "_law_word" "_law_word" (defArgs s_law_word) (defBody s_law_word) (defScope s_law_word) .none kV9 dc9 pm9 an9 cd9 ct9), sl9⟩) (c9 : PySem.W.codeIn K cd9 "_law_word" = true) (k9 : PySem.W.keepIn K (.ref f9) = true)
    (a10 : PySem.W.nsIn K mainGlobals "_law_words" = some (some (.ref f10))) (l10 : K.lookup f10 = some ⟨oc10, od10, .func (PySem.W.fnOf "_law_words" "_law_words" (defArgs s_law_words) (defBody s_law_words) (defScope s_law_words) .none kV10 dc10 pm10 an10 cd10 ct10), sl10⟩) (c10 : PySem.W.codeIn K cd10 "_law_words" = true) (k10 : PySem.W.keepIn K (.ref f10) = true)
    (a11 : PySem.W.nsIn K mainGlobals "_law_leaf" = some (some (.ref f11))) (l11 : K.lookup f11 = some ⟨oc11, od11, .func (PySem.W.fnOf "_law_leaf" "_law_leaf" (defArgs s_law_leaf) (defBody s_law_leaf) (defScope s_law_leaf) .none kV11 dc11 pm11 an11 cd11 ct11), sl11⟩) (c11 : PySem.W.codeIn K cd11 "_law_leaf" = true) (k11 : PySem.W.keepIn K (.ref f11) = true)
    (a12 : PySem.W.nsIn K mainGlobals "_law_tree" = some (some (.ref f12))) (l12 : K.lookup f12 = some ⟨oc12, od12, .func (PySem.W.fnOf "_law_tree" "_law_tree" (defArgs s_law_tree) (defBody s_law_tree) (defScope s_law_tree) .none kV12 dc12 pm12 an12 cd12 ct12), sl12⟩) (c12 : PySem.W.codeIn K cd12 "_law_tree" = true) (k12 : PySem.W.keepIn K (.ref f12) = true)
    (a13 : PySem.W.nsIn K mainGlobals "_law_bare_name" = some (some (.ref f13))) (l13 : K.lookup f13 = some ⟨oc13, od13, .func (PySem.W.fnOf "_law_bare_name" "_law_bare_name" (defArgs s_law_bare_name) (defBody s_law_bare_name) (defScope s_law_bare_name) .none kV13 dc13 pm13 an13 cd13 ct13), sl13⟩) (c13 : PySem.W.codeIn K cd13 "_law_bare_name" = true) (k13 : PySem.W.keepIn K (.ref f13) = true)
    (a14 : PySem.W.nsIn K mainGlobals "_law_bare" = some (some (.ref f14))) (l14 : K.lookup f14 = some ⟨oc14, od14, .func (PySem.W.fnOf "_law_bare" "_law_bare" (defArgs s_law_bare) (defBody s_law_bare) (defScope s_law_bare) .none kV14 dc14 pm14 an14 cd14 ct14), sl14⟩) (c14 : PySem.W.codeIn K cd14 "_law_bare" = true) (k14 : PySem.W.keepIn K (.ref f14) = true)
    (a15 : PySem.W.nsIn K mainGlobals "_law_new_word" = some (some (.ref f15))) (l15 : K.lookup f15 = some ⟨oc15, od15, .func (PySem.W.fnOf "_law_new_word" "_law_new_word" (defArgs s_law_new_word) (defBody s_law_new_word) (defScope s_law_new_word) .none kV15 dc15 pm15 an15 cd15 ct15), sl15⟩) (c15 : PySem.W.codeIn K cd15 "_law_new_word" = true) (k15 : PySem.W.keepIn K (.ref f15) = true)
    (a16 : PySem.W.nsIn K mainGlobals "_law_renamed" = some (some (.ref f16))) (l16 : K.lookup f16 = some ⟨oc16, od16, .func (PySem.W.fnOf "_law_renamed" "_law_renamed" (defArgs s_law_renamed) (defBody s_law_renamed) (defScope s_law_renamed) .none kV16 dc16 pm16 an16 cd16 ct16), sl16⟩) (c16 : PySem.W.codeIn K cd16 "_law_renamed" = true) (k16 : PySem.W.keepIn K (.ref f16) = true)
    (a17 : PySem.W.nsIn K mainGlobals "_law_otherwise" = some (some (.ref f17))) (l17 : K.lookup f17 = some ⟨oc17, od17, .func (PySem.W.fnOf "_law_otherwise" "_law_otherwise" (defArgs s_law_otherwise) (defBody s_law_otherwise) (defScope s_law_otherwise) .none kV17 dc17 pm17 an17 cd17 ct17), sl17⟩) (c17 : PySem.W.codeIn K cd17 "_law_otherwise" = true) (k17 : PySem.W.keepIn K (.ref f17) = true)
    (a18 : PySem.W.nsIn K mainGlobals "_law_changed" = some (some (.ref f18))) (l18 : K.lookup f18 = some ⟨oc18, od18, .func (PySem.W.fnOf "_law_changed" "_law_changed" (defArgs s_law_changed) (defBody s_law_changed) (defScope s_law_changed) .none kV18 dc18 pm18 an18 cd18 ct18), sl18⟩) (c18 : PySem.W.codeIn K cd18 "_law_changed" = true) (k18 : PySem.W.keepIn K (.ref f18) = true)
    (a19 : PySem.W.nsIn K mainGlobals "_law_told" = some (some (.ref f19))) (l19 : K.lookup f19 = some ⟨oc19, od19, .func (PySem.W.fnOf "_law_told" "_law_told" (defArgs s_law_told) (defBody s_law_told) (defScope s_law_told) .none kV19 dc19 pm19 an19 cd19 ct19), sl19⟩) (c19 : PySem.W.codeIn K cd19 "_law_told" = true) (k19 : PySem.W.keepIn K (.ref f19) = true)
    (a20 : PySem.W.nsIn K mainGlobals "law" = some (some (.ref f20))) (l20 : K.lookup f20 = some ⟨oc20, od20, .func (PySem.W.fnOf "law" "law" (defArgs s_law) (defBody s_law) (defScope s_law) .none kV20 dc20 pm20 an20 cd20 ct20), sl20⟩) (c20 : PySem.W.codeIn K cd20 "law" = true) (k20 : PySem.W.keepIn K (.ref f20) = true)
    (aL : PySem.W.nsIn K mainGlobals "LEAF_SIGNS" = some (some (.ref lv))) (lL : K.lookup lv = some ⟨.type "tuple", odL, .seq #[.str "num" t1, .str "name" t2, .str "ask" t3, .str "stop" t4, .str "gap" t5] nL, slL⟩)
    (z_len : PySem.W.nsIn K mainGlobals "len" = some none)
    (z_all : PySem.W.nsIn K mainGlobals "all" = some none)
    (z_zip : PySem.W.nsIn K mainGlobals "zip" = some none)
    (z_enumerate : PySem.W.nsIn K mainGlobals "enumerate" = some none)
    (z_reversed : PySem.W.nsIn K mainGlobals "reversed" = some none)
    (z_range : PySem.W.nsIn K mainGlobals "range" = some none)
    (z_tuple : PySem.W.nsIn K mainGlobals "tuple" = some none)
    (z_isinstance : PySem.W.nsIn K mainGlobals "isinstance" = some none)
    (z_bool : PySem.W.nsIn K mainGlobals "bool" = some none)
    (z_dict : PySem.W.nsIn K mainGlobals "dict" = some none)
    : ∃ fd : FuncData, (∀ (s : Shared) (v : Value), BindsTo s fd ⟨[v], []⟩ [("_law_script", v)]) ∧ ∀ base : Heap, K.In base → base.Ns mainGlobals mg → FnOk l.prog w K mg base CX0 23 fa fd ["_law_script"] (sp_law K) := by
  have e := hfa.symm.trans (PySem.W.mg_of X G a20)
  cases e
  have z_len := PySem.W.mg_none_of X G z_len
  have z_all := PySem.W.mg_none_of X G z_all
  have z_zip := PySem.W.mg_none_of X G z_zip
  have z_enumerate := PySem.W.mg_none_of X G z_enumerate
  have z_reversed := PySem.W.mg_none_of X G z_reversed
  have z_range := PySem.W.mg_none_of X G z_range
  have z_tuple := PySem.W.mg_none_of X G z_tuple
  have z_isinstance := PySem.W.mg_none_of X G z_isinstance
  have z_bool := PySem.W.mg_none_of X G z_bool
  have z_dict := PySem.W.mg_none_of X G z_dict
  have mL := PySem.W.mg_of X G aL
  have hL : LeafSigns K lv := ⟨_, _, _, lL, rfl, rfl, (by show 5 ≤ sizeLine; decide), .cons ⟨_, rfl⟩ (.cons ⟨_, rfl⟩ (.cons ⟨_, rfl⟩ (.cons ⟨_, rfl⟩ (.cons ⟨_, rfl⟩ .nil))))⟩
  have F0 := fun_mk (st := s_parts_begin) l0 c0 k0
  have b0 := F0.binds (ps := ["tree"]) fun _ _ _ _ _ _ us hl => match us, hl with | [_], _ => rfl
  have m0 := PySem.W.mg_of X G a0
  have F1 := fun_mk (st := s_parts) l1 c1 k1
  have b1 := F1.binds (ps := ["tree"]) fun _ _ _ _ _ _ us hl => match us, hl with | [_], _ => rfl
  have m1 := PySem.W.mg_of X G a1
  have F2 := fun_mk (st := s_same_name) l2 c2 k2
  have b2 := F2.binds (ps := ["one", "other", "pairs"]) fun _ _ _ _ _ _ us hl => match us, hl with | [_, _, _], _ => rfl
  have m2 := PySem.W.mg_of X G a2
  have F3 := fun_mk (st := s_alike_leaves) l3 c3 k3
  have b3 := F3.binds (ps := ["one", "other", "pairs"]) fun _ _ _ _ _ _ us hl => match us, hl with | [_, _, _], _ => rfl
  have m3 := PySem.W.mg_of X G a3
  have F4 := fun_mk (st := s_alike_atoms) l4 c4 k4
  have b4 := F4.binds (ps := ["one", "other", "pairs"]) fun _ _ _ _ _ _ us hl => match us, hl with | [_, _, _], _ => rfl
  have m4 := PySem.W.mg_of X G a4
  have F5 := fun_mk (st := s_alike_heads) l5 c5 k5
  have b5 := F5.binds (ps := ["one", "other", "pairs"]) fun _ _ _ _ _ _ us hl => match us, hl with | [_, _, _], _ => rfl
  have m5 := PySem.W.mg_of X G a5
  have F6 := fun_mk (st := s_pairs_in) l6 c6 k6
  have b6 := F6.binds (ps := ["one", "other", "number", "pairs"]) fun _ _ _ _ _ _ us hl => match us, hl with | [_, _, _, _], _ => rfl
  have m6 := PySem.W.mg_of X G a6
  have F7 := fun_mk (st := s_alike) l7 c7 k7
  have b7 := F7.binds (ps := ["one", "other"]) fun _ _ _ _ _ _ us hl => match us, hl with | [_, _], _ => rfl
  have m7 := PySem.W.mg_of X G a7
  have F8 := fun_mk (st := s_law_cell_at) l8 c8 k8
  have b8 := F8.binds (ps := ["_law_script", "_law_k"]) fun _ _ _ _ _ _ us hl => match us, hl with | [_, _], _ => rfl
  have m8 := PySem.W.mg_of X G a8
  have F9 := fun_mk (st := s_law_word) l9 c9 k9
  have b9 := F9.binds (ps := ["_law_cell", "_law_long", "_law_at", "_law_turn"]) fun _ _ _ _ _ _ us hl => match us, hl with | [_, _, _, _], _ => rfl
  have m9 := PySem.W.mg_of X G a9
  have F10 := fun_mk (st := s_law_words) l10 c10 k10
  have b10 := F10.binds (ps := ["_law_cell"]) fun _ _ _ _ _ _ us hl => match us, hl with | [_], _ => rfl
  have m10 := PySem.W.mg_of X G a10
  have F11 := fun_mk (st := s_law_leaf) l11 c11 k11
  have b11 := F11.binds (ps := ["_law_cell", "_law_words_here"]) fun _ _ _ _ _ _ us hl => match us, hl with | [_, _], _ => rfl
  have m11 := PySem.W.mg_of X G a11
  have F12 := fun_mk (st := s_law_tree) l12 c12 k12
  have b12 := F12.binds (ps := ["_law_cells", "_law_words_here", "_law_deep"]) fun _ _ _ _ _ _ us hl => match us, hl with | [_, _, _], _ => rfl
  have m12 := PySem.W.mg_of X G a12
  have F13 := fun_mk (st := s_law_bare_name) l13 c13 k13
  have b13 := F13.binds (ps := ["_law_name", "_law_bound"]) fun _ _ _ _ _ _ us hl => match us, hl with | [_, _], _ => rfl
  have m13 := PySem.W.mg_of X G a13
  have F14 := fun_mk (st := s_law_bare) l14 c14 k14
  have b14 := F14.binds (ps := ["_law_tree_here", "_law_bound"]) fun _ _ _ _ _ _ us hl => match us, hl with | [_, _], _ => rfl
  have m14 := PySem.W.mg_of X G a14
  have F15 := fun_mk (st := s_law_new_word) l15 c15 k15
  have b15 := F15.binds (ps := ["_law_words_here", "_law_number"]) fun _ _ _ _ _ _ us hl => match us, hl with | [_, _], _ => rfl
  have m15 := PySem.W.mg_of X G a15
  have F16 := fun_mk (st := s_law_renamed) l16 c16 k16
  have b16 := F16.binds (ps := ["_law_tree_here", "_law_names", "_law_words_here", "_law_count"]) fun _ _ _ _ _ _ us hl => match us, hl with | [_, _, _, _], _ => rfl
  have m16 := PySem.W.mg_of X G a16
  have F17 := fun_mk (st := s_law_otherwise) l17 c17 k17
  have b17 := F17.binds (ps := ["_law_part", "_law_word_here", "_law_cell"]) fun _ _ _ _ _ _ us hl => match us, hl with | [_, _, _], _ => rfl
  have m17 := PySem.W.mg_of X G a17
  have F18 := fun_mk (st := s_law_changed) l18 c18 k18
  have b18 := F18.binds (ps := ["_law_tree_here", "_law_cell", "_law_word_here"]) fun _ _ _ _ _ _ us hl => match us, hl with | [_, _, _], _ => rfl
  have m18 := PySem.W.mg_of X G a18
  have F19 := fun_mk (st := s_law_told) l19 c19 k19
  have b19 := F19.binds (ps := ["_law_one", "_law_other"]) fun _ _ _ _ _ _ us hl => match us, hl with | [_, _], _ => rfl
  have m19 := PySem.W.mg_of X G a19
  have F20 := fun_mk (st := s_law) l20 c20 k20
  have b20 := F20.binds (ps := ["_law_script"]) fun _ _ _ _ _ _ us hl => match us, hl with | [_], _ => rfl
  have m20 := PySem.W.mg_of X G a20
  refine ⟨PySem.W.fnOf "law" "law" (defArgs s_law) (defBody s_law) (defScope s_law) .none kV20 dc20 pm20 an20 cd20 ct20, fun s v => .of_eq rfl, fun base _ _ => ?_⟩
  have G0 : FnB l.prog w K mg base 1 "parts_begin" f0 _ _ _ := ⟨ok_parts_begin (k := 0) F0 z_len mL hL, b0, k0, m0⟩
  have G1 : FnB l.prog w K mg base 2 "parts" f1 _ _ _ := ⟨ok_parts F1 (G0.up (k := 1) (by decide)), b1, k1, m1⟩
  have G2 : FnB l.prog w K mg base 1 "same_name" f2 _ _ _ := ⟨ok_same_name (k := 0) F2 z_reversed, b2, k2, m2⟩
  have G3 : FnB l.prog w K mg base 2 "alike_leaves" f3 _ _ _ := ⟨ok_alike_leaves F3 (G2.up (k := 1) (by decide)), b3, k3, m3⟩
  have G4 : FnB l.prog w K mg base 3 "alike_atoms" f4 _ _ _ := ⟨ok_alike_atoms F4 z_len z_all z_zip (G3.up (k := 2) (by decide)), b4, k4, m4⟩
  have G5 : FnB l.prog w K mg base 4 "alike_heads" f5 _ _ _ := ⟨ok_alike_heads F5 mL hL (G4.up (k := 3) (by decide)) (G3.up (k := 3) (by decide)), b5, k5, m5⟩
  have G6 : FnB l.prog w K mg base 1 "pairs_in" f6 _ _ _ := ⟨ok_pairs_in (k := 0) F6, b6, k6, m6⟩
  have G7 : FnB l.prog w K mg base 5 "alike" f7 _ _ _ := ⟨ok_alike F7 z_enumerate z_zip (G5.up (k := 4) (by decide)) (G1.up (k := 4) (by decide)) (G6.up (k := 4) (by decide)), b7, k7, m7⟩
  have G8 : FnB l.prog w K mg base 1 "_law_cell_at" f8 _ _ _ := ⟨ok_cell_at (k := 0) F8 z_len, b8, k8, m8⟩
  have G9 : FnB l.prog w K mg base 1 "_law_word" f9 _ _ _ := ⟨ok_word (k := 0) F9 z_range, b9, k9, m9⟩
  have G10 : FnB l.prog w K mg base 2 "_law_words" f10 _ _ _ := ⟨ok_words F10 z_range (G9.up (k := 1) (by decide)), b10, k10, m10⟩
  have G11 : FnB l.prog w K mg base 1 "_law_leaf" f11 _ _ _ := ⟨ok_leaf (k := 0) F11 z_tuple, b11, k11, m11⟩
  have G12 := all_tree F12 b12 m12 z_len (G11.up (k := 1) (by decide)) 13
  have G13 : FnB l.prog w K mg base 1 "_law_bare_name" f13 _ _ _ := ⟨ok_bare_name (k := 0) F13 z_len z_range, b13, k13, m13⟩
  have G14 := all_bare F14 b14 m14 z_tuple (G13.up (k := 1) (by decide)) 20
  have G15 : FnB l.prog w K mg base 1 "_law_new_word" f15 _ _ _ := ⟨ok_new_word (k := 0) F15, b15, k15, m15⟩
  have G16 := all_ren F16 b16 m16 z_tuple z_dict z_len (G15.up (k := 1) (by decide)) 20
  have G17 : FnB l.prog w K mg base 1 "_law_otherwise" f17 _ _ _ := ⟨ok_other (k := 0) F17 z_len z_tuple z_reversed, b17, k17, m17⟩
  have G18 : FnB l.prog w K mg base 2 "_law_changed" f18 _ _ _ := ⟨ok_chg F18 z_len z_isinstance z_tuple z_reversed (G17.up (k := 1) (by decide)), b18, k18, m18⟩
  have G19 : FnB l.prog w K mg base 22 "_law_told" f19 _ _ _ := ⟨ok_told F19 z_isinstance z_bool (G14.up (k := 21) (by decide)) (G7.up (k := 21) (by decide)), b19, k19, m19⟩
  exact ok_law F20 (G10.up (k := 22) (by decide)) (G8.up (k := 22) (by decide)) (G12.up (k := 22) (by decide)) (G16.up (k := 22) (by decide)) (G15.up (k := 22) (by decide)) (G19.up (k := 22) (by decide)) (G18.up (k := 22) (by decide)) (G7.up (k := 22) (by decide))
theorem walk {l : PySem.W.OpenLaw} {q : Program} {loose : List Str} {XP : (Str → Option Value) → Heap → Prop} {YP : World → Heap → Prop} {d : DefRec} {K : Params → PySem.W.Frag} (hn : l.most = some 63) (hdf : d.params.defaults = [])
    (hY : ∀ (w : World) (h : Heap), YP w h → (K w.params).In h)
    (F : ∀ (w : World) (mg : Str → Option Value) (fa : Addr) (h : Heap), (K w.params).In h → h.Ns mainGlobals mg → mg d.name = some (.ref fa) →
      ∃ fd : FuncData, (∀ (s : Shared) (u : Value), BindsTo s fd ⟨[u], []⟩ [("_law_script", u)]) ∧ ∀ base : Heap, (K w.params).In base → base.Ns mainGlobals mg → FnOk l.prog w (K w.params) mg base CX0 23 fa fd ["_law_script"] (sp_law (K w.params))) :
    PySem.W.WalkO q loose XP YP l.row.toRowW d [] (fun f vs => PySem.call f vs) :=
  L2.walk_of (n := 63) (k := 23) (x := "_law_script") (CX := fun _ => CX0) (sp := fun w => sp_law (K w.params)) hn (by decide) hdf ⟨rfl, by decide, by decide⟩ hY F (fun _ _ a ns hl _ hS => ⟨a, ns, rfl, hS, hl, fun _ => rfl⟩) fun _ _ _ _ _ z => z
end K04
open PySem PySem.W PyProof.Rows
set_option maxRecDepth 100000 in
set_option maxHeartbeats 0 in
theorem PySem.Challenge.cw_recastle_k04_alike_holds : PySem.Challenge.rw_recastle_k04_alike.Holds := by
  w_on; o_law; k_head; (case hw => w_witness2)
  k_fill
  refine K04.walk (l := PySem.Challenge.rw_recastle_k04_alike) rfl rfl (fun w h Y => PySem.W.kIn_of Y) ?F
  case F =>
    intro w mg fa h KX G hmg
    refine' K04.all_mk KX G hmg ?a0 ?l0 ?c0 ?k0 ?a1 ?l1 ?c1 ?k1 ?a2 ?l2 ?c2 ?k2 ?a3 ?l3 ?c3 ?k3 ?a4 ?l4 ?c4 ?k4 ?a5 ?l5 ?c5 ?k5 ?a6 ?l6 ?c6 ?k6 ?a7 ?l7 ?c7 ?k7 ?a8 ?l8 ?c8 ?k8 ?a9 ?l9 ?c9 ?k9 ?a10 ?l10 ?c10 ?k10 ?a11 ?l11 ?c11 ?k11 ?a12 ?l12 ?c12 ?k12 ?a13 ?l13 ?c13 ?k13 ?a14 ?l14 ?c14 ?k14 ?a15 ?l15 ?c15 ?k15 ?a16 ?l16 ?c16 ?k16 ?a17 ?l17 ?c17 ?k17 ?a18 ?l18 ?c18 ?k18 ?a19 ?l19 ?c19 ?k19 ?a20 ?l20 ?c20 ?k20 ?aL ?lL ?z_len ?z_all ?z_zip ?z_enumerate ?z_reversed ?z_range ?z_tuple ?z_isinstance ?z_bool ?z_dict
    (case a0 => k_is); (case l0 => k_is); (case c0 => k_is); (case k0 => k_is)
    (case a1 => k_is); (case l1 => k_is); (case c1 => k_is); (case k1 => k_is)
    (case a2 => k_is); (case l2 => k_is); (case c2 => k_is); (case k2 => k_is)
    (case a3 => k_is); (case l3 => k_is); (case c3 => k_is); (case k3 => k_is)
    (case a4 => k_is); (case l4 => k_is); (case c4 => k_is); (case k4 => k_is)
    (case a5 => k_is); (case l5 => k_is); (case c5 => k_is); (case k5 => k_is)
    (case a6 => k_is); (case l6 => k_is); (case c6 => k_is); (case k6 => k_is)
    (case a7 => k_is); (case l7 => k_is); (case c7 => k_is); (case k7 => k_is)
    (case a8 => k_is); (case l8 => k_is); (case c8 => k_is); (case k8 => k_is)
    (case a9 => k_is); (case l9 => k_is); (case c9 => k_is); (case k9 => k_is)
    (case a10 => k_is); (case l10 => k_is); (case c10 => k_is); (case k10 => k_is)
    (case a11 => k_is); (case l11 => k_is); (case c11 => k_is); (case k11 => k_is)
    (case a12 => k_is); (case l12 => k_is); (case c12 => k_is); (case k12 => k_is)
    (case a13 => k_is); (case l13 => k_is); (case c13 => k_is); (case k13 => k_is)
    (case a14 => k_is); (case l14 => k_is); (case c14 => k_is); (case k14 => k_is)
    (case a15 => k_is); (case l15 => k_is); (case c15 => k_is); (case k15 => k_is)
    (case a16 => k_is); (case l16 => k_is); (case c16 => k_is); (case k16 => k_is)
    (case a17 => k_is); (case l17 => k_is); (case c17 => k_is); (case k17 => k_is)
    (case a18 => k_is); (case l18 => k_is); (case c18 => k_is); (case k18 => k_is)
    (case a19 => k_is); (case l19 => k_is); (case c19 => k_is); (case k19 => k_is)
    (case a20 => k_is); (case l20 => k_is); (case c20 => k_is); (case k20 => k_is)
    (case aL => k_is); (case lL => k_is); (case z_len => k_is); (case z_all => k_is)
    (case z_zip => k_is); (case z_enumerate => k_is); (case z_reversed => k_is); (case z_range => k_is)
    (case z_tuple => k_is); (case z_isinstance => k_is); (case z_bool => k_is); (case z_dict => k_is)
#print axioms PySem.Challenge.cw_recastle_k04_alike_holds