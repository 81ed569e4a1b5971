import PyProof.Rows.All
import Wide.All
import OpenK.AllK
import Wide.FinOn
import Lean
import PyProof.EqAt
import PyProof.EqKinds
import PyProof.TupleCall
import PyProof.NeKinds
import PySem.Challenge.RW_recastle_k31_whole_run
set_option Elab.async false
set_option linter.all false
set_option maxRecDepth 100000
namespace L2
open PySem PySem.Spec PyProof.Rows
abbrev Key := Sum Int Str
def keyIs : Key → Value → Bool
  | .inl k, v => Value.isInt k v
  | .inr x, v => Value.isStrOf x v
def keyH (w : World) : Key → Int
  | .inl k => hashInt k
  | .inr x => hashStr w x
theorem keyIs_shape : ∀ {k : Key} {v : Value}, keyIs k v = true → (∃ i t, k = Sum.inl i ∧ v = Value.int i t) ∨ (∃ x t, k = Sum.inr x ∧ v = Value.str x t)
  | .inl i, v, h => by
    obtain ⟨t, e⟩ := Value.isInt_shape (k := i) (v := v) h
    exact .inl ⟨i, t, rfl, e⟩
  | .inr x, v, h => by
    obtain ⟨t, e⟩ := Value.isStrOf_shape (x := x) (v := v) h
    exact .inr ⟨x, t, rfl, e⟩
theorem keyIs_int (i : Int) (t : Tok) : keyIs (.inl i) (.int i t) = true := by simp [keyIs, Value.isInt]
theorem keyIs_str (x : Str) (t : Tok) : keyIs (.inr x) (.str x t) = true := by simp [keyIs, Value.isStrOf]
theorem key_ll (a b : Int) : decide ((Sum.inl a : Key) = Sum.inl b) = (a == b) := by
  by_cases e : a = b
  · subst e; simp
  · have h : ¬ (Sum.inl a : Key) = Sum.inl b := fun q => e (Sum.inl.inj q)
    rw [decide_eq_false h]
    exact (beq_eq_false_iff_ne.mpr e).symm
theorem key_rr (a b : Str) : decide ((Sum.inr a : Key) = Sum.inr b) = decide (a = b) := by
  by_cases e : a = b
  · subst e; simp
  · have h : ¬ (Sum.inr a : Key) = Sum.inr b := fun q => e (Sum.inr.inj q)
    rw [decide_eq_false h, decide_eq_false e]
theorem key_lr (a : Int) (b : Str) : decide ((Sum.inl a : Key) = Sum.inr b) = false := decide_eq_false (fun q => nomatch q)
theorem key_rl (a : Str) (b : Int) : decide ((Sum.inr a : Key) = Sum.inl b) = false := decide_eq_false (fun q => nomatch q)
def mixKind (prog : Program) (w : World) : PySem.KeyKind prog w Key where
  is := keyIs
  hash := keyH w
  inj := fun v a b ha hb => by
    rcases keyIs_shape ha with ⟨i, t, rfl, rfl⟩ | ⟨x, t, rfl, rfl⟩
    · rcases keyIs_shape hb with ⟨j, u, rfl, e⟩ | ⟨y, u, rfl, e⟩
      · injection e with e1 _; rw [e1]
      · exact nomatch e
    · rcases keyIs_shape hb with ⟨j, u, rfl, e⟩ | ⟨y, u, rfl, e⟩
      · exact nomatch e
      · injection e with e1 _; rw [e1]
  byValue := fun k v h => by
    rcases keyIs_shape h with ⟨i, t, rfl, rfl⟩ | ⟨x, t, rfl, rfl⟩ <;> rfl
  pyHash := fun hv h => by
    rcases keyIs_shape hv with ⟨i, t, rfl, rfl⟩ | ⟨x, t, rfl, rfl⟩
    · exact wpAny_pyHash_int h
    · exact wpAny_pyHash_str h
  eqBool := fun hu hv h => by
    rcases keyIs_shape hu with ⟨i, t, rfl, rfl⟩ | ⟨x, t, rfl, rfl⟩
    · rcases keyIs_shape hv with ⟨j, u, rfl, rfl⟩ | ⟨y, u, rfl, rfl⟩
      · rw [key_ll] at h; exact wpAny_eqBool_int h
      · rw [key_lr] at h; exact SeqAt.EqAt.int_str i t y u _ _ _ _ h
    · rcases keyIs_shape hv with ⟨j, u, rfl, rfl⟩ | ⟨y, u, rfl, rfl⟩
      · rw [key_rl] at h; exact SeqAt.EqAt.str_int x t j u _ _ _ _ h
      · rw [key_rr] at h; exact wpAny_eqBool_str h
  «strs» := fun k x t v h => by
    rcases keyIs_shape h with ⟨i, u, rfl, e⟩ | ⟨y, u, rfl, e⟩
    · exact nomatch e
    · injection e with e1 _
      subst e1
      cases v <;> rfl
theorem mixKind_int (prog : Program) (w : World) (i : Int) (t : Tok) : (mixKind prog w).is (.inl i) (.int i t) = true := keyIs_int i t
theorem mixKind_str (prog : Program) (w : World) (x : Str) (t : Tok) : (mixKind prog w).is (.inr x) (.str x t) = true := keyIs_str x t
end L2
namespace L2
open PySem PySem.Spec PyProof.Rows
inductive V where
  | non | bl (b : Bool) | int (i : Int) | str (x : Str) | byt (b : Array UInt8) | flt (b : UInt64) | ref (a : Addr) | ty (n : String)
  deriving DecidableEq
def RelV : V → Value → Prop
  | .non, u => u = Value.none
  | .bl b, u => u = Value.bool b
  | .int i, u => ∃ t, u = Value.int i t
  | .str x, u => ∃ t, u = Value.str x t
  | .byt b, u => ∃ t, u = Value.bytes b t
  | .flt b, u => ∃ t, u = Value.float b t
  | .ref a, u => u = Value.ref a
  | .ty n, u => u = Value.type n
abbrev Vals : List V → List Value → Prop := Paired RelV
theorem Vals.length {xs : List V} {us : List Value} (r : Vals xs us) : xs.length = us.length := Paired.length r
theorem Vals.get : ∀ {xs : List V} {us : List Value} {i : Nat} {x : V}, Vals xs us → xs[i]? = some x → ∃ u, us[i]? = some u ∧ RelV x u
  | _, _, _, _, .nil, e => by simp at e
  | _, _, 0, _, .cons r _, e => by simp at e; subst e; exact ⟨_, rfl, r⟩
  | _, _, i + 1, x, .cons _ t, e => by
    obtain ⟨u, h1, h2⟩ := Vals.get (i := i) (x := x) t (by simpa using e)
    exact ⟨u, by simpa using h1, h2⟩
theorem Vals.append : ∀ {xs ys : List V} {us ws : List Value}, Vals xs us → Vals ys ws → Vals (xs ++ ys) (us ++ ws)
  | _, _, _, _, .nil, s => s
  | _, _, _, _, .cons r t, s => .cons r (Vals.append t s)
theorem Vals.take : ∀ {xs : List V} {us : List Value} (n : Nat), Vals xs us → Vals (xs.take n) (us.take n)
  | _, _, 0, _ => .nil
  | _, _, _ + 1, .nil => .nil
  | _, _, n + 1, .cons r t => .cons r (Vals.take n t)
theorem Vals.drop : ∀ {xs : List V} {us : List Value} (n : Nat), Vals xs us → Vals (xs.drop n) (us.drop n)
  | _, _, 0, r => r
  | _, _, _ + 1, .nil => .nil
  | _, _, n + 1, .cons _ t => Vals.drop n t
def RelO : Option V → Option Value → Prop
  | some v, some u => RelV v u
  | none, none => True
  | _, _ => False
def KV {κ : Type} : List (κ × V) → List (κ × Value) → Prop := Paired fun (p : κ × V) (q : κ × Value) => p.1 = q.1 ∧ RelV p.2 q.2
def kV : Key → V
  | .inl i => .int i
  | .inr x => .str x
inductive HO where
  | lst (xs : List V)
  | tup (xs : List V)
  | dK (kvs : List (Key × V)) | dT (kvs : List (List Key × V))
  | set (S : Int → Bool) (n : Nat)
  | ins (C dx : Addr) (fs : List (Str × V))
  | own (x : Addr)
  | xd (fs : List (Str × V))
  | met (f x : Addr)
  | rng (lo hi : Int)
  | frz (o : Obj) (u : HO)
  | tbl (ps : Array Value)
  | ext (φ : Heap → Prop)
abbrev Hp := Addr → Option HO
def upd (H : Hp) (a : Addr) (o : HO) : Hp := fun b => if b = a then some o else H b
theorem upd_same {H : Hp} {a : Addr} {o : HO} : upd H a o a = some o := by unfold upd; rw [if_pos rfl]
theorem upd_ne {H : Hp} {a b : Addr} {o : HO} (h : b ≠ a) : upd H a o b = H b := by unfold upd; rw [if_neg h]
theorem ne_of {H : Hp} {a b : Addr} {o u : HO} (h : H a = some o) (h' : H b = some u) (d : o ≠ u) : a ≠ b := by
  intro e; subst e; rw [h] at h'; exact d (Option.some.inj h')
theorem ne_of_none {H : Hp} {a b : Addr} {o : HO} (h : H a = some o) (h' : H b = none) : a ≠ b := by
  intro e; subst e; rw [h] at h'; cases h'
section
variable (P : Program) (w : World)
def ObjOk (H : Hp) (h : Heap) (a : Addr) : HO → Prop
  | .lst xs => xs.length ≤ sizeLine ∧ ∃ (its : List Value) (n : Nat), Vals xs its ∧ h.get? a = some { cls := .type "list", data := .seq its.toArray n }
  | .tup xs => xs.length ≤ sizeLine ∧ ∃ its : List Value, Vals xs its ∧ IsTup h a its.toArray
  | .dK kvs => kvs.length ≤ sizeLine ∧ (a == sysModules) = false ∧ ∃ vs, KV kvs vs ∧ h.DictOf (mixKind P w) a vs
  | .dT kvs => kvs.length ≤ sizeLine ∧ (a == sysModules) = false ∧ ∃ xs : List (List Key × Addr × Value),
      Paired (fun (p : List Key × V) (q : List Key × Addr × Value) => p.1 = q.1 ∧ H q.2.1 = some (.tup (p.1.map kV)) ∧ RelV p.2 q.2.2) kvs xs ∧
      ∃ o es ep, h.get? a = some o ∧ o.ExactDict ∧ o.data = .dict es ep ∧ es.toList = xs.map (entryOfKey (tupleKind (mixKind P w))) ∧ (xs.map (·.1)).Nodup
  | .set S n => h.SetOf (intKind P w) a S n
  | .ins C dx fs => H dx = some (.own a) ∧ fs.length ≤ 1000 ∧ dx ≠ a ∧ h.get? a = some (PySem.W.instObj C dx) ∧
      ∃ mA, h.Ns1 dx mA ∧ (∀ f, RelO (fs.lookup f) (mA f)) ∧ PySem.Within mA (fs.map (·.1))
  | .own _ => ∃ o, h.get? a = some o
  | .xd fs => ∃ mA, h.Ns1 a mA ∧ ∀ f, RelO (fs.lookup f) (mA f)
  | .rng lo hi => ∃ t u v, h.get? a = some { cls := .type "range", data := .fields #[.int lo t, .int hi u, .int 1 v] }
  | .frz o u => h.get? a = some o ∧ ObjOk H h a u
  | .tbl ps => h.get? a = some { cls := .none, data := .fields ps }
  | .met f x => h.get? a = some (PySem.W.methodObj (.ref f) (.ref x))
  | .ext φ => φ h ∧ (∃ o, h.get? a = some o) ∧ ∀ h1 h2 : Heap, φ h1 → (∀ o, h1.get? a = some o → h2.get? a = some o) → φ h2
def HOk (H : Hp) (h : Heap) : Prop := ∀ a o, H a = some o → ObjOk P w H h a o
end
section
variable {P : Program} {w : World} {H H' : Hp} {h h' : Heap} {a : Addr} {o : HO}
theorem ObjOk.lt (x : ObjOk P w H h a o) : a < h.objs.size := by
  cases o with
  | lst xs => obtain ⟨_, _, _, _, e⟩ := x; exact Heap.lt_size e
  | tup xs => obtain ⟨_, _, _, p⟩ := x; exact p.lt
  | dK kvs => obtain ⟨_, _, _, _, o, _, _, e, _⟩ := x; exact Heap.lt_size e
  | dT kvs => obtain ⟨_, _, _, _, o, _, _, e, _⟩ := x; exact Heap.lt_size e
  | set S n => obtain ⟨o, _, _, _, e, _⟩ := x; exact Heap.lt_size e
  | ins C dx fs => obtain ⟨_, _, _, e, _⟩ := x; exact Heap.lt_size e
  | own y => obtain ⟨_, e⟩ := x; exact Heap.lt_size e
  | xd fs => obtain ⟨_, ⟨_, _, _, e, _⟩, _⟩ := x; exact Heap.lt_size e
  | rng lo hi => obtain ⟨_, _, _, e⟩ := x; exact Heap.lt_size e
  | frz ob u => obtain ⟨e, _⟩ := x; exact Heap.lt_size e
  | tbl ps => exact Heap.lt_size (show h.get? a = some _ from x)
  | met f y => exact Heap.lt_size (show h.get? a = some _ from x)
  | ext φ => obtain ⟨_, ⟨_, e⟩, _⟩ := x; exact Heap.lt_size e
theorem Paired.mapP {α β : Type} {F G : α → β → Prop} : ∀ {l₁ : List α} {l₂ : List β}, Paired F l₁ l₂ → (∀ a b, F a b → G a b) → Paired G l₁ l₂
  | _, _, .nil, _ => .nil
  | _, _, .cons r t, f => .cons (f _ _ r) (Paired.mapP t f)
theorem ObjOk.stay (x : ObjOk P w H h a o) (k : ∀ b u, (b = a ∨ H b = some (.own a)) → h.get? b = some u → h'.get? b = some u)
    (ho : ∀ b, H b = some (.own a) → H' b = some (.own a)) (ht : ∀ b xs, H b = some (.tup xs) → H' b = some (.tup xs)) : ObjOk P w H' h' a o := by
  induction o with
  | lst xs => obtain ⟨z, its, n, r, e⟩ := x; exact ⟨z, its, n, r, k _ _ (.inl rfl) e⟩
  | tup xs => obtain ⟨z, its, r, ob, e, c⟩ := x; exact ⟨z, its, r, ob, k _ _ (.inl rfl) e, c⟩
  | dK kvs => obtain ⟨z, y, vs, r, ob, es, ep, e, c⟩ := x; exact ⟨z, y, vs, r, ob, es, ep, k _ _ (.inl rfl) e, c⟩
  | dT kvs =>
    obtain ⟨z, y, xs, r, ob, es, ep, e, c⟩ := x
    exact ⟨z, y, xs, Paired.mapP r fun p q z => ⟨z.1, ht _ _ z.2.1, z.2.2⟩, ob, es, ep, k _ _ (.inl rfl) e, c⟩
  | set S n => obtain ⟨ob, es, ep, t, e, c⟩ := x; exact ⟨ob, es, ep, t, k _ _ (.inl rfl) e, c⟩
  | ins C dx fs =>
    obtain ⟨d, z, ne, e, mA, ⟨od, es, ep, e2, c⟩, r⟩ := x
    exact ⟨ho _ d, z, ne, k _ _ (.inl rfl) e, mA, ⟨od, es, ep, k _ _ (.inr d) e2, c⟩, r⟩
  | own y => obtain ⟨ob, e⟩ := x; exact ⟨ob, k _ _ (.inl rfl) e⟩
  | xd fs => obtain ⟨mA, ⟨od, es, ep, e, c⟩, r⟩ := x; exact ⟨mA, ⟨od, es, ep, k _ _ (.inl rfl) e, c⟩, r⟩
  | rng lo hi => obtain ⟨t, u, v, e⟩ := x; exact ⟨t, u, v, k _ _ (.inl rfl) e⟩
  | frz ob u ih => obtain ⟨e, q⟩ := x; exact ⟨k _ _ (.inl rfl) e, ih q⟩
  | tbl ps =>
    have e : h.get? a = some { cls := .none, data := .fields ps } := x
    show h'.get? a = some { cls := .none, data := .fields ps }
    exact k a _ (.inl rfl) e
  | met f y =>
    have e : h.get? a = some (PySem.W.methodObj (.ref f) (.ref y)) := x
    show h'.get? a = some (PySem.W.methodObj (.ref f) (.ref y))
    exact k a _ (.inl rfl) e
  | ext φ => obtain ⟨p, ⟨o, e⟩, st⟩ := x; exact ⟨st _ _ p fun o q => k _ _ (.inl rfl) q, ⟨o, k _ _ (.inl rfl) e⟩, st⟩
theorem HOk.lt (x : HOk P w H h) (e : H a = some o) : a < h.objs.size := (x a o e).lt
theorem HOk.fresh (x : HOk P w H h) (e : h.objs.size ≤ a) : H a = none := by
  cases q : H a with
  | none => rfl
  | some u => exact absurd (Nat.lt_of_lt_of_le (x.lt q) e) (Nat.lt_irrefl _)
theorem HOk.kept (x : HOk P w H h) (k : ∀ b u, h.get? b = some u → h'.get? b = some u) : HOk P w H h' := fun a o e =>
  (x a o e).stay (fun b u _ q => k b u q) (fun _ q => q) fun _ _ q => q
theorem HOk.laid (x : HOk P w H h) (k : ∀ b u, h.get? b = some u → h'.get? b = some u) (hp : h.objs.size ≤ a) (new : ObjOk P w (upd H a o) h' a o) : HOk P w (upd H a o) h' := fun b u e => by
  have hn := x.fresh hp
  by_cases hb : b = a
  · subst hb; rw [upd_same] at e; cases e; exact new
  · rw [upd_ne hb] at e
    exact (x b u e).stay (fun c v _ q => k c v q) (fun c q => by rw [upd_ne (ne_of_none q hn)]; exact q) fun c xs q => by rw [upd_ne (ne_of_none q hn)]; exact q
end
def Rd (H : Hp) (a : Addr) (u : HO) : Prop := H a = some u ∨ ∃ o, H a = some (.frz o u)
theorem Rd.ok {P : Program} {w : World} {H : Hp} {h : Heap} {a : Addr} {u : HO} (r : Rd H a u) (x : HOk P w H h) : ObjOk P w H h a u := by
  rcases r with r | ⟨o, r⟩
  · exact x a u r
  · obtain ⟨_, q⟩ := x a _ r
    exact q
def Mut : Option HO → Prop
  | some (.lst _) => True
  | some (.dK _) => True
  | some (.dT _) => True
  | some (.set _ _) => True
  | some (.ins _ _ _) => True
  | some (.ext _) => True
  | _ => False
section
variable {P : Program} {w : World} {H : Hp} {h h' : Heap} {x e : Addr} {o' : HO}
theorem HOk.write (ok : HOk P w H h) (mu : Mut (H x)) (he : e = x ∨ H e = some (.own x)) (k : ∀ b u, b ≠ e → h.get? b = some u → h'.get? b = some u) (heo : ∃ u, h'.get? e = some u)
    (new : ObjOk P w (upd H x o') h' x o') : HOk P w (upd H x o') h' := fun b u q => by
  have nown : ∀ c y, H c = some (.own y) → c ≠ x := fun c y r z => by subst z; rw [r] at mu; exact mu
  have ntup : ∀ c xs, H c = some (.tup xs) → c ≠ x := fun c xs r z => by subst z; rw [r] at mu; exact mu
  by_cases hb : b = x
  · subst hb; rw [upd_same] at q; cases q; exact new
  · rw [upd_ne hb] at q
    by_cases hbe : b = e
    · have q' : H b = some (.own x) := by
        rcases he with z | z
        · exact absurd (hbe.trans z) hb
        · rw [hbe]; exact z
      rw [q] at q'; cases q'
      obtain ⟨v, hv⟩ := heo
      exact ⟨v, by rw [hbe]; exact hv⟩
    · refine (ok b u q).stay (fun c v hc r => k c v ?_ r) (fun c r => by rw [upd_ne (nown c b r)]; exact r) fun c xs r => by rw [upd_ne (ntup c xs r)]; exact r
      rcases hc with rfl | hc
      · exact hbe
      · rintro rfl
        rcases he with z | z
        · exact nown c b hc z
        · rw [hc] at z; cases z; exact hb rfl
end
structure Un (fs ex : List Addr) (H H' : Hp) (h h' : Heap) : Prop where
  keep : ∀ b o, h.get? b = some o → H b = none → b ∉ fs → b ∉ ex → h'.get? b = some o
  slot : ∀ b o, h.get? b = some o → H b = none → b ∈ fs → b ∉ ex → ∃ sl, h'.get? b = some { o with slots := sl }
  free : ∀ b o, h.get? b = some o → H b = none → b ∉ ex → H' b = none
  there : ∀ b o, h.get? b = some o → b ∉ ex → ∃ o', h'.get? b = some o'
  tups : ∀ b xs, H b = some (.tup xs) → H' b = some (.tup xs)
  frzs : ∀ b o u, H b = some (.frz o u) → H' b = some (.frz o u)
  tbls : ∀ b ps, H b = some (.tbl ps) → ∃ more, H' b = some (.tbl (ps ++ more))
section
variable {fs fs' ex ex' : List Addr} {H H1 H2 : Hp} {h h1 h2 h' : Heap} {a x e : Addr} {o : HO}
theorem Un.any (u : Un fs ex H H1 h h1) {b : Addr} {ob : Obj} (q : h.get? b = some ob) (n : H b = none) (hx : b ∉ ex) : ∃ sl, h1.get? b = some { ob with slots := sl } := by
  by_cases hb : b ∈ fs
  · exact u.slot b ob q n hb hx
  · exact ⟨ob.slots, u.keep b ob q n hb hx⟩
theorem Un.kept (k : ∀ b u, h.get? b = some u → h'.get? b = some u) : Un fs ex H H h h' :=
  ⟨fun b ob q _ _ _ => k b ob q, fun b ob q _ _ _ => ⟨ob.slots, k b ob q⟩, fun _ _ _ n _ => n, fun b ob q _ => ⟨ob, k b ob q⟩, fun _ _ q => q, fun _ _ _ q => q, fun _ ps q => ⟨#[], by rw [q]; simp⟩⟩
theorem Un.refl : Un fs ex H H h h := Un.kept fun _ _ q => q
theorem Un.laid (k : ∀ b u, h.get? b = some u → h'.get? b = some u) (hp : h.objs.size ≤ a) (hn : H a = none) : Un fs ex H (upd H a o) h h' where
  keep := fun b u q _ _ _ => k b u q
  slot := fun b u q _ _ _ => ⟨u.slots, k b u q⟩
  free := fun b u q n _ => by rw [upd_ne (Nat.ne_of_lt (Nat.lt_of_lt_of_le (Heap.lt_size q) hp))]; exact n
  there := fun b u q _ => ⟨u, k b u q⟩
  tups := fun b xs q => by rw [upd_ne (ne_of_none q hn)]; exact q
  frzs := fun b u xs q => by rw [upd_ne (ne_of_none q hn)]; exact q
  tbls := fun b ps q => ⟨#[], by rw [upd_ne (ne_of_none q hn), q]; simp⟩
theorem Un.write (mu : Mut (H x)) (he : e = x ∨ H e = some (.own x)) (k : ∀ b u, b ≠ e → h.get? b = some u → h'.get? b = some u) (heo : ∃ u, h'.get? e = some u) : Un fs ex H (upd H x o) h h' := by
  have hx : ∀ b, H b = none → b ≠ x := fun b n z => by subst z; rw [n] at mu; exact mu
  have hb : ∀ b, H b = none → b ≠ e := fun b n z => by
    subst z
    rcases he with r | r
    · exact hx b n r
    · rw [n] at r; cases r
  have hm : ∀ b u, H b = some u → ¬ Mut (some u) → b ≠ x := fun b u q nm z => by subst z; rw [q] at mu; exact nm mu
  refine ⟨fun b u q n _ _ => k b u (hb b n) q, fun b u q n _ _ => ⟨u.slots, k b u (hb b n) q⟩, fun b u q n _ => by rw [upd_ne (hx b n)]; exact n, fun b u q _ => ?_,
    fun b xs q => by rw [upd_ne (hm b _ q fun z => z)]; exact q, fun b u xs q => by rw [upd_ne (hm b _ q fun z => z)]; exact q, fun b ps q => ⟨#[], by rw [upd_ne (hm b _ q fun z => z), q]; simp⟩⟩
  by_cases hbe : b = e
  · subst hbe; exact heo
  · exact ⟨u, k b u hbe q⟩
end
def trk (h : Heap) (H : Hp) : List Addr := (List.range h.objs.size).filter fun a => (H a).isSome
def hidT (h : Heap) (H : Hp) : Heap := PySem.W.hideAll h (trk h H)
theorem hidT_size (h : Heap) (H : Hp) : (hidT h H).objs.size = h.objs.size := PySem.W.hideAll_size _ _
theorem hidT_get {h : Heap} {H : Hp} {b : Addr} {o : Obj} (e : h.get? b = some o) (n : H b = none) : (hidT h H).get? b = some o :=
  PySem.W.hideAll_get _ e fun hm => by
    have q : (H b).isSome = true := (List.mem_filter.mp hm).2
    rw [n] at q; simp at q
theorem of_hidT {h : Heap} {H : Hp} {b : Addr} {o : Obj} (e : (hidT h H).get? b = some o) : h.get? b = some o ∧ H b = none := by
  have e' : h.get? b = some o := PySem.W.of_hideAll (trk h H) e
  refine ⟨e', ?_⟩
  cases q : H b with
  | none => rfl
  | some x =>
    have hm : b ∈ trk h H := List.mem_filter.mpr ⟨List.mem_range.mpr (Heap.lt_size e'), by simp [q]⟩
    have z : (hidT h H).get? b = none := PySem.W.hideAll_none (trk h H) hm
    rw [z] at e; cases e
def allNews (g h : Heap) (L : Addr) : List (Addr × Obj) := (List.range h.objs.size).filterMap fun a => if a = L ∨ (g.get? a).isSome = true then none else (h.get? a).map fun o => (a, o)
def rest (g h : Heap) (L d : Addr) : List (Addr × Obj) := (allNews g h L).filter fun p => decide (p.1 ≠ d)
end L2
namespace L2
open PySem PySem.Spec PyProof.Rows
structure Mod (K : PySem.W.Frag) (mg : Str → Option Value) (base : Heap) : Prop where
  kin : K.In base
  glob : base.Ns mainGlobals mg
  blt : ∃ mb, base.Ns builtinsNs mb ∧ ∀ x : Str, x ≠ "__name__" → mb x = bootBuiltins x
  nolimit : base.NoLimit
structure Cx where
  prog : Program
  w : World
  K : PySem.W.Frag
  mg : Str → Option Value
  base : Heap
  A : Around
  N : List Str
  s₀ : Shared
  H₀ : Hp
  env : Env
  outer : List Env
  stack : List Env
  ex : List Addr
  fn : Str → Bool
  calm : Bool
  pn : List (Addr × Obj)
  xe : Value → Shared → Prop
def frs (l : List Env) : List Addr := l.filterMap (·.frame)
abbrev Cx.fs (X : Cx) : List Addr := frs X.outer
def Vis (sc : Scope) (x : Str) : Prop := sc.names.lookup x = some .local ∨ sc.names.lookup x = some .cell ∨ sc.names.lookup x = some .free
def Loc (sc : Scope) (x : Str) : Prop := sc.names.lookup x = some .local ∨ sc.names.lookup x = some .cell
def Look (env : Env) (h : Heap) (m : Str → Option Value) (x : Str) (u : Value) : Prop :=
  (env.kindOf x = some .local ∧ m x = some u) ∨ ((env.kindOf x = some .cell ∨ env.kindOf x = some .free) ∧ ∃ c, env.cells.lookup x = some c ∧ h.IsCell c (some u))
structure Cx.Ok (X : Cx) : Prop where
  mod : Mod X.K X.mg X.base
  kind : X.env.scope.kind = .function
  glob : X.env.globals = mainGlobals
  blt : X.env.builtins = builtinsNs
  above : X.s₀.heap.objs.size ≤ X.env.locals
  inj : ∀ x y c, X.env.cells.lookup x = some c → X.env.cells.lookup y = some c → x = y
  has : ∀ x, (X.env.kindOf x = some .cell ∨ X.env.kindOf x = some .free) → ∃ c, X.env.cells.lookup x = some c
  cab : ∀ x c, X.fn x = true → X.env.cells.lookup x = some c → X.s₀.heap.objs.size ≤ c
  hd : X.calm = true → X.A.handled = none
  frames : X.A.frames = some X.stack
  stk : X.stack = X.outer ∨ (X.stack = X.env :: X.outer ∧ X.env.frame = some X.env.locals)
  exf : ∀ b ∈ X.ex, b ≠ X.env.locals ∧ ∀ x c, X.env.cells.lookup x = some c → c ≠ b
  bs : ∀ b o, X.base.get? b = some o → X.s₀.heap.get? b = some o ∧ X.H₀ b = none
  bsz : X.base.objs.size ≤ X.s₀.heap.objs.size
  noex : ∀ b o, X.base.get? b = some o → b ∉ X.ex
  exfs : ∀ b ∈ X.ex, b ∉ X.fs
  funs : X.s₀.heap.FunFrames X.base X.outer
  frf : ∀ b ∈ X.fs, X.H₀ b = none
structure Inv (X : Cx) (pins : List (Addr × Obj)) (σ : List (Option V)) (H : Hp) (s : Shared) : Prop where
  ok : X.Ok
  os : s.os = X.s₀.os
  bare : AllBare s.gens
  base : Un X.fs X.ex X.H₀ H X.s₀.heap s.heap
  loc : ∃ m, s.heap.Ns X.env.locals m ∧ ∀ (i : Nat) (x : Str) (v : V), X.N[i]? = some x → σ[i]? = some (some v) → Vis X.env.scope x → ∃ u, RelV v u ∧ Look X.env s.heap m x u
  cell : ∀ x c, X.env.cells.lookup x = some c → ∃ v, s.heap.IsCell c v
  free : H X.env.locals = none
  freeC : ∀ x c, X.env.cells.lookup x = some c → H c = none
  pin : ∀ p ∈ X.pn ++ pins, s.heap.get? p.1 = some p.2 ∧ H p.1 = none ∧ p.1 ≠ X.env.locals ∧ p.1 ∉ X.fs ∧ ∀ v, p.2.data ≠ .cell v
  hok : HOk X.prog X.w H s.heap
  len : σ.length = X.N.length
section
variable {X : Cx} {pins : List (Addr × Obj)} {σ : List (Option V)} {H H' : Hp} {s : Shared} {h' : Heap}
theorem Cx.Ok.nofr (ok : X.Ok) {b : Addr} {o : Obj} (e : X.base.get? b = some o) : b ∉ X.fs := fun hb => by
  have := (ok.funs.mem hb).1
  rw [e] at this; cases this
theorem Inv.bs (I : Inv X pins σ H s) : ∀ b o, X.base.get? b = some o → s.heap.get? b = some o ∧ H b = none := fun b o e =>
  ⟨I.base.keep b o (I.ok.bs b o e).1 (I.ok.bs b o e).2 (I.ok.nofr e) (I.ok.noex b o e), I.base.free b o (I.ok.bs b o e).1 (I.ok.bs b o e).2 (I.ok.noex b o e)⟩
theorem Inv.bk (I : Inv X pins σ H s) : ∀ b o, X.base.get? b = some o → s.heap.get? b = some o := fun b o e => (I.bs b o e).1
theorem Inv.mod (I : Inv X pins σ H s) : Mod X.K X.mg X.base := I.ok.mod
theorem Inv.kIn (I : Inv X pins σ H s) : X.K.In s.heap := I.ok.mod.kin.keeps I.bk
theorem Inv.lt (I : Inv X pins σ H s) : X.env.locals < s.heap.objs.size := let ⟨_, hn, _⟩ := I.loc; hn.lt
theorem Inv.sz (I : Inv X pins σ H s) : X.s₀.heap.objs.size ≤ s.heap.objs.size := Nat.le_trans I.ok.above (Nat.le_of_lt I.lt)
theorem Inv.nofs (I : Inv X pins σ H s) {a : Addr} (h : s.heap.objs.size ≤ a) : a ∉ X.fs := fun hb => by
  obtain ⟨_, o, ho, _⟩ := I.ok.funs.mem hb
  exact absurd (Nat.lt_of_lt_of_le (Heap.lt_size ho) (Nat.le_trans I.sz h)) (Nat.lt_irrefl _)
theorem Inv.cne (I : Inv X pins σ H s) : ∀ x c, X.env.cells.lookup x = some c → c ≠ X.env.locals := fun x c e z => by
  obtain ⟨v, o, ho, hd⟩ := I.cell x c e
  obtain ⟨m, ⟨o', es, ep, ho', hd', _⟩, _⟩ := I.loc
  rw [z, ho'] at ho; cases ho; rw [hd'] at hd; cases hd
theorem Inv.funs (I : Inv X pins σ H s) : s.heap.FunFrames X.base X.outer := by
  have all : ∀ (l : List Env), (∀ b ∈ frs l, b ∈ X.fs) → X.s₀.heap.FunFrames X.base l → s.heap.FunFrames X.base l := by
    intro l
    induction l with
    | nil => intro _ _; trivial
    | cons env r ih =>
      intro hs hl
      obtain ⟨hk, ⟨L, o, hf, hn, ho, hd⟩, hr⟩ := hl
      have hL : L ∈ X.fs := hs L (by unfold frs; rw [List.filterMap_cons, hf]; exact List.mem_cons_self)
      obtain ⟨sl, e⟩ := I.base.slot L o ho (I.ok.frf L hL) hL fun z => I.ok.exfs L z hL
      exact ⟨hk, ⟨L, _, hf, hn, e, hd⟩, ih (fun b hb => hs b (by unfold frs; rw [List.filterMap_cons, hf]; exact List.mem_cons_of_mem _ hb)) hr⟩
  exact all X.outer (fun _ hb => hb) I.ok.funs
theorem Inv.stack (I : Inv X pins σ H s) : s.heap.FunFrames X.base X.stack := by
  rcases I.ok.stk with e | ⟨e, hf⟩
  · rw [e]; exact I.funs
  · rw [e]
    obtain ⟨m, hn, _⟩ := I.loc
    refine .cons (by rw [I.ok.kind]; decide) hf hn ?_ I.funs
    exact Heap.get?_none_of_le (Nat.le_trans I.ok.bsz I.ok.above)
theorem Inv.stkSub (I : Inv X pins σ H s) : ∀ b ∈ frs X.stack, b ∈ X.env.locals :: X.fs := fun b hb => by
  rcases I.ok.stk with e | ⟨e, hf⟩
  · rw [e] at hb; exact List.mem_cons_of_mem _ hb
  · rw [e] at hb
    unfold frs at hb
    rw [List.filterMap_cons, hf] at hb
    exact hb
theorem Inv.stkFree (I : Inv X pins σ H s) : ∀ b ∈ frs X.stack, H b = none := fun b hb => by
  rcases List.mem_cons.mp (I.stkSub b hb) with e | hb
  · rw [e]; exact I.free
  · obtain ⟨_, o, ho, _⟩ := I.ok.funs.mem hb
    exact I.base.free b o ho (I.ok.frf b hb) fun z => I.ok.exfs b z hb
theorem Inv.step {g' : Array GenState} {t' : Nat} {d' : Drawn} {ch : List Addr} (I : Inv X pins σ H s)
    (hch : ∀ b ∈ ch, (b ∈ X.ex ∨ X.s₀.heap.objs.size ≤ b) ∧ b ≠ X.env.locals ∧ (∀ x c, X.env.cells.lookup x = some c → c ≠ b) ∧ ∀ p ∈ X.pn ++ pins, p.1 ≠ b)
    (keep : ∀ b o, b ≠ X.env.locals → b ∉ X.fs → b ∉ ch → s.heap.get? b = some o → H b = none → h'.get? b = some o)
    (slot : ∀ b o, b ≠ X.env.locals → b ∈ X.fs → b ∉ ch → s.heap.get? b = some o → H b = none → ∃ sl, h'.get? b = some { o with slots := sl }) (free : ∀ b o, b ∉ ch → s.heap.get? b = some o → H b = none → H' b = none)
    (there : ∀ b o, b ∉ ch → s.heap.get? b = some o → ∃ o', h'.get? b = some o')
    (tups : ∀ b xs, H b = some (.tup xs) → H' b = some (.tup xs)) (frzs : ∀ b o u, H b = some (.frz o u) → H' b = some (.frz o u)) (tbls : ∀ b ps, H b = some (.tbl ps) → ∃ more, H' b = some (.tbl (ps ++ more)))
    (ns : ∀ m, s.heap.Ns X.env.locals m → h'.Ns X.env.locals m) (hok : HOk X.prog X.w H' h') (hg : AllBare g') :
    Inv X pins σ H' { s with heap := h', gens := g', drawn := d', toks := t' } := by
  have neL : ∀ b o, X.s₀.heap.get? b = some o → b ≠ X.env.locals := fun b o e => Nat.ne_of_lt (Nat.lt_of_lt_of_le (Heap.lt_size e) I.ok.above)
  have neC : ∀ b o, X.s₀.heap.get? b = some o → b ∉ X.ex → b ∉ ch := fun b o e hx hb => by
    rcases (hch b hb).1 with z | z
    · exact hx z
    · exact absurd (Nat.lt_of_lt_of_le (Heap.lt_size e) z) (Nat.lt_irrefl _)
  have cellK : ∀ x c, X.env.cells.lookup x = some c → ∀ v, s.heap.IsCell c v → h'.IsCell c v := fun x c e v ⟨o, ho, hd⟩ => by
    have nch : c ∉ ch := fun z => (hch c z).2.2.1 x c e rfl
    by_cases hc : c ∈ X.fs
    · obtain ⟨sl, q⟩ := slot c o (I.cne x c e) hc nch ho (I.freeC x c e)
      exact ⟨_, q, hd⟩
    · exact ⟨o, keep c o (I.cne x c e) hc nch ho (I.freeC x c e), hd⟩
  refine ⟨I.ok, I.os, hg, ⟨fun b o e n hb hx => ?_, fun b o e n hb hx => ?_, fun b o e n hx => ?_, fun b o e hx => ?_, fun b xs e => tups b xs (I.base.tups b xs e), fun b o xs e => frzs b o xs (I.base.frzs b o xs e), fun b ps e => ?_⟩, ?_, fun x c e => ?_, ?_, fun x c e => ?_, fun p hp => ?_, hok, I.len⟩
  · exact keep b o (neL b o e) hb (neC b o e hx) (I.base.keep b o e n hb hx) (I.base.free b o e n hx)
  · obtain ⟨sl, e1⟩ := I.base.slot b o e n hb hx
    obtain ⟨sl', e2⟩ := slot b _ (neL b o e) hb (neC b o e hx) e1 (I.base.free b o e n hx)
    exact ⟨sl', e2⟩
  · obtain ⟨o', e1⟩ := I.base.there b o e hx
    exact free b o' (neC b o e hx) e1 (I.base.free b o e n hx)
  · obtain ⟨o', e1⟩ := I.base.there b o e hx
    exact there b o' (neC b o e hx) e1
  · obtain ⟨m1, e1⟩ := I.base.tbls b ps e
    obtain ⟨m2, e2⟩ := tbls b _ e1
    exact ⟨m1 ++ m2, by rw [e2, Array.append_assoc]⟩
  · obtain ⟨m, hn, hl⟩ := I.loc
    refine ⟨m, ns m hn, fun i x v e1 e2 e3 => ?_⟩
    obtain ⟨u, r, l⟩ := hl i x v e1 e2 e3
    refine ⟨u, r, ?_⟩
    rcases l with l | ⟨k, c, e, z⟩
    · exact .inl l
    · exact .inr ⟨k, c, e, cellK x c e _ z⟩
  · obtain ⟨v, z⟩ := I.cell x c e
    exact ⟨v, cellK x c e v z⟩
  · obtain ⟨m, ⟨o, _, _, ho, _⟩, _⟩ := I.loc
    exact free _ o (fun z => (hch _ z).2.1 rfl) ho I.free
  · obtain ⟨v, o, ho, hd⟩ := I.cell x c e
    exact free c o (fun z => (hch c z).2.2.1 x c e rfl) ho (I.freeC x c e)
  · obtain ⟨e, n, ne, nf, d⟩ := I.pin p hp
    have nch : p.1 ∉ ch := fun z => (hch p.1 z).2.2.2 p hp rfl
    exact ⟨keep p.1 p.2 ne nf nch e n, free p.1 p.2 nch e n, ne, nf, d⟩
theorem Inv.un {t' : Nat} (I : Inv X pins σ H s) (u : Un X.fs [] H H' s.heap h') (hok : HOk X.prog X.w H' h') : Inv X pins σ H' { s with heap := h', toks := t' } := by
  obtain ⟨m, ⟨o, es, ep, ho, r⟩, _⟩ := id I.loc
  obtain ⟨sl, hL⟩ := u.any ho I.free (by simp)
  exact I.step (g' := s.gens) (d' := s.drawn) (ch := []) (fun _ z => nomatch z) (fun b o _ hb _ e n => u.keep b o e n hb (by simp)) (fun b o _ hb _ e n => u.slot b o e n hb (by simp)) (fun b o _ e n => u.free b o e n (by simp)) (fun b o _ e => u.there b o e (by simp)) u.tups u.frzs u.tbls (fun m' hm => by
    obtain ⟨o', es', ep', ho', r'⟩ := hm
    rw [ho] at ho'; cases ho'
    exact ⟨_, es', ep', hL, r'⟩) hok I.bare
theorem Inv.call {g' : Array GenState} {t' : Nat} {d' : Drawn} {ch : List Addr} (I : Inv X pins σ H s) (u : Un (frs X.stack) ch H H' s.heap h') (hok : HOk X.prog X.w H' h') (hg : AllBare g')
    (hch : ∀ b ∈ ch, (b ∈ X.ex ∨ X.s₀.heap.objs.size ≤ b) ∧ b ≠ X.env.locals ∧ (∀ x c, X.env.cells.lookup x = some c → c ≠ b) ∧ ∀ p ∈ X.pn ++ pins, p.1 ≠ b) :
    Inv X pins σ H' { s with heap := h', gens := g', drawn := d', toks := t' } := by
  obtain ⟨m, ⟨o, es, ep, ho, r⟩, _⟩ := id I.loc
  obtain ⟨sl, hL⟩ := u.any ho I.free fun z => (hch _ z).2.1 rfl
  exact I.step (ch := ch) hch (fun b o hL hb hc e n => u.keep b o e n (fun z => (List.mem_cons.mp (I.stkSub b z)).elim hL hb) hc) (fun b o _ _ hc e n => u.any e n hc) (fun b o hc e n => u.free b o e n hc) (fun b o hc e => u.there b o e hc) u.tups u.frzs u.tbls (fun m' hm => by
    obtain ⟨o', es', ep', ho', r'⟩ := hm
    rw [ho] at ho'; cases ho'
    exact ⟨_, es', ep', hL, r'⟩) hok hg
theorem Inv.turned {t' : Nat} {it : Addr} (I : Inv X pins σ H s) (k : ∀ b o, b ≠ it → s.heap.get? b = some o → h'.get? b = some o) (hn : H it = none) (hL : it ≠ X.env.locals)
    (h1 : it ∈ X.ex ∨ X.s₀.heap.objs.size ≤ it) (h2 : ∀ x c, X.env.cells.lookup x = some c → c ≠ it) (h3 : ∀ p ∈ X.pn ++ pins, p.1 ≠ it) : Inv X pins σ H { s with heap := h', toks := t' } := by
  have nit : ∀ b u, H b = some u → b ≠ it := fun b u e z => by rw [z, hn] at e; cases e
  refine I.step (g' := s.gens) (d' := s.drawn) (ch := [it]) (fun b hb => ?_) (fun b o _ _ hc e _ => k b o (fun z => hc (by simp [z])) e) (fun b o _ _ hc e _ => ⟨o.slots, k b o (fun z => hc (by simp [z])) e⟩) (fun _ _ _ _ n => n)
    (fun b o hc e => ⟨o, k b o (fun z => hc (by simp [z])) e⟩) (fun _ _ e => e) (fun _ _ _ e => e) (fun b ps e => ⟨#[], by rw [e]; simp⟩) (fun m hm => ?_) (fun b u e => ?_) I.bare
  · have e : b = it := by simpa using hb
    subst e
    exact ⟨h1, hL, h2, h3⟩
  · obtain ⟨o, es, ep, ho, r⟩ := hm
    exact ⟨o, es, ep, k _ o (Ne.symm hL) ho, r⟩
  · refine (I.hok b u e).stay (fun c v hc q => k c v ?_ q) (fun _ q => q) fun _ _ q => q
    rcases hc with z | z
    · rw [z]; exact nit b u e
    · exact nit c _ z
theorem Inv.tok (I : Inv X pins σ H s) (t : Nat) : Inv X pins σ H { s with toks := t } := I.un (h' := s.heap) (t' := t) Un.refl I.hok
theorem Inv.kept {t' : Nat} (I : Inv X pins σ H s) (k : ∀ b u, s.heap.get? b = some u → h'.get? b = some u) : Inv X pins σ H { s with heap := h', toks := t' } := I.un (Un.kept k) (I.hok.kept k)
theorem Inv.laid {a : Addr} {o : HO} {t' : Nat} (I : Inv X pins σ H s) (k : ∀ b u, s.heap.get? b = some u → h'.get? b = some u) (hp : s.heap.objs.size ≤ a) (new : ObjOk X.prog X.w (upd H a o) h' a o) :
    Inv X pins σ (upd H a o) { s with heap := h', toks := t' } := I.un (Un.laid k hp (I.hok.fresh hp)) (I.hok.laid k hp new)
theorem Inv.write {x e : Addr} {o : HO} {t' : Nat} (I : Inv X pins σ H s) (mu : Mut (H x)) (he : e = x ∨ H e = some (.own x)) (k : ∀ b u, b ≠ e → s.heap.get? b = some u → h'.get? b = some u) (heo : ∃ u, h'.get? e = some u)
    (new : ObjOk X.prog X.w (upd H x o) h' x o) : Inv X pins σ (upd H x o) { s with heap := h', toks := t' } := I.un (Un.write mu he k heo) (I.hok.write mu he k heo new)
theorem Inv.weak {σ' : List (Option V)} (I : Inv X pins σ H s) (hl : σ'.length = σ.length) (w : ∀ (i : Nat) v, σ'[i]? = some (some v) → σ[i]? = some (some v)) : Inv X pins σ' H s :=
  ⟨I.ok, I.os, I.bare, I.base, let ⟨m, hn, hl'⟩ := I.loc; ⟨m, hn, fun i x v e1 e2 e3 => hl' i x v e1 (w i v e2) e3⟩, I.cell, I.free, I.freeC, I.pin, I.hok, hl.trans I.len⟩
theorem Inv.pins_of {pins' : List (Addr × Obj)} (I : Inv X pins σ H s) (h : ∀ p ∈ pins', s.heap.get? p.1 = some p.2 ∧ H p.1 = none ∧ p.1 ≠ X.env.locals ∧ p.1 ∉ X.fs ∧ ∀ v, p.2.data ≠ .cell v) : Inv X pins' σ H s :=
  ⟨I.ok, I.os, I.bare, I.base, I.loc, I.cell, I.free, I.freeC, fun p hp => (List.mem_append.mp hp).elim (fun z => I.pin p (List.mem_append_left _ z)) (h p), I.hok, I.len⟩
theorem nodup_ix {N : List Str} (hN : N.Nodup) {i j : Nat} {x : Str} (a : N[i]? = some x) (b : N[j]? = some x) : i = j := by
  obtain ⟨h1, e1⟩ := List.getElem?_eq_some_iff.mp a
  obtain ⟨h2, e2⟩ := List.getElem?_eq_some_iff.mp b
  exact (List.getElem_inj hN).mp (e1.trans e2.symm)
theorem store_ok2 {M : Model} {A : Around} {E : Value → Shared → Prop} {i : Nat} {x : Str} {v : V} {u : Value} {Q : Unit → Shared → Prop} (I : Inv X pins σ H s) (hN : X.N.Nodup) (hi : X.N[i]? = some x) (hx : Loc X.env.scope x) (r : RelV v u)
    (h : ∀ s', Inv X pins (σ.set i (some v)) H s' → (∃ a, Heap.SameBut a s.heap s'.heap ∧ (a = X.env.locals ∨ X.env.cells.lookup x = some a)) → Q () s') (hf : X.fn x = true ∨ X.env.scope.names.lookup x = some .local := by first | exact .inl rfl | exact .inr rfl | assumption) : wpAny M A (storeName X.env x u) Q E s := by
  obtain ⟨m, hn, hl⟩ := id I.loc
  have hcls : (X.env.scope.kind == .class || (X.env.scope.kind == .module && X.env.locals != X.env.globals)) = false := by rw [I.ok.kind]; rfl
  have hiσ : i < σ.length := by rw [I.len]; exact (List.getElem?_eq_some_iff.mp hi).1
  have cne := I.cne
  have tracked : ∀ {a : Addr} {h' : Heap}, (∃ o, s.heap.get? a = some o ∧ H a = none) → Heap.SameBut a s.heap h' → HOk X.prog X.w H h' := fun {a h'} ha hs b ob e => by
    obtain ⟨_, _, hfree⟩ := ha
    refine (I.hok b ob e).stay (fun c w' hc q => (hs.2 c ?_).trans q) (fun _ q => q) fun _ _ q => q
    rintro rfl
    rcases hc with rfl | hc
    · rw [hfree] at e; cases e
    · rw [hfree] at hc; cases hc
  rcases hx with hk | hk
  · refine wpAny_storeName_local hk hn (fun h' hn' hs => ?_) hcls
    obtain ⟨oL, _, _, hoL, _⟩ := id hn
    refine h _ ⟨I.ok, I.os, I.bare, ⟨fun b o e n hb hx => ?_, fun b o e n hb hx => ?_, I.base.free, fun b o e hx => ?_, I.base.tups, I.base.frzs, I.base.tbls⟩, ⟨_, hn', fun j y v' e1 e2 e3 => ?_⟩, fun y c e => ?_, I.free, I.freeC, fun p hp => ?_, tracked ⟨oL, hoL, I.free⟩ hs, by simpa using I.len⟩ ⟨_, hs, .inl rfl⟩
    · exact (hs.2 b (Nat.ne_of_lt (Nat.lt_of_lt_of_le (Heap.lt_size e) I.ok.above))).trans (I.base.keep b o e n hb hx)
    · obtain ⟨sl, e1⟩ := I.base.slot b o e n hb hx
      exact ⟨sl, (hs.2 b (Nat.ne_of_lt (Nat.lt_of_lt_of_le (Heap.lt_size e) I.ok.above))).trans e1⟩
    · obtain ⟨o', e1⟩ := I.base.there b o e hx
      exact ⟨o', (hs.2 b (Nat.ne_of_lt (Nat.lt_of_lt_of_le (Heap.lt_size e) I.ok.above))).trans e1⟩
    · by_cases hj : j = i
      · subst hj
        rw [hi] at e1; cases e1
        rw [List.getElem?_set_self hiσ] at e2
        cases e2
        exact ⟨u, r, .inl ⟨hk, by simp⟩⟩
      · rw [List.getElem?_set_ne (Ne.symm hj)] at e2
        obtain ⟨u', r', q⟩ := hl j y v' e1 e2 e3
        refine ⟨u', r', ?_⟩
        rcases q with ⟨k, e⟩ | ⟨k, c, e, z⟩
        · refine .inl ⟨k, ?_⟩
          have : y ≠ x := fun e => hj (nodup_ix hN e1 (e ▸ hi))
          simp [this, e]
        · exact .inr ⟨k, c, e, z.sameBut hs (cne y c e)⟩
    · obtain ⟨w', z⟩ := I.cell y c e
      exact ⟨w', z.sameBut hs (cne y c e)⟩
    · obtain ⟨e, n, ne, nf, d⟩ := I.pin p hp
      exact ⟨(hs.2 p.1 ne).trans e, n, ne, nf, d⟩
  · have hfn : X.fn x = true := by
      rcases hf with z | z
      · exact z
      · rw [z] at hk; cases hk
    obtain ⟨c, hc⟩ := I.ok.has x (.inl hk)
    obtain ⟨w', z⟩ := I.cell x c hc
    refine wpAny_storeName_cell I.ok.kind hk hc z (fun h' hc' hs => ?_)
    obtain ⟨oc, hoc, hocd⟩ := id z
    refine h { s with heap := h' } ⟨I.ok, I.os, I.bare, ⟨fun b o e n hb hx => ?_, fun b o e n hb hx => ?_, I.base.free, fun b o e hx => ?_, I.base.tups, I.base.frzs, I.base.tbls⟩, ⟨m, hn.sameBut hs (Ne.symm (cne x c hc)), fun j y v' e1 e2 e3 => ?_⟩, fun y c' e => ?_, I.free, I.freeC, fun p hp => ?_, tracked ⟨oc, hoc, I.freeC x c hc⟩ hs, by simpa using I.len⟩ ⟨c, hs, .inr hc⟩
    · exact (hs.2 b (Nat.ne_of_lt (Nat.lt_of_lt_of_le (Heap.lt_size e) (I.ok.cab x c hfn hc)))).trans (I.base.keep b o e n hb hx)
    · obtain ⟨sl, e1⟩ := I.base.slot b o e n hb hx
      exact ⟨sl, (hs.2 b (Nat.ne_of_lt (Nat.lt_of_lt_of_le (Heap.lt_size e) (I.ok.cab x c hfn hc)))).trans e1⟩
    · obtain ⟨o', e1⟩ := I.base.there b o e hx
      exact ⟨o', (hs.2 b (Nat.ne_of_lt (Nat.lt_of_lt_of_le (Heap.lt_size e) (I.ok.cab x c hfn hc)))).trans e1⟩
    · by_cases hj : j = i
      · subst hj
        rw [hi] at e1; cases e1
        rw [List.getElem?_set_self hiσ] at e2
        cases e2
        exact ⟨u, r, .inr ⟨.inl hk, c, hc, hc'⟩⟩
      · rw [List.getElem?_set_ne (Ne.symm hj)] at e2
        obtain ⟨u', r', q⟩ := hl j y v' e1 e2 e3
        refine ⟨u', r', ?_⟩
        rcases q with q | ⟨k, c', e, z'⟩
        · exact .inl q
        · refine .inr ⟨k, c', e, z'.sameBut hs ?_⟩
          rintro rfl
          exact hj (nodup_ix hN e1 (I.ok.inj _ _ _ e hc ▸ hi))
    · by_cases hcc : c' = c
      · subst hcc; exact ⟨_, hc'⟩
      · obtain ⟨w2, z2⟩ := I.cell y c' e
        exact ⟨w2, z2.sameBut hs hcc⟩
    · obtain ⟨e, n, ne, nf, d⟩ := I.pin p hp
      refine ⟨(hs.2 p.1 ?_).trans e, n, ne, nf, d⟩
      intro q
      rw [q, hoc] at e
      have q' : oc = p.2 := Option.some.inj e
      exact d w' (by rw [← q']; exact hocd)
theorem store_ok {M : Model} {A : Around} {E : Value → Shared → Prop} {i : Nat} {x : Str} {v : V} {u : Value} {Q : Unit → Shared → Prop} (I : Inv X pins σ H s) (hN : X.N.Nodup) (hi : X.N[i]? = some x) (hx : Loc X.env.scope x) (r : RelV v u)
    (h : ∀ s', Inv X pins (σ.set i (some v)) H s' → Q () s') (hf : X.fn x = true ∨ X.env.scope.names.lookup x = some .local := by first | exact .inl rfl | exact .inr rfl | assumption) : wpAny M A (storeName X.env x u) Q E s :=
  store_ok2 I hN hi hx r (fun s' I' _ => h s' I') hf
theorem Inv.call' {s' : Shared} {ch : List Addr} (I : Inv X pins σ H s) (ho : s'.os = s.os) (u : Un (frs X.stack) ch H H' s.heap s'.heap) (hok : HOk X.prog X.w H' s'.heap) (hg : AllBare s'.gens)
    (hch : ∀ b ∈ ch, (b ∈ X.ex ∨ X.s₀.heap.objs.size ≤ b) ∧ b ≠ X.env.locals ∧ (∀ x c, X.env.cells.lookup x = some c → c ≠ b) ∧ ∀ p ∈ X.pn ++ pins, p.1 ≠ b) : Inv X pins σ H' s' := by
  obtain ⟨h', g', d', t', o'⟩ := s'
  have e : o' = s.os := ho
  subst e
  exact I.call (g' := g') (t' := t') (d' := d') u hok hg hch
end
abbrev XK := Value → Option Addr → Hp → Prop
abbrev St := List (Option V)
abbrev VK := V → Hp → Prop
abbrev TE := St → Hp → VK → Prop
abbrev TT := St → Hp → (Bool → Hp → Prop) → Prop
abbrev TA := St → Hp → (List V → Hp → Prop) → Prop
structure Ends where
  nx : St → Hp → Prop
  rt : VK
  bk : St → Hp → Prop := fun _ _ => False
  ct : St → Hp → Prop := fun _ _ => False
abbrev TS := Ends → St → Hp → Prop
def EP (X : Cx) (pins : List (Addr × Obj)) (σ : St) (Q : VK) (u : Value) (s' : Shared) : Prop := ∃ v H', Inv X pins σ H' s' ∧ RelV v u ∧ Q v H'
def TP (X : Cx) (pins : List (Addr × Obj)) (σ : St) (Q : Bool → Hp → Prop) (b : Bool) (s' : Shared) : Prop := ∃ H', Inv X pins σ H' s' ∧ Q b H'
def AP (X : Cx) (pins : List (Addr × Obj)) (σ : St) (Q : List V → Hp → Prop) (us : List Value) (s' : Shared) : Prop := ∃ vs H', Inv X pins σ H' s' ∧ Vals vs us ∧ Q vs H'
def SP (X : Cx) (pins : List (Addr × Obj)) (D : Ends) (f : Flow) (s' : Shared) : Prop :=
  match f with
  | .next => ∃ σ' H', Inv X pins σ' H' s' ∧ D.nx σ' H'
  | .brk => ∃ σ' H', Inv X pins σ' H' s' ∧ D.bk σ' H'
  | .cont => ∃ σ' H', Inv X pins σ' H' s' ∧ D.ct σ' H'
  | .ret u => ∃ v σ' H', Inv X pins σ' H' s' ∧ RelV v u ∧ D.rt v H'
def PE (X : Cx) (e : Expr) (t : TE) : Prop :=
  ∀ (pins : List (Addr × Obj)) (s : Shared) (σ : St) (H : Hp) (Q : VK), Inv X pins σ H s → t σ H Q → wpAny (model X.prog X.w) X.A (eval e X.env) (EP X pins σ Q) X.xe s
def PT (X : Cx) (e : Expr) (t : TT) : Prop :=
  ∀ (pins : List (Addr × Obj)) (s : Shared) (σ : St) (H : Hp) (Q : Bool → Hp → Prop), Inv X pins σ H s → t σ H Q → wpAny (model X.prog X.w) X.A (isTrue e X.env (eval e X.env)) (TP X pins σ Q) X.xe s
def PW (X : Cx) (e : Expr) (t : TT) : Prop :=
  ∀ (whole : Sem Value) (pins : List (Addr × Obj)) (s : Shared) (σ : St) (H : Hp) (Q : Bool → Hp → Prop), Inv X pins σ H s → t σ H Q → wpAny (model X.prog X.w) X.A (isTrue e X.env whole) (TP X pins σ Q) X.xe s
theorem PW.pt {X : Cx} {e : Expr} {t : TT} (h : PW X e t) : PT X e t := h _
def PA (X : Cx) (es : List Expr) (t : TA) : Prop :=
  ∀ (pos : Pos) (pins : List (Addr × Obj)) (s : Shared) (σ : St) (H : Hp) (Q : List V → Hp → Prop), Inv X pins σ H s → t σ H Q → wpAny (model X.prog X.w) X.A (spliced (backTo pos (starEach es X.env))) (AP X pins σ Q) X.xe s
def PS (X : Cx) (st : Stmt) (t : TS) : Prop :=
  ∀ (pins : List (Addr × Obj)) (s : Shared) (σ : St) (H : Hp) (D : Ends), Inv X pins σ H s → t D σ H → wpAny (model X.prog X.w) X.A (exec st X.env) (SP X pins D) X.xe s
def PSs (X : Cx) (st : List Stmt) (t : TS) : Prop :=
  ∀ (pins : List (Addr × Obj)) (s : Shared) (σ : St) (H : Hp) (D : Ends), Inv X pins σ H s → t D σ H → wpAny (model X.prog X.w) X.A (execs st X.env) (SP X pins D) X.xe s
theorem thn {α : Type} {t : Sem α} {Q Q' : α → Shared → Prop} {M : Model} {A : Around} {E : Value → Shared → Prop} {s : Shared} (h : wpAny M A t Q E s) (hQ : ∀ a s, Q a s → Q' a s) : wpAny M A t Q' E s := wpAny_mono h hQ fun _ _ x => x
end L2
namespace L2
open PySem PySem.Spec PyProof.Rows
section
variable {X : Cx}
def tVar (i : Nat) : TE := fun σ H Q => ∃ v, σ[i]? = some (some v) ∧ Q v H
def tC (v : V) : TE := fun _ H Q => Q v H
theorem pe_var {i : Nat} {x : Str} {pos : Pos} (hN : X.N[i]? = some x) (hv : Vis X.env.scope x) (hd : (x == ("__debug__" : Str)) = false := by decide) (hcd : (x == ("__classdict__" : Str)) = false := by decide) : PE X (.Name x pos) (tVar i) := by
  intro pins s σ H Q I h
  obtain ⟨v, e, h⟩ := h
  obtain ⟨m, hn, hl⟩ := I.loc
  obtain ⟨u, r, l⟩ := hl i x v hN e hv
  have fin : EP X pins σ Q u s := ⟨v, H, I, r, h⟩
  rcases l with ⟨hk, hm⟩ | ⟨hk, c, hc, hcell⟩
  · exact wpAny_Name (wpAny_loadName_local I.ok.kind hk hn hm fin) hd
  · rcases hk with hk | hk
    · exact wpAny_Name (wpAny_loadName_cell I.ok.kind hk hc hcell fin) hd
    · exact wpAny_Name (wpAny_loadName_free I.ok.kind hk hc hcell fin hcd) hd
theorem pe_int {i j pos} : PE X (.Constant (.int i) j pos) (tC (.int i)) := fun _ _ _ H _ I h => wpAny_Constant_int ⟨.int i, H, I.tok _, ⟨_, rfl⟩, h⟩
theorem pe_bl {b j pos} : PE X (.Constant (.bool b) j pos) (tC (.bl b)) := fun _ _ _ H _ I h => Constant_bool ⟨.bl b, H, I, rfl, h⟩
theorem pe_non {j pos} : PE X (.Constant .none j pos) (tC .non) := fun _ _ _ H _ I h => Constant_none ⟨.non, H, I, rfl, h⟩
theorem pe_str {x j pos} : PE X (.Constant (.str x) j pos) (tC (.str x)) := fun _ _ _ H _ I h => Calls.Constant_str ⟨.str x, H, I.tok _, ⟨_, rfl⟩, h⟩
def Gl (X : Cx) (x : Str) : Prop := X.env.kindOf x = some .globalImplicit
theorem ld_glob {E : Value → Shared → Prop} {pins : List (Addr × Obj)} {s : Shared} {σ : St} {H : Hp} {x : Str} {u : Value} {pos : Pos} {Q : Value → Shared → Prop} (I : Inv X pins σ H s) (hg : Gl X x) (hm : X.mg x = some u) (h : Q u s)
    (hd : (x == ("__debug__" : Str)) = false := by decide) : wpAny (model X.prog X.w) X.A (eval (.Name x pos) X.env) Q E s :=
  Calls.Name_function_global I.ok.kind hg (Calls.loadGlobal_global (by rw [I.ok.glob]; exact I.mod.glob.keeps I.bk) hm h) hd
theorem ld_blt {E : Value → Shared → Prop} {pins : List (Addr × Obj)} {s : Shared} {σ : St} {H : Hp} {x : Str} {u : Value} {pos : Pos} {Q : Value → Shared → Prop} (I : Inv X pins σ H s) (hg : Gl X x) (hm : X.mg x = none) (hv : bootBuiltins x = some u) (h : Q u s)
    (hn : x ≠ "__name__" := by decide) (hd : (x == ("__debug__" : Str)) = false := by decide) : wpAny (model X.prog X.w) X.A (eval (.Name x pos) X.env) Q E s := by
  obtain ⟨mb, h1, h2⟩ := I.mod.blt
  exact Calls.Name_function_global I.ok.kind hg (Calls.loadGlobal_builtin (by rw [I.ok.glob]; exact I.mod.glob.keeps I.bk) hm (by rw [I.ok.blt]; exact h1.keeps I.bk) ((h2 x hn).trans hv) h) hd
theorem pe_glob {x : Str} {v : V} {u : Value} {pos : Pos} (hg : Gl X x) (hm : X.mg x = some u) (r : RelV v u) (hd : (x == ("__debug__" : Str)) = false := by decide) : PE X (.Name x pos) (tC v) :=
  fun _ _ _ H _ I h => ld_glob I hg hm ⟨v, H, I, r, h⟩ hd
theorem pe_bltn {x : Str} {v : V} {u : Value} {pos : Pos} (hg : Gl X x) (hm : X.mg x = none) (hv : bootBuiltins x = some u) (r : RelV v u) (hn : x ≠ "__name__" := by decide) (hd : (x == ("__debug__" : Str)) = false := by decide) : PE X (.Name x pos) (tC v) :=
  fun _ _ _ H _ I h => ld_blt I hg hm hv ⟨v, H, I, r, h⟩ hn hd
def t2I (ta tb : TE) (k : Int → Int → Hp → Prop) : St → Hp → Prop := fun σ H => ta σ H fun x H1 => tb σ H1 fun y H2 => ∃ i j, x = .int i ∧ y = .int j ∧ k i j H2
def tAdd (ta tb : TE) : TE := fun σ H Q => t2I ta tb (fun i j H2 => Q (.int (i + j)) H2) σ H
def tSub (ta tb : TE) : TE := fun σ H Q => t2I ta tb (fun i j H2 => Q (.int (i - j)) H2) σ H
def tMul (ta tb : TE) : TE := fun σ H Q => t2I ta tb (fun i j H2 => (-(2 ^ 64) < i ∧ i < 2 ^ 64) ∧ Q (.int (i * j)) H2) σ H
variable {a b : Expr} {ta tb : TE} {pos : Pos}
def PC (X : Cx) (op : CmpOp) (a b : Expr) (t : TE) : Prop :=
  ∀ (pins : List (Addr × Obj)) (s : Shared) (σ : St) (H : Hp) (Q : VK), Inv X pins σ H s → t σ H Q →
    wpAny (model X.prog X.w) X.A (eval a X.env) (fun v s₁ => wpAny (model X.prog X.w) X.A (eval b X.env) (fun u s₂ => wpAny (model X.prog X.w) X.A (compareOp op v u) (EP X pins σ Q) X.xe s₂) X.xe s₁) X.xe s
def tCmp (p : Int → Int → Bool) (ta tb : TE) : TE := fun σ H Q => t2I ta tb (fun i j H2 => Q (.bl (p i j)) H2) σ H
abbrev tLt : TE → TE → TE := tCmp fun i j => decide (i < j)
abbrev tLe : TE → TE → TE := tCmp fun i j => decide (i ≤ j)
abbrev tGt : TE → TE → TE := tCmp fun i j => decide (j < i)
abbrev tGe : TE → TE → TE := tCmp fun i j => decide (j ≤ i)
abbrev tEqI : TE → TE → TE := tCmp fun i j => decide (i = j)
abbrev tNeI : TE → TE → TE := tCmp fun i j => !decide (i = j)
def tIsN (ta : TE) : TE := fun σ H Q => ta σ H fun x H1 => Q (.bl (decide (x = .non))) H1
def tNotN (ta : TE) : TE := fun σ H Q => ta σ H fun x H1 => Q (.bl (!decide (x = .non))) H1
def tB (t : TE) : TT := fun σ H Q => t σ H fun x H1 => ∃ c, x = .bl c ∧ Q c H1
theorem pt_val {e : Expr} {t : TE} (h : PE X e t) (he : ∀ whole, isTrue e X.env whole = (do let v ← whole; standAt e.pos; holding [v] (truthy v)) := by intro _; rfl) : PT X e (tB t) := by
  intro pins s σ H Q I hw
  refine isTrue_plain (thn (h pins s σ H _ I hw) fun v s1 ⟨x, H1, I1, r1, q1⟩ => ?_) (he _)
  obtain ⟨d, rfl, q⟩ := q1
  cases r1
  exact wpAny_truthy_bool ⟨H1, I1, q⟩
variable {tA tB' : TT} {rest : List Expr}
def tAnd (t u : TT) : TT := fun σ H Q => t σ H fun c H1 => if c = true then u σ H1 Q else Q false H1
def tOr (t u : TT) : TT := fun σ H Q => t σ H fun c H1 => if c = true then Q true H1 else u σ H1 Q
def tNot (t : TT) : TT := fun σ H Q => t σ H fun c H1 => Q (!c) H1
theorem pw_and1 (ha : PT X a tA) : PW X (.BoolOp .And [a] pos) tA := by
  intro wh pins s σ H Q I h
  refine isTrue_and (thn (ha pins s σ H Q I h) fun c s1 e => ?_)
  cases c with
  | true => exact isTrue_and_nil e
  | false => exact e
theorem pw_or1 (ha : PT X a tA) : PW X (.BoolOp .Or [a] pos) tA := by
  intro wh pins s σ H Q I h
  refine isTrue_or (thn (ha pins s σ H Q I h) fun c s1 e => ?_)
  cases c with
  | false => exact isTrue_or_nil e
  | true => exact e
theorem pw_and (ha : PT X a tA) (hb : PW X (.BoolOp .And (b :: rest) pos) tB') : PW X (.BoolOp .And (a :: b :: rest) pos) (tAnd tA tB') := by
  intro wh pins s σ H Q I h
  refine isTrue_and (thn (ha pins s σ H _ I h) fun c s1 ⟨H1, I1, q1⟩ => ?_)
  cases c with
  | true => exact hb wh pins s1 σ H1 Q I1 q1
  | false => exact ⟨H1, I1, q1⟩
theorem pw_or (ha : PT X a tA) (hb : PW X (.BoolOp .Or (b :: rest) pos) tB') : PW X (.BoolOp .Or (a :: b :: rest) pos) (tOr tA tB') := by
  intro wh pins s σ H Q I h
  refine isTrue_or (thn (ha pins s σ H _ I h) fun c s1 ⟨H1, I1, q1⟩ => ?_)
  cases c with
  | true => exact ⟨H1, I1, q1⟩
  | false => exact hb wh pins s1 σ H1 Q I1 q1
theorem pt_not (ha : PT X a tA) : PT X (.UnaryOp .Not a pos) (tNot tA) := by
  intro pins s σ H Q I h
  exact isTrue_not (ha pins s σ H (fun c H1 => Q (!c) H1) I h)
def tAndV (ta tb : TE) : TE := fun σ H Q => ta σ H fun x H1 => ∃ c, x = .bl c ∧ if c = true then tb σ H1 Q else Q (.bl false) H1
def tOrV (ta tb : TE) : TE := fun σ H Q => ta σ H fun x H1 => ∃ c, x = .bl c ∧ if c = true then Q (.bl true) H1 else tb σ H1 Q
def tNotV (ta : TE) : TE := fun σ H Q => ta σ H fun x H1 => ∃ c, x = .bl c ∧ Q (.bl (!c)) H1
theorem pe_one {op} {t : TE} (h : PE X a t) : PE X (.BoolOp op [a] pos) t := fun pins s σ H Q I hw => BoolOp_one (h pins s σ H Q I hw)
theorem pe_and (ha : PE X a ta) (hb : PE X (.BoolOp .And (b :: rest) pos) tb) : PE X (.BoolOp .And (a :: b :: rest) pos) (tAndV ta tb) := by
  intro pins s σ H Q I h
  refine BoolOp_and (thn (ha pins s σ H _ I h) fun v s1 ⟨x, H1, I1, r1, q1⟩ => ?_)
  obtain ⟨c, rfl, q1⟩ := q1
  cases r1
  refine wpAny_truthy_bool ?_
  cases c with
  | true => exact hb pins s1 σ H1 Q I1 q1
  | false => exact ⟨.bl false, H1, I1, rfl, q1⟩
theorem pe_not (ha : PE X a ta) : PE X (.UnaryOp .Not a pos) (tNotV ta) := by
  intro pins s σ H Q I h
  refine UnaryOp_ (thn (ha pins s σ H _ I h) fun v s1 ⟨x, H1, I1, r1, q1⟩ => ?_)
  obtain ⟨c, rfl, q1⟩ := q1
  cases r1
  exact not_of (wpAny_truthy_bool ⟨.bl (!c), H1, I1, rfl, q1⟩)
def tIf (t : TT) (ta tb : TE) : TE := fun σ H Q => t σ H fun c H1 => if c = true then ta σ H1 Q else tb σ H1 Q
theorem pe_ifExp {c : Expr} (hc : PT X c tA) (ha : PE X a ta) (hb : PE X b tb) : PE X (.IfExp c a b pos) (tIf tA ta tb) := by
  intro pins s σ H Q I h
  refine wpAny_IfExp (thn (hc pins s σ H _ I h) fun d s1 ⟨H1, I1, q1⟩ => ?_)
  cases d with
  | true => exact ha pins s1 σ H1 Q I1 q1
  | false => exact hb pins s1 σ H1 Q I1 q1
end
end L2
namespace L2
open PySem PySem.Spec PyProof.Rows
def SqL (K : PySem.W.Frag) (H : Hp) (a : Addr) (xs : List V) : Prop :=
  Rd H a (.lst xs) ∨
    ∃ (o : Obj) (its : Array Value) (n : Nat), K.lookup a = some o ∧ o.cls = .type "list" ∧ o.dict = none ∧ o.data = .seq its n ∧ its.size ≤ sizeLine ∧ Vals xs its.toList
def SqT (K : PySem.W.Frag) (H : Hp) (a : Addr) (xs : List V) : Prop :=
  Rd H a (.tup xs) ∨
    ∃ (o : Obj) (its : Array Value) (n : Nat), K.lookup a = some o ∧ o.cls = .type "tuple" ∧ o.data = .seq its n ∧ its.size ≤ sizeLine ∧ Vals xs its.toList
def absV : Value → Option V
  | .none => some .non
  | .bool b => some (.bl b)
  | .int i _ => some (.int i)
  | .str x _ => some (.str x)
  | .bytes b _ => some (.byt b)
  | .float b _ => some (.flt b)
  | .ref a => some (.ref a)
  | .type n => some (.ty n)
  | _ => none
theorem RelV.abs {x : V} {u : Value} (r : RelV x u) : absV u = some x := by
  cases x with
  | non => cases r; rfl
  | bl _ => cases r; rfl
  | int _ => obtain ⟨t, rfl⟩ := r; rfl
  | str _ => obtain ⟨t, rfl⟩ := r; rfl
  | byt _ => obtain ⟨t, rfl⟩ := r; rfl
  | flt _ => obtain ⟨t, rfl⟩ := r; rfl
  | ref _ => cases r; rfl
  | ty _ => cases r; rfl
theorem RelV.inj {x y : V} {u : Value} (r : RelV x u) (q : RelV y u) : x = y := Option.some.inj (r.abs.symm.trans q.abs)
theorem Vals.inj : ∀ {xs ys : List V} {us : List Value}, Vals xs us → Vals ys us → xs = ys
  | _, _, _, .nil, .nil => rfl
  | _, _, _, .cons r t, .cons r' t' => by rw [r.inj r', Vals.inj t t']
section
variable {X : Cx} {pins : List (Addr × Obj)} {σ : St} {H : Hp} {s : Shared} {a : Addr} {xs ys : List V}
theorem SqL.of {K : PySem.W.Frag} (h : H a = some (.lst xs)) : SqL K H a xs := .inl (.inl h)
theorem SqT.of {K : PySem.W.Frag} (h : H a = some (.tup xs)) : SqT K H a xs := .inl (.inl h)
theorem Inv.list (I : Inv X pins σ H s) (h : SqL X.K H a xs) : ∃ its : List Value, Vals xs its ∧ PlainL s.heap a its.toArray ∧ xs.length ≤ sizeLine := by
  rcases h with h | ⟨o, its, n, hk, hc, hd, hs, hz, r⟩
  · obtain ⟨z, its, n, r, e⟩ := h.ok I.hok
    exact ⟨its, r, ⟨_, n, e, rfl, rfl, rfl⟩, z⟩
  · refine ⟨its.toList, r, ⟨o, n, I.kIn a o hk, hc, hd, by simpa using hs⟩, ?_⟩
    have e := r.length
    simp only [Array.length_toList] at e
    omega
theorem Inv.tuple (I : Inv X pins σ H s) (h : SqT X.K H a xs) : ∃ its : List Value, Vals xs its ∧ IsTup s.heap a its.toArray ∧ xs.length ≤ sizeLine := by
  rcases h with h | ⟨o, its, n, hk, hc, hs, hz, r⟩
  · obtain ⟨z, its, r, p⟩ := h.ok I.hok
    exact ⟨its, r, p, z⟩
  · refine ⟨its.toList, r, ⟨o, I.kIn a o hk, hc, n, by simpa using hs⟩, ?_⟩
    have e := r.length
    simp only [Array.length_toList] at e
    omega
theorem Inv.list_inj (I : Inv X pins σ H s) (h : SqL X.K H a xs) (h' : SqL X.K H a ys) : xs = ys := by
  obtain ⟨its, r, ⟨o, n, e, _, _, d⟩, _⟩ := I.list h
  obtain ⟨its', r', ⟨o', n', e', _, _, d'⟩, _⟩ := I.list h'
  rw [e] at e'; cases e'
  rw [d] at d'
  injection d' with d1 _
  have : its = its' := by simpa using congrArg Array.toList d1
  subst this
  exact r.inj r'
theorem Inv.tuple_inj (I : Inv X pins σ H s) (h : SqT X.K H a xs) (h' : SqT X.K H a ys) : xs = ys := by
  obtain ⟨its, r, ⟨o, e, _, n, d⟩, _⟩ := I.tuple h
  obtain ⟨its', r', ⟨o', e', _, n', d'⟩, _⟩ := I.tuple h'
  rw [e] at e'; cases e'
  rw [d] at d'
  injection d' with d1 _
  have : its = its' := by simpa using congrArg Array.toList d1
  subst this
  exact r.inj r'
end
abbrev Cx.wish (X : Cx) (E : Value → Shared → Prop) : Cx := { X with xe := E }
abbrev Cx.nox (X : Cx) : Cx := X.wish fun _ _ => False
theorem Cx.Ok.wish {X : Cx} (ok : X.Ok) (E : Value → Shared → Prop) : (X.wish E).Ok :=
  ⟨ok.mod, ok.kind, ok.glob, ok.blt, ok.above, ok.inj, ok.has, ok.cab, ok.hd, ok.frames, ok.stk, ok.exf, ok.bs, ok.bsz, ok.noex, ok.exfs, ok.funs, ok.frf⟩
theorem Cx.Ok.unwish {X : Cx} {E : Value → Shared → Prop} (ok : (X.wish E).Ok) : X.Ok :=
  ⟨ok.mod, ok.kind, ok.glob, ok.blt, ok.above, ok.inj, ok.has, ok.cab, ok.hd, ok.frames, ok.stk, ok.exf, ok.bs, ok.bsz, ok.noex, ok.exfs, ok.funs, ok.frf⟩
section
variable {X : Cx} {pins : List (Addr × Obj)} {σ : St} {H : Hp} {s : Shared} {E : Value → Shared → Prop}
theorem Inv.wish (I : Inv X pins σ H s) (E : Value → Shared → Prop) : Inv (X.wish E) pins σ H s := ⟨I.ok.wish E, I.os, I.bare, I.base, I.loc, I.cell, I.free, I.freeC, I.pin, I.hok, I.len⟩
theorem Inv.unwish (I : Inv (X.wish E) pins σ H s) : Inv X pins σ H s := ⟨I.ok.unwish, I.os, I.bare, I.base, I.loc, I.cell, I.free, I.freeC, I.pin, I.hok, I.len⟩
theorem SP.unwish {D : Ends} {f : Flow} {s' : Shared} (h : SP (X.wish E) pins D f s') : SP X pins D f s' := by
  cases f with
  | next => obtain ⟨σ', H', I, q⟩ := h; exact ⟨σ', H', I.unwish, q⟩
  | brk => obtain ⟨σ', H', I, q⟩ := h; exact ⟨σ', H', I.unwish, q⟩
  | cont => obtain ⟨σ', H', I, q⟩ := h; exact ⟨σ', H', I.unwish, q⟩
  | ret u => obtain ⟨v, σ', H', I, r, q⟩ := h; exact ⟨v, σ', H', I.unwish, r, q⟩
theorem PSs.nox {st : List Stmt} {t : TS} (h : PSs X.nox st t) : PSs X st t := fun pins s σ H D I hw =>
  wpAny_mono (h pins s σ H D (I.wish _) hw) (fun _ _ q => q.unwish) fun _ _ z => False.elim z
end
section
variable {X : Cx} {st : Stmt} {rest : List Stmt} {t u : TS} {e : Expr} {te : TE} {pos : Pos}
def tNext : TS := fun D σ H => D.nx σ H
def tSeq (t u : TS) : TS := fun D σ H => t { D with nx := u D } σ H
theorem pss_nil : PSs X [] tNext := fun _ _ σ H _ I h => wpAny_execs_nil ⟨σ, H, I, h⟩
theorem pss_cons (h1 : PS X st t) (h2 : PSs X rest u) : PSs X (st :: rest) (tSeq t u) := by
  intro pins s σ H D I h
  refine wpAny_execs_cons (thn (h1 pins s σ H { D with nx := u D } I h) fun f s1 q => ?_)
  cases f with
  | next =>
    obtain ⟨σ', H', I', q⟩ := q
    exact h2 pins s1 σ' H' D I' q
  | ret v => exact q
  | brk => exact q
  | cont => exact q
theorem pss_one (h1 : PS X st t) : PSs X [st] t := by
  intro pins s σ H D I h
  refine wpAny_execs_cons (thn (h1 pins s σ H D I h) fun f s1 q => ?_)
  cases f with
  | next => exact wpAny_execs_nil q
  | ret v => exact q
  | brk => exact q
  | cont => exact q
def tBreak : TS := fun D σ H => D.bk σ H
def tCont : TS := fun D σ H => D.ct σ H
theorem Inv.quiet {pins : List (Addr × Obj)} {σ : St} {H : Hp} {s : Shared} (I : Inv X pins σ H s) : interactive X.env = false := by simp [interactive, I.ok.kind]
def tDrop (te : TE) : TS := fun D σ H => te σ H fun _ H1 => D.nx σ H1
theorem ps_expr (he : PE X e te) (hs : swapsWith e none pos.line X.env = pure false := by rfl) : PS X (.Expr e pos) (tDrop te) := by
  intro pins s σ H D I h
  exact wpAny_Expr_any (thn (he pins s σ H _ I h) fun v s1 ⟨x, H1, I1, r1, q1⟩ => ⟨σ, H1, I1, q1⟩) I.quiet hs
def tRet (te : TE) : TS := fun D σ H => te σ H D.rt
theorem ps_ret (he : PE X e te) : PS X (.Return (some e) pos) (tRet te) := by
  intro pins s σ H D I h
  exact wpAny_Return_some (thn (he pins s σ H _ I h) fun v s1 ⟨x, H1, I1, r1, q1⟩ => ⟨x, σ, H1, I1, r1, q1⟩)
def tRetN : TS := fun D _ H => D.rt .non H
def tIfS (c : TT) (t u : TS) : TS := fun D σ H => c σ H fun b H1 => if b = true then t D σ H1 else u D σ H1
theorem ps_if {c : Expr} {a b : List Stmt} {tc : TT} (hc : PT X c tc) (ha : PSs X a t) (hb : PSs X b u) : PS X (.If c a b pos) (tIfS tc t u) := by
  intro pins s σ H D I h
  refine wpAny_If (thn (hc pins s σ H _ I h) fun d s1 ⟨H1, I1, q1⟩ => ?_)
  cases d with
  | true => exact ha pins s1 σ H1 D I1 q1
  | false => exact hb pins s1 σ H1 D I1 q1
def tNever : TS := fun _ _ _ => False
end
abbrev TG := V → St → Hp → (St → Hp → Prop) → Prop
abbrev TGs := List V → St → Hp → (St → Hp → Prop) → Prop
def PG (X : Cx) (target : Expr) (t : TG) : Prop :=
  ∀ (pins : List (Addr × Obj)) (s : Shared) (σ : St) (H : Hp) (v : V) (u : Value) (Q : St → Hp → Prop), Inv X pins σ H s → RelV v u → t v σ H Q →
    wpAny (model X.prog X.w) X.A (assign target X.env u) (fun _ s' => ∃ σ' H', Inv X pins σ' H' s' ∧ Q σ' H') X.xe s
def PGs (X : Cx) (ts : List Expr) (t : TGs) : Prop :=
  ∀ (pins : List (Addr × Obj)) (s : Shared) (σ : St) (H : Hp) (vs : List V) (us : List Value) (Q : St → Hp → Prop), Inv X pins σ H s → Vals vs us → t vs σ H Q →
    wpAny (model X.prog X.w) X.A (assignInOrder ((assignEach ts X.env).map (·.2)) us) (fun _ s' => ∃ σ' H', Inv X pins σ' H' s' ∧ Q σ' H') X.xe s
abbrev TSet := V → V → V → Hp → (Hp → Prop) → Prop
def PSet (X : Cx) (t : TSet) : Prop :=
  ∀ (pins : List (Addr × Obj)) (s : Shared) (σ : St) (H : Hp) (o i v : V) (ov iv u : Value) (Q : Hp → Prop), Inv X pins σ H s → RelV o ov → RelV i iv → RelV v u → t o i v H Q →
    wpAny (model X.prog X.w) X.A (setItem ov iv u) (fun _ s' => ∃ H', Inv X pins σ H' s' ∧ Q H') X.xe s
abbrev TIp := V → V → Hp → VK → Prop
def PIp (X : Cx) (op : Operator) (t : TIp) : Prop :=
  ∀ (pins : List (Addr × Obj)) (s : Shared) (σ : St) (H : Hp) (x y : V) (v u : Value) (Q : VK), Inv X pins σ H s → RelV x v → RelV y u → t x y H Q →
    wpAny (model X.prog X.w) X.A (inplaceOp op v u) (EP X pins σ Q) X.xe s
section
variable {X : Cx} {pos : Pos}
def gName (i : Nat) : TG := fun v σ H Q => Q (σ.set i (some v)) H
theorem pg_name {i : Nat} {x : Str} (hN : X.N.Nodup) (hi : X.N[i]? = some x) (hx : Loc X.env.scope x) (hf : X.fn x = true ∨ X.env.scope.names.lookup x = some .local := by first | exact .inl rfl | exact .inr rfl | assumption) : PG X (.Name x pos) (gName i) := by
  intro pins s σ H v u Q I r h
  exact wpAny_assign_Name (store_ok I hN hi hx r (fun s' I' => ⟨_, H, I', h⟩) hf)
def gNil : TGs := fun vs σ H Q => vs = [] ∧ Q σ H
def gCons (t : TG) (u : TGs) : TGs := fun vs σ H Q => ∃ v r, vs = v :: r ∧ t v σ H fun σ' H' => u r σ' H' Q
def gTup (K : PySem.W.Frag) (n : Nat) (t : TGs) : TG := fun v σ H Q => ∃ a xs, v = .ref a ∧ SqT K H a xs ∧ xs.length = n ∧ t xs σ H Q
def gSub (to ti : TE) (t : TSet) : TG := fun v σ H Q => to σ H fun o H1 => ti σ H1 fun i H2 => t o i v H2 fun H3 => Q σ H3
def tAsg (te : TE) (g : TG) : TS := fun D σ H => te σ H fun x H1 => g x σ H1 D.nx
theorem ps_set {i : Nat} {x : Str} {e : Expr} {te : TE} {pos' : Pos} (hN : X.N.Nodup) (hi : X.N[i]? = some x) (hx : Loc X.env.scope x) (he : PE X e te) (hs : swapsWith e (some (.Name x pos')) pos.line X.env = pure false := by rfl) (hf : X.fn x = true ∨ X.env.scope.names.lookup x = some .local := by first | exact .inl rfl | exact .inr rfl | assumption) :
    PS X (.Assign [.Name x pos'] e pos) (tAsg te (gName i)) := by
  intro pins s σ H D I h
  refine wpAny_Assign_Name (thn (he pins s σ H _ I h) fun v s1 ⟨y, H1, I1, r1, q1⟩ => ?_) hs
  exact store_ok I1 hN hi hx r1 (fun s2 I2 => ⟨_, H1, I2, q1⟩) hf
def tPar (i j : Nat) (ta : TA) : TS := fun D σ H => ta σ H fun vs H1 => ∃ v w, vs = [v, w] ∧ D.nx ((σ.set i (some v)).set j (some w)) H1
def tAug (i : Nat) (te : TE) (ti : TIp) : TS := fun D σ H => ∃ x, σ[i]? = some (some x) ∧ te σ H fun y H1 => ti x y H1 fun z H2 => D.nx (σ.set i (some z)) H2
def tAugS (to ti te : TE) (tget : V → V → Hp → VK → Prop) (tip : TIp) (tset : TSet) : TS := fun D σ H => to σ H fun o H1 => ti σ H1 fun i H2 => tget o i H2 fun x H3 => te σ H3 fun y H4 => tip x y H4 fun z H5 => tset o i z H5 fun H6 => D.nx σ H6
def PGet (X : Cx) (t : V → V → Hp → VK → Prop) : Prop :=
  ∀ (pins : List (Addr × Obj)) (s : Shared) (σ : St) (H : Hp) (o i : V) (ov iv : Value) (Q : VK), Inv X pins σ H s → RelV o ov → RelV i iv → t o i H Q →
    wpAny (model X.prog X.w) X.A (getItem ov iv) (EP X pins σ Q) X.xe s
def ipI (f : Int → Int → Int) : TIp := fun x y H Q => ∃ i j, x = .int i ∧ y = .int j ∧ Q (.int (f i j)) H
end
section
variable {X : Cx} {pos : Pos}
def tWhile (c : TT) (tb : TS) : TS := fun D σ H => ∃ W : Nat → St → Hp → Prop, (∃ m, W m σ H) ∧ ∀ m σ H, W m σ H →
  c σ H fun b H1 => if b = true then ∃ N : St → Hp → Prop, (∀ σ' H', N σ' H' → ∃ m', m' < m ∧ W m' σ' H') ∧ tb { D with nx := N, ct := N, bk := D.nx } σ H1 else D.nx σ H1
theorem ps_while {c : Expr} {body : List Stmt} {tc : TT} {tb : TS} (hp : PassesOwn (model X.prog X.w) X.A X.env X.xe) (hc : PT X c tc) (hb : PSs X body tb) : PS X (.While c body [] pos) (tWhile tc tb) := by
  intro pins s σ H D I h
  obtain ⟨W, ⟨m0, w0⟩, turn⟩ := h
  refine wpAny_While (codeAny_whileLoop (fun n s' => ∃ σ' H', Inv X pins σ' H' s' ∧ W n σ' H') ?_ m0 ⟨σ, H, I, w0⟩)
  rintro n s1 ⟨σ1, H1, I1, w1⟩
  refine wpAny_passesOwn hp (thn (hc pins s1 σ1 H1 _ I1 (turn n σ1 H1 w1)) fun b s2 ⟨H2, I2, q2⟩ => ?_)
  cases b with
  | true =>
    obtain ⟨N, hN, q2⟩ := q2
    rw [if_pos rfl]
    refine wpAny_passesOwn hp (thn (hb pins s2 σ1 H2 _ I2 q2) fun f s3 q3 => ?_)
    cases f with
    | next =>
      obtain ⟨σ3, H3, I3, n3⟩ := q3
      obtain ⟨m', hm, w3⟩ := hN σ3 H3 n3
      exact ⟨m', hm, σ3, H3, I3, w3⟩
    | cont =>
      obtain ⟨σ3, H3, I3, n3⟩ := q3
      obtain ⟨m', hm, w3⟩ := hN σ3 H3 n3
      exact ⟨m', hm, σ3, H3, I3, w3⟩
    | brk => exact q3
    | ret v => exact q3
  | false =>
    rw [if_neg Bool.false_ne_true]
    exact wpAny_execs_nil ⟨σ1, H2, I2, q2⟩
end
structure It where
  go : Nat → Hp → Prop
  yld : Nat → Hp → V → Hp → Prop
  stop : Nat → Hp → Prop
def FpOk (X : Cx) (pins : List (Addr × Obj)) (H : Hp) (b : Addr) : Prop :=
  H b = none ∧ b ≠ X.env.locals ∧ b ∉ X.fs ∧ (b ∈ X.ex ∨ X.s₀.heap.objs.size ≤ b) ∧ (∀ x c, X.env.cells.lookup x = some c → c ≠ b) ∧ ∀ p ∈ X.pn ++ pins, p.1 ≠ b
theorem Inv.fpOk {X : Cx} {pins : List (Addr × Obj)} {σ : St} {H H' : Hp} {s : Shared} {b : Addr} (I : Inv X pins σ H s) (hb : s.heap.objs.size ≤ b) (hn : H' b = none) : FpOk X pins H' b := by
  refine ⟨hn, Nat.ne_of_gt (Nat.lt_of_lt_of_le I.lt hb), I.nofs hb, .inr (Nat.le_trans I.sz hb), fun x c e z => ?_, fun p hp z => ?_⟩
  · obtain ⟨v, q⟩ := I.cell x c e
    exact absurd (Nat.lt_of_lt_of_le q.lt (by rw [z]; exact hb)) (Nat.lt_irrefl _)
  · exact absurd (Nat.lt_of_lt_of_le (Heap.lt_size (I.pin p hp).1) (by rw [z]; exact hb)) (Nat.lt_irrefl _)
structure Turn (P : Program) (w : World) (K : PySem.W.Frag) (tg : Expr) (J : It) (fp : List Addr) (it : Addr) (tn : Nat → Heap → Prop) : Prop where
  mem : it ∈ fp
  obj : ∀ i h, tn i h → ∀ b ∈ fp, ∃ o, h.get? b = some o ∧ ∀ v, o.data ≠ .cell v
  keep : ∀ i h h', tn i h → (∀ b ∈ fp, ∀ o, h.get? b = some o → h'.get? b = some o) → tn i h'
  item : ∀ (X : Cx), X.prog = P → X.w = w → X.K = K → X.calm = true → ∀ (i : Nat) (pins : List (Addr × Obj)) (s : Shared) (σ : St) (H : Hp) (E : Value → Shared → Prop), Inv X pins σ H s → (∀ b ∈ fp, FpOk X pins H b) → tn i s.heap → J.go i H →
    wpAny (model P w) X.A (pyNext (.ref it)) (fun r s1 => ∃ u, r = some u ∧
      wpAny (model P w) X.A (letOwnedTupleGo tg (.ref it) u) (fun _ s2 => ∃ x H', Inv X pins σ H' s2 ∧ RelV x u ∧ J.yld i H x H' ∧ tn (i + 1) s2.heap ∧ ∀ b ∈ fp, H' b = none) E s1) E s
  done : ∀ (X : Cx), X.prog = P → X.w = w → X.K = K → X.calm = true → ∀ (i : Nat) (pins : List (Addr × Obj)) (s : Shared) (σ : St) (H : Hp) (E : Value → Shared → Prop), Inv X pins σ H s → (∀ b ∈ fp, FpOk X pins H b) → tn i s.heap → J.stop i H →
    wpAny (model P w) X.A (pyNext (.ref it)) (fun r s1 => r = none ∧ Inv X pins σ H s1) E s
  self : ∀ (A : Around) (i : Nat) (s : Shared) (Q : Value → Shared → Prop) (E : Value → Shared → Prop), tn i s.heap → Q (.ref it) s → wpAny (model P w) A (pyIter (.ref it)) Q E s
abbrev TI := St → Hp → (It → Hp → Prop) → Prop
def PIE (X : Cx) (pins : List (Addr × Obj)) (σ : St) (tg : Expr) (R : It → Hp → Prop) (itv : Value) (s2 : Shared) : Prop :=
  ∃ (it : Addr) (fp : List Addr) (tn : Nat → Heap → Prop) (J : It) (H' : Hp), itv = .ref it ∧ Inv X pins σ H' s2 ∧ Turn X.prog X.w X.K tg J fp it tn ∧ tn 0 s2.heap ∧ (∀ b ∈ fp, FpOk X pins H' b) ∧ R J H'
def PI (X : Cx) (tg iter : Expr) (wi : TI) : Prop :=
  ∀ (pins : List (Addr × Obj)) (s : Shared) (σ : St) (H : Hp) (R : It → Hp → Prop), Inv X pins σ H s → wi σ H R →
    wpAny (model X.prog X.w) X.A (eval iter X.env) (fun v s1 => wpAny (model X.prog X.w) X.A (pyIter v) (PIE X pins σ tg R) X.xe s1) X.xe s
theorem go_of {M : Model} {A : Around} {E : Value → Shared → Prop} {s : Shared} {tg : Expr} {it : Addr} {u : Value} {o : Obj} {n : String} {vs : Array Value} {Q : Unit → Shared → Prop} (ho : s.heap.get? it = some o) (hc : o.cls = .type n) (hd : o.data = .fields vs)
    (hn : ["enumerate", "zip", "dict_itemiterator", "dict_reverseitemiterator", "odict_iterator", "itertools.zip_longest", "itertools.pairwise"].contains n = false) (hQ : Q () s) : wpAny M A (letOwnedTupleGo tg (.ref it) u) Q E s := by
  unfold letOwnedTupleGo
  cases tg <;> first
    | exact wpAny_pure hQ
    | (cases u <;> first
        | exact wpAny_pure hQ
        | (refine wpAny_bind (wpAny_load ho ?_)
           rw [hc, hd]
           show wpAny M A (if (["enumerate", "zip", "dict_itemiterator", "dict_reverseitemiterator", "odict_iterator", "itertools.zip_longest", "itertools.pairwise"].contains n && vs[0]? == some (rawInt _)) = true then _ else _) Q E s
           rw [if_neg (by intro h; rw [hn, Bool.false_and] at h; cases h)]
           exact wpAny_pure hQ))
def Itl (K : PySem.W.Frag) (a : Addr) : It :=
  ⟨fun i H => ∃ xs x, SqL K H a xs ∧ xs[i]? = some x, fun i H x H' => H' = H ∧ ∀ xs, SqL K H a xs → xs[i]? = some x, fun i H => ∃ xs, SqL K H a xs ∧ xs.length ≤ i⟩
def Itt (K : PySem.W.Frag) (a : Addr) : It :=
  ⟨fun i H => ∃ xs x, SqT K H a xs ∧ xs[i]? = some x, fun i H x H' => H' = H ∧ ∀ xs, SqT K H a xs → xs[i]? = some x, fun i H => ∃ xs, SqT K H a xs ∧ xs.length ≤ i⟩
def Itr (lo : Int) (n : Nat) : It := ⟨fun i _ => i < n, fun i H x H' => H' = H ∧ x = .int (lo + i), fun i _ => n ≤ i⟩
theorem turn_list {P : Program} {w : World} {K : PySem.W.Frag} {tg : Expr} (a it : Addr) : Turn P w K tg (Itl K a) [it] it (fun i h => h.IsListIter it a i) where
  mem := by simp
  obj := fun i h st b hb => by
    have e : b = it := by simpa using hb
    subst e
    obtain ⟨o, e, c, d⟩ := st
    exact ⟨o, e, fun v z => by rw [d] at z; cases z⟩
  keep := fun i h h' st k => st.at fun o e => k it (by simp) o e
  item := by
    intro X hP hw hK hc i pins s σ H E I hf st hg
    subst hP hw hK
    obtain ⟨xs, x, hq, hx⟩ := hg
    obtain ⟨its, rv, p, hz⟩ := I.list hq
    obtain ⟨u, hu, ru⟩ := rv.get hx
    obtain ⟨f0, f1, f2, f3, f4, f5⟩ := hf it (by simp)
    refine wpAny_pyNext_list_item st p.isList (x := u) (by simpa using hu) fun h' st' sb => ?_
    have I1 : Inv X pins σ H { s with heap := h' } := I.turned (t' := s.toks) (fun b o hb e => (sb.2 b hb).trans e) f0 f1 f3 f4 f5
    obtain ⟨o, e, c, d⟩ := id st'
    exact ⟨u, rfl, go_of (s := { s with heap := h' }) e c d (by decide) ⟨x, H, I1, ru, ⟨rfl, fun ys hy => by rw [I.list_inj hy hq]; exact hx⟩, st', fun b hb => (hf b hb).1⟩⟩
  done := by
    intro X hP hw hK hc i pins s σ H E I hf st hg
    subst hP hw hK
    obtain ⟨xs, hq, hx⟩ := hg
    obtain ⟨its, rv, p, hz⟩ := I.list hq
    obtain ⟨f0, f1, f2, f3, f4, f5⟩ := hf it (by simp)
    have hl := rv.length
    exact wpAny_pyNext_list_end (I.ok.hd hc) st p.isList (by simp; omega) fun h' eb => ⟨rfl, I.turned (t' := s.toks) (fun b o hb e => eb b o hb e) f0 f1 f3 f4 f5⟩
  self := fun _ _ _ _ _ st h => wpAny_pyIter_listiter st h
theorem turn_range {P : Program} {w : World} {K : PySem.W.Frag} {tg : Expr} (it : Addr) (lo : Int) (n : Nat) : Turn P w K tg (Itr lo n) [it] it (fun i h => IsRangeIter h it (lo + (i : Nat) * 1) ((n : Int) - (i : Nat)) 1) where
  mem := by simp
  obj := fun i h st b hb => by
    have e : b = it := by simpa using hb
    subst e
    exact ⟨_, st, fun v z => by
      have z' : Data.fields _ = Data.cell v := z
      cases z'⟩
  keep := fun i h h' st k => k it (by simp) _ st
  item := by
    intro X hP hw hK hc i pins s σ H E I hf st hg
    subst hP hw hK
    obtain ⟨f0, f1, f2, f3, f4, f5⟩ := hf it (by simp)
    have W := Walks.range (prog := X.prog) (w := X.w) (I.ok.hd hc) it lo 1 n
    refine W.item i s _ _ hg st fun v h' tk hv st' kk => ?_
    obtain ⟨t, rfl⟩ := hv
    have I1 : Inv X pins σ H { s with heap := h', toks := tk } := I.turned (fun b o hb e => kk b o (by simpa using hb) e) f0 f1 f3 f4 f5
    refine ⟨_, rfl, go_of (s := { s with heap := h', toks := tk }) (n := "range_iterator") st' rfl rfl (by decide) ⟨.int (lo + i), H, I1, ⟨t, ?_⟩, ⟨rfl, rfl⟩, st', fun b hb => (hf b hb).1⟩⟩
    rw [Int.mul_one]
  done := by
    intro X hP hw hK hc i pins s σ H E I hf st hg
    subst hP hw hK
    obtain ⟨f0, f1, f2, f3, f4, f5⟩ := hf it (by simp)
    exact wpAny_pyNext_range_end (I.ok.hd hc) st (by have : n ≤ i := hg; omega) fun h' eb => ⟨rfl, I.turned (t' := s.toks) (fun b o hb e => eb b o hb e) f0 f1 f3 f4 f5⟩
  self := fun _ _ _ _ _ st h => wpAny_pyIter_rangeiter st h
end L2
namespace L2
open PySem PySem.Spec PyProof.Rows
section
variable {X : Cx} {tg : Expr}
def iList (K : PySem.W.Frag) (tl : TE) : TI := fun σ H R => tl σ H fun x H1 => ∃ a, x = .ref a ∧ (∃ xs, SqL K H1 a xs) ∧ R (Itl K a) H1
def iTup (K : PySem.W.Frag) (tl : TE) : TI := fun σ H R => tl σ H fun x H1 => ∃ a, x = .ref a ∧ (∃ xs, SqT K H1 a xs) ∧ R (Itt K a) H1
theorem pi_list {l : Expr} {tl : TE} (hl : PE X l tl) : PI X tg l (iList X.K tl) := by
  intro pins s σ H R I h
  refine thn (hl pins s σ H _ I h) fun v s1 ⟨x, H1, I1, r1, q1⟩ => ?_
  obtain ⟨a, e, ⟨xs, hq⟩, q⟩ := q1
  subst e
  cases r1
  obtain ⟨its, rv, p, hz⟩ := I1.list hq
  refine wpAny_pyIter_list p.isList ?_
  refine ⟨s1.heap.objs.size, [s1.heap.objs.size], _, _, H1, rfl, I1.kept (t' := s1.toks) fun b o e => Heap.get?_push_of_some _ e, turn_list a _, ⟨_, Heap.get?_push_size _ rfl, rfl, rfl⟩, fun b hb => ?_, q⟩
  have e : b = s1.heap.objs.size := by simpa using hb
  subst e
  exact I1.fpOk (Nat.le_refl _) (I1.hok.fresh (Nat.le_refl _))
theorem range_it {pins : List (Addr × Obj)} {σ : St} {H : Hp} {s : Shared} {R : It → Hp → Prop} {E : Value → Shared → Prop} {lo hi : Int} {t u v : Tok} {tk : Nat} (I : Inv X pins σ H s) (h1 : -(2 ^ 62) ≤ lo) (h2 : lo < 2 ^ 62) (h3 : -(2 ^ 62) ≤ hi) (h4 : hi < 2 ^ 62)
    (q : R (Itr lo (hi - lo).toNat) H) : wpAny (model X.prog X.w) X.A (pyIter (.ref s.heap.objs.size)) (PIE X pins σ tg R) E { s with heap := s.heap.push { cls := .type "range", data := .fields #[.int lo t, .int hi u, .int 1 v] }, toks := tk } := by
  refine wpAny_pyIter_range (IsRange.new ..) (small_one h1 h2 h3 h4) ?_
  have I1 : Inv X pins σ H { s with heap := s.heap.push { cls := .type "range", data := .fields #[.int lo t, .int hi u, .int 1 v] }, toks := tk } := I.kept fun b o e => Heap.get?_push_of_some _ e
  refine ⟨(s.heap.push { cls := .type "range", data := .fields #[.int lo t, .int hi u, .int 1 v] }).objs.size, [(s.heap.push { cls := .type "range", data := .fields #[.int lo t, .int hi u, .int 1 v] }).objs.size], _, _, H, rfl,
    I1.kept (t' := tk) fun b o e => Heap.get?_push_of_some _ e, turn_range _ lo (hi - lo).toNat, ?_, fun b hb => ?_, q⟩
  · have e1 : lo + ((0 : Nat) : Int) * 1 = lo := by simp
    have e2 : (((hi - lo).toNat : Nat) : Int) - ((0 : Nat) : Int) = Builtin.Range.rangeSize lo hi 1 := by rw [rangeSize_one]; split <;> omega
    show IsRangeIter _ _ (lo + ((0 : Nat) : Int) * 1) ((((hi - lo).toNat : Nat) : Int) - ((0 : Nat) : Int)) 1
    rw [e1, e2]
    exact Heap.get?_push_size _ rfl
  · have e : b = (s.heap.push { cls := .type "range", data := .fields #[.int lo t, .int hi u, .int 1 v] }).objs.size := by simpa using hb
    subst e
    exact I1.fpOk (Nat.le_refl _) (I1.hok.fresh (Nat.le_refl _))
def iRng1 (ta : TA) : TI := fun σ H R => ta σ H fun vs H1 => ∃ j : Int, vs = [.int j] ∧ -(2 ^ 62) ≤ j ∧ j < 2 ^ 62 ∧ R (Itr 0 j.toNat) H1
def iRng2 (ta : TA) : TI := fun σ H R => ta σ H fun vs H1 => ∃ i j : Int, vs = [.int i, .int j] ∧ (-(2 ^ 62) ≤ i ∧ i < 2 ^ 62 ∧ -(2 ^ 62) ≤ j ∧ j < 2 ^ 62) ∧ R (Itr i (j - i).toNat) H1
theorem pi_range1 {a : Expr} {ta : TA} {p pos : Pos} (hg : Gl X "range") (hm : X.mg "range" = none) (ha : PA X [a] ta) (hs : starEach [a] X.env = [(false, eval a X.env)] := by rfl) : PI X tg (.Call (.Name "range" p) [a] [] pos) (iRng1 ta) := by
  intro pins s σ H R I h
  refine Call_ (ld_blt I hg hm boot_range (PyProof.Rows.callWith_type1 (thn (ha pos pins s σ H _ I h) fun us s1 ⟨vs, H1, I1, r1, q1⟩ => ?_) hs rfl))
  obtain ⟨j, e, q1, q2, q⟩ := q1
  subst e
  cases r1 with
  | cons r rr =>
    cases rr
    obtain ⟨t, rfl⟩ := r
    exact call_range_1 (range_it I1 (by omega) (by omega) q1 q2 (by simpa using q))
def tFor (wi : TI) (g : TG) (tb : TS) : TS := fun D σ H => wi σ H fun J H1 => ∃ W : Nat → Nat → St → Hp → Prop, (∃ m, W 0 m σ H1) ∧ ∀ i m σ H, W i m σ H →
  (J.stop i H ∧ D.nx σ H) ∨ (J.go i H ∧ ∃ N : St → Hp → Prop, (∀ σ' H', N σ' H' → ∃ m', m' < m ∧ W (i + 1) m' σ' H') ∧ ∀ x H', J.yld i H x H' → g x σ H' fun σ2 H2 => tb { D with nx := N, ct := N, bk := D.nx } σ2 H2)
def pinsAt (fp : List Addr) (h : Heap) : List (Addr × Obj) := fp.filterMap fun b => (h.get? b).map fun o => (b, o)
theorem mem_pinsAt {fp : List Addr} {h : Heap} {b : Addr} {o : Obj} (hb : b ∈ fp) (e : h.get? b = some o) : (b, o) ∈ pinsAt fp h := List.mem_filterMap.mpr ⟨b, hb, by rw [e]; rfl⟩
theorem of_pinsAt {fp : List Addr} {h : Heap} {p : Addr × Obj} (hp : p ∈ pinsAt fp h) : p.1 ∈ fp ∧ h.get? p.1 = some p.2 := by
  obtain ⟨b, hb, e⟩ := List.mem_filterMap.mp hp
  cases q : h.get? b with
  | none => rw [q] at e; cases e
  | some o =>
    rw [q] at e
    have e' : (b, o) = p := Option.some.inj e
    subst e'
    exact ⟨hb, q⟩
theorem Inv.pinned {pins : List (Addr × Obj)} {σ : St} {H : Hp} {s : Shared} {fp : List Addr} (I : Inv X pins σ H s) (hf : ∀ b ∈ fp, FpOk X pins H b) (ho : ∀ b ∈ fp, ∃ o, s.heap.get? b = some o ∧ ∀ v, o.data ≠ .cell v) : Inv X (pins ++ pinsAt fp s.heap) σ H s :=
  I.pins_of fun p hp => (List.mem_append.mp hp).elim (fun z => I.pin p (List.mem_append_right _ z)) fun z => by
    obtain ⟨hb, e⟩ := of_pinsAt z
    obtain ⟨f0, f1, f2, _⟩ := hf p.1 hb
    obtain ⟨o, e', d⟩ := ho p.1 hb
    rw [e] at e'; cases e'
    exact ⟨e, f0, f1, f2, d⟩
theorem Inv.unpinned {pins pl : List (Addr × Obj)} {σ : St} {H : Hp} {s : Shared} (I : Inv X (pins ++ pl) σ H s) : Inv X pins σ H s := I.pins_of fun p hp => I.pin p (List.mem_append_right _ (List.mem_append_left _ hp))
theorem ps_for {iter : Expr} {body : List Stmt} {wi : TI} {g : TG} {tb : TS} {pos : Pos} (hp : PassesOwn (model X.prog X.w) X.A X.env X.xe) (hc : X.calm = true) (hi : PI X tg iter wi) (hg : PG X tg g) (hb : PSs X body tb)
    (hs : ∀ x, foldedSetIterable iter X.env x = pure x := by intro _; rfl) : PS X (.For tg iter body [] pos) (tFor wi g tb) := by
  intro pins s σ H D I h
  refine wpAny_For (thn (hi pins s σ H _ I h) fun v s1 h1 => thn h1 fun itv s2 h2 => ?_) hs
  obtain ⟨it, fp, tn, J, H2, e, I2, T, st2, f2, W, ⟨m0, w0⟩, turn⟩ := h2
  subst e
  have stat : ∀ {H' : Hp}, (∀ b ∈ fp, H' b = none) → ∀ b ∈ fp, FpOk X pins H' b := fun hn b hb => ⟨hn b hb, (f2 b hb).2⟩
  refine codeAny_forLoop_any (fun n s' => ∃ i σ' H', Inv X pins σ' H' s' ∧ tn i s'.heap ∧ (∀ b ∈ fp, H' b = none) ∧ W i n σ' H') ?_ m0 ⟨0, σ, H2, I2, st2, fun b hb => (f2 b hb).1, w0⟩
  rintro n s3 ⟨i, σ3, H3, I3, st3, fr3, w3⟩
  rcases turn i n σ3 H3 w3 with ⟨stop, qn⟩ | ⟨go, N, hN, step⟩
  · refine wpAny_passesOwn hp (thn (T.done X rfl rfl rfl hc i pins s3 σ3 H3 X.xe I3 (stat fr3) st3 stop) fun r s4 ⟨hr, I4⟩ => ?_)
    subst hr
    exact wpAny_execs_nil ⟨σ3, H3, I4, qn⟩
  · refine wpAny_passesOwn hp (thn (T.item X rfl rfl rfl hc i pins s3 σ3 H3 X.xe I3 (stat fr3) st3 go) fun r s4 ⟨u, hr, h4⟩ => ?_)
    subst hr
    refine wpAny_passesOwn hp (thn h4 fun _ s5 ⟨x, H5, I5, r5, y5, st5, fr5⟩ => ?_)
    have I5' := I5.pinned (stat fr5) (T.obj _ _ st5)
    refine wpAny_passesOwn hp (thn (hg _ s5 σ3 H5 x u _ I5' r5 (step x H5 y5)) fun _ s6 ⟨σ6, H6, I6, q6⟩ => ?_)
    refine wpAny_passesOwn hp (thn (hb _ s6 σ6 H6 _ I6 q6) fun f s7 q7 => ?_)
    have again : ∀ {σ7 : St} {H7 : Hp}, Inv X (pins ++ pinsAt fp s5.heap) σ7 H7 s7 → N σ7 H7 → ∃ m, m < n ∧ ∃ i σ' H', Inv X pins σ' H' s7 ∧ tn i s7.heap ∧ (∀ b ∈ fp, H' b = none) ∧ W i m σ' H' := fun {σ7 H7} I7 n7 => by
      obtain ⟨m', hm, w7⟩ := hN σ7 H7 n7
      refine ⟨m', hm, i + 1, σ7, H7, I7.unpinned, T.keep _ _ _ st5 fun b hb o e => (I7.pin (b, o) (List.mem_append_right _ (List.mem_append_right _ (mem_pinsAt hb e)))).1, fun b hb => ?_, w7⟩
      obtain ⟨o, e, d⟩ := T.obj _ _ st5 b hb
      exact (I7.pin (b, o) (List.mem_append_right _ (List.mem_append_right _ (mem_pinsAt hb e)))).2.1
    cases f with
    | next => obtain ⟨σ7, H7, I7, n7⟩ := q7; exact again I7 n7
    | cont => obtain ⟨σ7, H7, I7, n7⟩ := q7; exact again I7 n7
    | brk => obtain ⟨σ7, H7, I7, q7⟩ := q7; exact ⟨σ7, H7, I7.unpinned, q7⟩
    | ret v => obtain ⟨x7, σ7, H7, I7, r7, q7⟩ := q7; exact ⟨x7, σ7, H7, I7.unpinned, r7, q7⟩
end
theorem for_list {K : PySem.W.Frag} {a : Addr} {xs : List V} {g : TG} {tb : TS} {D : Ends} {σ : St} {H : Hp} (Pv : Nat → St → Hp → Prop) (h0 : Pv 0 σ H) (hl : ∀ i σ H, i ≤ xs.length → Pv i σ H → SqL K H a xs)
    (hs : ∀ i x σ H, xs[i]? = some x → Pv i σ H → g x σ H fun σ2 H2 => tb { D with nx := Pv (i + 1), ct := Pv (i + 1), bk := D.nx } σ2 H2) (hd : ∀ σ H, Pv xs.length σ H → D.nx σ H) :
    ∃ W : Nat → Nat → St → Hp → Prop, (∃ m, W 0 m σ H) ∧ ∀ i m σ H, W i m σ H →
      ((Itl K a).stop i H ∧ D.nx σ H) ∨ ((Itl K a).go i H ∧ ∃ N : St → Hp → Prop, (∀ σ' H', N σ' H' → ∃ m', m' < m ∧ W (i + 1) m' σ' H') ∧ ∀ x H', (Itl K a).yld i H x H' → g x σ H' fun σ2 H2 => tb { D with nx := N, ct := N, bk := D.nx } σ2 H2) := by
  refine ⟨fun i m σ H => m = xs.length - i ∧ i ≤ xs.length ∧ Pv i σ H, ⟨xs.length, by simp, Nat.zero_le _, h0⟩, ?_⟩
  rintro i m σ H ⟨rfl, hi, p⟩
  have q := hl i σ H hi p
  by_cases hlt : i < xs.length
  · refine .inr ⟨⟨xs, xs[i], q, by simp [hlt]⟩, Pv (i + 1), fun σ' H' p' => ⟨xs.length - (i + 1), by omega, rfl, hlt, p'⟩, fun x H' y => ?_⟩
    obtain ⟨e, y⟩ := y
    subst e
    exact hs i x σ _ (y xs q) p
  · have e : i = xs.length := by omega
    subst e
    exact .inl ⟨⟨xs, q, Nat.le_refl _⟩, hd σ H p⟩
theorem for_range {lo : Int} {n : Nat} {g : TG} {tb : TS} {D : Ends} {σ : St} {H : Hp} (Pv : Nat → St → Hp → Prop) (h0 : Pv 0 σ H)
    (hs : ∀ i σ H, i < n → Pv i σ H → g (.int (lo + i)) σ H fun σ2 H2 => tb { D with nx := Pv (i + 1), ct := Pv (i + 1), bk := D.nx } σ2 H2) (hd : ∀ σ H, Pv n σ H → D.nx σ H) :
    ∃ W : Nat → Nat → St → Hp → Prop, (∃ m, W 0 m σ H) ∧ ∀ i m σ H, W i m σ H →
      ((Itr lo n).stop i H ∧ D.nx σ H) ∨ ((Itr lo n).go i H ∧ ∃ N : St → Hp → Prop, (∀ σ' H', N σ' H' → ∃ m', m' < m ∧ W (i + 1) m' σ' H') ∧ ∀ x H', (Itr lo n).yld i H x H' → g x σ H' fun σ2 H2 => tb { D with nx := N, ct := N, bk := D.nx } σ2 H2) := by
  refine ⟨fun i m σ H => m = n - i ∧ i ≤ n ∧ Pv i σ H, ⟨n, by simp, Nat.zero_le _, h0⟩, ?_⟩
  rintro i m σ H ⟨rfl, hi, p⟩
  by_cases hlt : i < n
  · refine .inr ⟨hlt, Pv (i + 1), fun σ' H' p' => ⟨n - (i + 1), by omega, rfl, hlt, p'⟩, fun x H' y => ?_⟩
    obtain ⟨e, y⟩ := y
    subst e y
    exact hs i σ _ hlt p
  · have e : i = n := by omega
    subst e
    exact .inl ⟨Nat.le_refl _, hd σ H p⟩
end L2
namespace L2
open PySem PySem.Spec PyProof.Rows
abbrev R2 := V → V → Hp → VK → Prop
def OpR (X : Cx) (f : Value → Value → Sem Value) (r : R2) : Prop :=
  ∀ (pins : List (Addr × Obj)) (s : Shared) (σ : St) (H : Hp) (x y : V) (v u : Value) (Q : VK), Inv X pins σ H s → RelV x v → RelV y u → r x y H Q →
    wpAny (model X.prog X.w) X.A (f v u) (EP X pins σ Q) X.xe s
def UnR (X : Cx) (f : Value → Sem Value) (r : V → Hp → VK → Prop) : Prop :=
  ∀ (pins : List (Addr × Obj)) (s : Shared) (σ : St) (H : Hp) (x : V) (v : Value) (Q : VK), Inv X pins σ H s → RelV x v → r x H Q →
    wpAny (model X.prog X.w) X.A (f v) (EP X pins σ Q) X.xe s
def CallR (X : Cx) (f : Value) (r : List V → Hp → VK → Prop) : Prop :=
  ∀ (pins : List (Addr × Obj)) (s : Shared) (σ : St) (H : Hp) (xs : List V) (us : List Value) (Q : VK), Inv X pins σ H s → Vals xs us → r xs H Q →
    wpAny (model X.prog X.w) X.A (call f us) (EP X pins σ Q) X.xe s
def TruR (X : Cx) (r : V → Hp → (Bool → Hp → Prop) → Prop) : Prop :=
  ∀ (pins : List (Addr × Obj)) (s : Shared) (σ : St) (H : Hp) (x : V) (v : Value) (Q : Bool → Hp → Prop), Inv X pins σ H s → RelV x v → r x H Q →
    wpAny (model X.prog X.w) X.A (truthy v) (TP X pins σ Q) X.xe s
def tOp (r : R2) (ta tb : TE) : TE := fun σ H Q => ta σ H fun x H1 => tb σ H1 fun y H2 => r x y H2 Q
def tUn (r : V → Hp → VK → Prop) (ta : TE) : TE := fun σ H Q => ta σ H fun x H1 => r x H1 Q
def rI (C : Int → Int → Prop) (g : Int → Int → V) : R2 := fun x y H Q => ∃ i j, x = .int i ∧ y = .int j ∧ C i j ∧ Q (g i j) H
def rI0 (g : Int → Int → V) : R2 := fun x y H Q => ∃ i j, x = .int i ∧ y = .int j ∧ Q (g i j) H
def rU (g : Int → V) : V → Hp → VK → Prop := fun x H Q => ∃ i, x = .int i ∧ Q (g i) H
section
variable {X : Cx} {a b c : Expr} {ta tb tc : TE} {pos : Pos}
theorem binT (ha : PE X a ta) (hb : PE X b tb) {pins : List (Addr × Obj)} {s : Shared} {σ : St} {H : Hp} {R : V → V → Hp → Prop} (I : Inv X pins σ H s)
    (h : ta σ H fun x H1 => tb σ H1 fun y H2 => R x y H2) {Q : Value → Shared → Prop} {f : Value → Value → Sem Value}
    (hf : ∀ v u s2 x y H2, Inv X pins σ H2 s2 → RelV x v → RelV y u → R x y H2 → wpAny (model X.prog X.w) X.A (f v u) Q X.xe s2) :
    wpAny (model X.prog X.w) X.A (eval a X.env) (fun v s₁ => wpAny (model X.prog X.w) X.A (eval b X.env) (fun u s₂ => wpAny (model X.prog X.w) X.A (f v u) Q X.xe s₂) X.xe s₁) X.xe s := by
  refine thn (ha pins s σ H _ I h) fun v s1 ⟨x, H1, I1, r1, q1⟩ => ?_
  refine thn (hb pins s1 σ H1 _ I1 q1) fun u s2 ⟨y, H2, I2, r2, q2⟩ => ?_
  exact hf v u s2 x y H2 I2 r1 r2 q2
theorem pe_op {op : Operator} {r : R2} (ho : OpR X (binaryOp op) r) (ha : PE X a ta) (hb : PE X b tb) : PE X (.BinOp a op b pos) (tOp r ta tb) := by
  intro pins s σ H Q I h
  exact wpAny_BinOp (binT ha hb I h fun v u s2 x y H2 I2 rx ry q => ho pins s2 σ H2 x y v u Q I2 rx ry q)
theorem pe_un {op : UnaryOp} {r : V → Hp → VK → Prop} (ho : UnR X (unaryOp op) r) (ha : PE X a ta) : PE X (.UnaryOp op a pos) (tUn r ta) := by
  intro pins s σ H Q I h
  exact UnaryOp_ (thn (ha pins s σ H _ I h) fun v s1 ⟨x, H1, I1, r1, q1⟩ => ho pins s1 σ H1 x v Q I1 r1 q1)
theorem opI {f : Value → Value → Sem Value} {C : Int → Int → Prop} {g : Int → Int → Int}
    (rule : ∀ (i j : Int) (t u : Tok) (s : Shared) (Q : Value → Shared → Prop) (E : Value → Shared → Prop), C i j → Q (.int (g i j) s.toks) { s with toks := s.toks + 1 } → wpAny (model X.prog X.w) X.A (f (.int i t) (.int j u)) Q E s) :
    OpR X f (rI C fun i j => .int (g i j)) := by
  intro pins s σ H x y v u Q I rx ry h
  obtain ⟨i, j, rfl, rfl, hc, q⟩ := h
  obtain ⟨t, rfl⟩ := rx
  obtain ⟨t', rfl⟩ := ry
  exact rule i j t t' s _ _ hc ⟨.int (g i j), H, I.tok _, ⟨_, rfl⟩, q⟩
theorem opI0 {f : Value → Value → Sem Value} {g : Int → Int → Int}
    (rule : ∀ (i j : Int) (t u : Tok) (s : Shared) (Q : Value → Shared → Prop) (E : Value → Shared → Prop), Q (.int (g i j) s.toks) { s with toks := s.toks + 1 } → wpAny (model X.prog X.w) X.A (f (.int i t) (.int j u)) Q E s) :
    OpR X f (rI0 fun i j => .int (g i j)) := by
  intro pins s σ H x y v u Q I rx ry h
  obtain ⟨i, j, rfl, rfl, q⟩ := h
  obtain ⟨t, rfl⟩ := rx
  obtain ⟨t', rfl⟩ := ry
  exact rule i j t t' s _ _ ⟨.int (g i j), H, I.tok _, ⟨_, rfl⟩, q⟩
theorem opB0 {f : Value → Value → Sem Value} {g : Int → Int → Bool}
    (rule : ∀ (i j : Int) (t u : Tok) (s : Shared) (Q : Value → Shared → Prop) (E : Value → Shared → Prop), Q (.bool (g i j)) s → wpAny (model X.prog X.w) X.A (f (.int i t) (.int j u)) Q E s) :
    OpR X f (rI0 fun i j => .bl (g i j)) := by
  intro pins s σ H x y v u Q I rx ry h
  obtain ⟨i, j, rfl, rfl, q⟩ := h
  obtain ⟨t, rfl⟩ := rx
  obtain ⟨t', rfl⟩ := ry
  exact rule i j t t' s _ _ ⟨.bl (g i j), H, I, rfl, q⟩
def CDiv (i j : Int) : Prop := 0 < j ∧ j < 1073741824
def CDivN (i j : Int) : Prop := j ≠ 0 ∧ j.natAbs < 1073741824
def CPow (i j : Int) : Prop := 0 ≤ j ∧ j ≤ 1000000 ∧ i.natAbs < 2 ^ 64
def CMul (i j : Int) : Prop := (-(2 ^ 64) < i ∧ i < 2 ^ 64) ∨ (-(2 ^ 64) < j ∧ j < 2 ^ 64)
theorem CMul.ok {i j : Int} (h : CMul i j) : IntMulOk i j := by
  rcases h with ⟨h1, h2⟩ | ⟨h1, h2⟩
  · exact .of_left (intBits_le_64 h1 h2)
  · exact .of_right (intBits_le_64 h1 h2)
theorem op_add : OpR X (binaryOp .Add) (rI0 fun i j => .int (i + j)) := opI0 fun _ _ _ _ _ _ _ q => add_int q
theorem op_sub : OpR X (binaryOp .Sub) (rI0 fun i j => .int (i - j)) := opI0 fun _ _ _ _ _ _ _ q => sub_int q
theorem op_mul : OpR X (binaryOp .Mult) (rI CMul fun i j => .int (i * j)) := opI fun _ _ _ _ _ _ _ hc q => mul_int q hc.ok
theorem op_fdiv : OpR X (binaryOp .FloorDiv) (rI CDiv fun i j => .int (i / j)) := opI fun i j _ _ _ _ _ hc q => by
  have h1 : (0 : Int) < j := hc.1
  have h2 : j < 1073741824 := hc.2
  exact floordiv_int (by omega) (by rw [Int.fdiv_eq_ediv_of_nonneg i (by omega)]; exact q) (.inl (PyProof.noPylong_small (by omega)))
theorem op_mod : OpR X (binaryOp .Mod) (rI (fun _ j => 0 < j) fun i j => .int (i % j)) := opI fun i j _ _ _ _ _ hc q => by
  have h1 : (0 : Int) < j := hc
  exact mod_int' (by omega) (by rw [Int.fmod_eq_emod_of_nonneg i (by omega)]; exact q)
theorem op_pow : OpR X (binaryOp .Pow) (rI CPow fun i j => .int (i ^ j.toNat)) := opI fun _ _ _ _ _ _ _ hc q => pow_int_small hc.1 hc.2.1 hc.2.2 q
theorem unI {f : Value → Sem Value} {g : Int → Int}
    (rule : ∀ (i : Int) (t : Tok) (s : Shared) (Q : Value → Shared → Prop) (E : Value → Shared → Prop), Q (.int (g i) s.toks) { s with toks := s.toks + 1 } → wpAny (model X.prog X.w) X.A (f (.int i t)) Q E s) :
    UnR X f (rU fun i => .int (g i)) := by
  intro pins s σ H x v Q I rx h
  obtain ⟨i, rfl, q⟩ := h
  obtain ⟨t, rfl⟩ := rx
  exact rule i t s _ _ ⟨.int (g i), H, I.tok _, ⟨_, rfl⟩, q⟩
theorem un_neg : UnR X (unaryOp .USub) (rU fun i => .int (-i)) := unI fun _ _ _ _ _ q => neg_int q
end
def scal : V → V → Bool
  | .non, .non => true | .non, .int _ => true | .int _, .non => true | .non, .bl _ => true | .bl _, .non => true | .non, .str _ => true | .str _, .non => true
  | .int _, .int _ => true | .bl _, .bl _ => true | .str _, .str _ => true | .byt _, .byt _ => true
  | .int _, .str _ => true | .str _, .int _ => true | .bl _, .str _ => true | .str _, .bl _ => true
  | _, _ => false
def rEq : R2 := fun x y H Q => scal x y = true ∧ Q (.bl (decide (x = y))) H
def rNe : R2 := fun x y H Q => scal x y = true ∧ Q (.bl (!decide (x = y))) H
theorem dec_int {i j : Int} : decide (V.int i = V.int j) = (i == j) := by
  rw [Bool.eq_iff_iff]
  simp
theorem dec_bl {i j : Bool} : decide (V.bl i = V.bl j) = (i == j) := by
  rw [Bool.eq_iff_iff]
  simp
theorem dec_str {i j : Str} : decide (V.str i = V.str j) = (i == j) := by
  rw [Bool.eq_iff_iff]
  simp
theorem dec_byt {i j : Array UInt8} : decide (V.byt i = V.byt j) = (i.toList == j.toList) := by
  rw [Bool.eq_iff_iff]
  cases i
  cases j
  simp
section
variable {X : Cx} {a b c : Expr} {ta tb tc : TE} {pos : Pos}
theorem fin_bl {pins : List (Addr × Obj)} {σ : St} {H : Hp} {s : Shared} {Q : VK} {k k' : Bool} (I : Inv X pins σ H s) (q : Q (.bl k) H) (e : k = k') : EP X pins σ Q (.bool k') s := by
  subst e
  exact ⟨.bl k, H, I, rfl, q⟩
theorem op_eq : OpR X (compareOp .Eq) rEq := by
  intro pins s σ H x y v u Q I rx ry h
  obtain ⟨hs, q⟩ := h
  cases x with
  | non =>
    cases rx
    cases y with
    | non => cases ry; exact PySem.EqNone.eq_none_none (fin_bl I q (by simp))
    | bl j => cases ry; exact PySem.EqNone.eq_none_bool (fin_bl I q (by simp))
    | int j => obtain ⟨t', rfl⟩ := ry; exact PySem.EqNone.eq_none_int (fin_bl I q (by simp))
    | str j => obtain ⟨t', rfl⟩ := ry; exact PySem.EqNone.eq_none_str (fin_bl I q (by simp))
    | _ => exact absurd (show false = true from hs) Bool.false_ne_true
  | bl i =>
    cases rx
    cases y with
    | non => cases ry; exact PySem.EqNone.eq_bool_none (fin_bl I q (by simp))
    | bl j => cases ry; exact eq_bool (fin_bl I q dec_bl)
    | str j => obtain ⟨t', rfl⟩ := ry; exact PySem.EqMixed.eq_bool_str (fin_bl I q (by simp))
    | _ => exact absurd (show false = true from hs) Bool.false_ne_true
  | int i =>
    obtain ⟨t, rfl⟩ := rx
    cases y with
    | non => cases ry; exact PySem.EqNone.eq_int_none (fin_bl I q (by simp))
    | int j => obtain ⟨t', rfl⟩ := ry; exact eq_int (fin_bl I q dec_int)
    | str j => obtain ⟨t', rfl⟩ := ry; exact PySem.EqMixed.eq_int_str (fin_bl I q (by simp))
    | _ => exact absurd (show false = true from hs) Bool.false_ne_true
  | str i =>
    obtain ⟨t, rfl⟩ := rx
    cases y with
    | non => cases ry; exact PySem.EqNone.eq_str_none (fin_bl I q (by simp))
    | bl j => cases ry; exact PySem.EqMixed.eq_str_bool (fin_bl I q (by simp))
    | int j => obtain ⟨t', rfl⟩ := ry; exact PySem.EqMixed.eq_str_int (fin_bl I q (by simp))
    | str j => obtain ⟨t', rfl⟩ := ry; exact eq_str (fin_bl I q dec_str)
    | _ => exact absurd (show false = true from hs) Bool.false_ne_true
  | byt i =>
    obtain ⟨t, rfl⟩ := rx
    cases y with
    | byt j => obtain ⟨t', rfl⟩ := ry; exact PySem.W.eq_bytes (fin_bl I q dec_byt)
    | _ => exact absurd (show false = true from hs) Bool.false_ne_true
  | _ => cases y <;> exact absurd (show false = true from hs) Bool.false_ne_true
theorem op_ne : OpR X (compareOp .NotEq) rNe := by
  intro pins s σ H x y v u Q I rx ry h
  obtain ⟨hs, q⟩ := h
  cases x with
  | non =>
    cases rx
    cases y with
    | non => cases ry; exact PySem.EqNone.ne_none_none (fin_bl I q (by simp))
    | bl j => cases ry; exact PySem.EqNone.ne_none_bool (fin_bl I q (by simp))
    | int j => obtain ⟨t', rfl⟩ := ry; exact PySem.EqNone.ne_none_int (fin_bl I q (by simp))
    | str j => obtain ⟨t', rfl⟩ := ry; exact PySem.EqNone.ne_none_str (fin_bl I q (by simp))
    | _ => exact absurd (show false = true from hs) Bool.false_ne_true
  | bl i =>
    cases rx
    cases y with
    | non => cases ry; exact PySem.EqNone.ne_bool_none (fin_bl I q (by simp))
    | bl j => cases ry; exact ne_bool (fin_bl I q (congrArg not dec_bl))
    | str j => obtain ⟨t', rfl⟩ := ry; exact PySem.EqMixed.ne_bool_str (fin_bl I q (by simp))
    | _ => exact absurd (show false = true from hs) Bool.false_ne_true
  | int i =>
    obtain ⟨t, rfl⟩ := rx
    cases y with
    | non => cases ry; exact PySem.EqNone.ne_int_none (fin_bl I q (by simp))
    | int j => obtain ⟨t', rfl⟩ := ry; exact ne_int (fin_bl I q (congrArg not dec_int))
    | str j => obtain ⟨t', rfl⟩ := ry; exact PySem.EqMixed.ne_int_str (fin_bl I q (by simp))
    | _ => exact absurd (show false = true from hs) Bool.false_ne_true
  | str i =>
    obtain ⟨t, rfl⟩ := rx
    cases y with
    | non => cases ry; exact PySem.EqNone.ne_str_none (fin_bl I q (by simp))
    | bl j => cases ry; exact PySem.EqMixed.ne_str_bool (fin_bl I q (by simp))
    | int j => obtain ⟨t', rfl⟩ := ry; exact PySem.EqMixed.ne_str_int (fin_bl I q (by simp))
    | str j => obtain ⟨t', rfl⟩ := ry; exact ne_str (fin_bl I q (congrArg not dec_str))
    | _ => exact absurd (show false = true from hs) Bool.false_ne_true
  | byt i =>
    obtain ⟨t, rfl⟩ := rx
    cases y with
    | byt j => obtain ⟨t', rfl⟩ := ry; exact PySem.W.ne_bytes (fin_bl I q (congrArg not dec_byt))
    | _ => exact absurd (show false = true from hs) Bool.false_ne_true
  | _ => cases y <;> exact absurd (show false = true from hs) Bool.false_ne_true
theorem op_lt : OpR X (compareOp .Lt) (rI0 fun i j => .bl (decide (i < j))) := opB0 fun _ _ _ _ _ _ _ q => lt_int q
theorem op_gt : OpR X (compareOp .Gt) (rI0 fun i j => .bl (decide (j < i))) := opB0 fun _ _ _ _ _ _ _ q => gt_int q
theorem op_isN : OpR X (compareOp .Is) (fun x y H Q => y = .non ∧ Q (.bl (decide (x = .non))) H) := by
  intro pins s σ H x y v u Q I rx ry h
  obtain ⟨rfl, q⟩ := h
  cases ry
  refine is_none_gen (fin_bl I q ?_)
  cases x <;> first
    | (cases rx; rfl)
    | (obtain ⟨t, rfl⟩ := rx; rfl)
theorem op_notN : OpR X (compareOp .IsNot) (fun x y H Q => y = .non ∧ Q (.bl (!decide (x = .non))) H) := by
  intro pins s σ H x y v u Q I rx ry h
  obtain ⟨rfl, q⟩ := h
  cases ry
  refine isnot_none_gen (fin_bl I q ?_)
  cases x <;> first
    | (cases rx; rfl)
    | (obtain ⟨t, rfl⟩ := rx; rfl)
def isObj : HO → Bool
  | .lst _ => true
  | .ins _ _ _ => true
  | _ => false
theorem nomark (b : Expr) {op : CmpOp} (h : op ≠ .In := by decide) (h2 : op ≠ .NotIn := by decide) : behindInMarks op b = false := by
  have e1 : (op == CmpOp.In) = false := by cases op <;> first | rfl | exact absurd rfl h
  have e2 : (op == CmpOp.NotIn) = false := by cases op <;> first | rfl | exact absurd rfl h2
  cases b <;> simp [behindInMarks, e1, e2]
theorem pe_cmpR {op : CmpOp} {r : R2} (ho : OpR X (compareOp op) r) (ha : PE X a ta) (hb : PE X b tb) (hm : behindInMarks op b = false) : PE X (.Compare a [op] [b] pos) (tOp r ta tb) := by
  intro pins s σ H Q I h
  exact wpAny_Compare1 (binT ha hb I h fun v u s2 x y H2 I2 rx ry q => ho pins s2 σ H2 x y v u Q I2 rx ry q) hm
def tTest (t : TE) : TT := fun σ H Q => t σ H fun x H' => ∃ k, x = .bl k ∧ Q k H'
theorem pt_cmpR {op : CmpOp} {r : R2} (ho : OpR X (compareOp op) r) (ha : PE X a ta) (hb : PE X b tb) (hm : behindInMarks op b = false) : PT X (.Compare a [op] [b] pos) (tTest (tOp r ta tb)) := by
  intro pins s σ H Q I h
  refine wpAny_isTrue_Compare1 (thn (ha pins s σ H _ I h) fun v s1 ⟨x, H1, I1, r1, q1⟩ => thn (hb pins s1 σ H1 _ I1 q1) fun u s2 ⟨y, H2, I2, r2, q2⟩ =>
    thn (ho pins s2 σ H2 x y v u _ I2 r1 r2 q2) fun c s3 ⟨z, H3, I3, r3, k, e, q3⟩ => ?_) hm
  subst e
  cases r3
  exact wpAny_truthy_bool ⟨H3, I3, q3⟩
def tChain (r r' : R2) (ta tb tc : TE) : TE := fun σ H Q => ta σ H fun x H1 => tb σ H1 fun y H2 => r x y H2 fun z H3 => ∃ k, z = .bl k ∧
  (if k = true then tc σ H3 fun w' H4 => r' y w' H4 Q else Q (.bl false) H3)
def TruV (K : PySem.W.Frag) (x : V) (H : Hp) (k : Bool) : Prop :=
  match x with
  | .non => k = false
  | .bl b => k = b
  | .int i => k = (i != 0)
  | .str y => y.length ≤ sizeLine ∧ k = ((y.length : Int) != 0)
  | .byt y => y.size ≤ sizeLine ∧ k = ((y.size : Int) != 0)
  | .ref p => (∃ xs, SqL K H p xs ∧ k = !xs.isEmpty) ∨ (∃ xs, SqT K H p xs ∧ k = !xs.isEmpty) ∨ ∃ kvs, H p = some (.dK kvs) ∧ k = !kvs.isEmpty
  | _ => False
theorem isEmpty_kv {κ : Type} {kvs : List (κ × V)} {vs : List (κ × Value)} (r : KV kvs vs) : (!vs.isEmpty) = !kvs.isEmpty := by
  cases r <;> rfl
theorem isEmpty_of {xs : List V} {its : List Value} (r : Vals xs its) : (!its.toArray.isEmpty) = !xs.isEmpty := by
  cases r <;> simp
theorem line63 : (sizeLine : Nat) < 2 ^ 63 := by rw [sizeLine_eq]; decide
theorem tru_ok : TruR X (fun x H Q => ∃ k, TruV X.K x H k ∧ Q k H) := by
  intro pins s σ H x v Q I rx h
  obtain ⟨k, e, q⟩ := h
  have hl := line63
  have hs : sizeLine = 16777216 := sizeLine_eq
  cases x with
  | non =>
    cases rx
    have e' : k = false := e
    subst e'
    exact truthy_none ⟨H, I, q⟩
  | bl b =>
    cases rx
    have e' : k = b := e
    subst e'
    exact wpAny_truthy_bool ⟨H, I, q⟩
  | int i =>
    obtain ⟨t, rfl⟩ := rx
    have e' : k = (i != 0) := e
    subst e'
    exact PySem.P.truthy_int ⟨H, I, q⟩
  | str y =>
    obtain ⟨t, rfl⟩ := rx
    obtain ⟨hy, e'⟩ : y.length ≤ sizeLine ∧ k = ((y.length : Int) != 0) := e
    subst e'
    exact PySem.P.truthy_str (by omega) ⟨H, I.tok _, q⟩
  | byt y =>
    obtain ⟨t, rfl⟩ := rx
    obtain ⟨hy, e'⟩ : y.size ≤ sizeLine ∧ k = ((y.size : Int) != 0) := e
    subst e'
    exact PySem.W.truthy_bytes (by omega) ⟨H, I.tok _, q⟩
  | ref p =>
    cases rx
    have e' : (∃ xs, SqL X.K H p xs ∧ k = !xs.isEmpty) ∨ (∃ xs, SqT X.K H p xs ∧ k = !xs.isEmpty) ∨ ∃ kvs, H p = some (.dK kvs) ∧ k = !kvs.isEmpty := e
    rcases e' with ⟨xs, hx, e'⟩ | ⟨xs, hx, e'⟩ | ⟨kvs, hx, e'⟩
    · subst e'
      obtain ⟨its, r, pl, hz⟩ := I.list hx
      have hlen := r.length
      exact wpAny_truthy_list pl.isList (by simp only [List.size_toArray]; omega) ⟨H, I.tok _, by rw [isEmpty_of r]; exact q⟩
    · subst e'
      obtain ⟨its, r, pl, hz⟩ := I.tuple hx
      have hlen := r.length
      exact truthy_tuple pl (by simp only [List.size_toArray]; omega) ⟨H, I.tok _, by rw [isEmpty_of r]; exact q⟩
    · subst e'
      obtain ⟨hz, hS, vs, r, m⟩ : kvs.length ≤ sizeLine ∧ (p == sysModules) = false ∧ ∃ vs, KV kvs vs ∧ s.heap.DictOf (mixKind X.prog X.w) p vs := I.hok p _ hx
      have hlen : kvs.length = vs.length := Paired.length r
      exact wpAny_truthy_dict hS m (by omega) ⟨H, I.tok _, by rw [isEmpty_kv r]; exact q⟩
  | _ => exact (show False from e).elim
theorem pt_truth (ha : PE X a ta) (he : ∀ whole, isTrue a X.env whole = (do let v ← whole; standAt a.pos; holding [v] (truthy v))) :
    PT X a (fun σ H Q => ta σ H fun x H' => ∃ k, TruV X.K x H' k ∧ Q k H') := by
  intro pins s σ H Q I h
  exact isTrue_plain (thn (ha pins s σ H _ I h) fun v s1 ⟨x, H1, I1, r1, q1⟩ => tru_ok pins s1 σ H1 x v Q I1 r1 q1) (he _)
theorem op_add_str : OpR X (binaryOp .Add) (fun x y H Q => ∃ i j, x = .str i ∧ y = .str j ∧ i.length + j.length ≤ sizeLine ∧ Q (.str (i ++ j)) H) := by
  intro pins s σ H x y v u Q I rx ry h
  obtain ⟨i, j, rfl, rfl, hz, q⟩ := h
  obtain ⟨t, rfl⟩ := rx
  obtain ⟨t', rfl⟩ := ry
  exact add_str (fun t' tk => ⟨.str (i ++ j), H, I.tok _, ⟨_, rfl⟩, q⟩) hz
def PlainIxT (b : Expr) : Prop := ∀ o i, subscripted b false o i = operate [o, i] (getItem o i)
theorem vals1 {x : V} {us : List Value} (r : Vals [x] us) : ∃ u, us = [u] ∧ RelV x u := by
  cases r with
  | cons r1 r2 => cases r2; exact ⟨_, rfl, r1⟩
theorem vals2 {x y : V} {us : List Value} (r : Vals [x, y] us) : ∃ u w', us = [u, w'] ∧ RelV x u ∧ RelV y w' := by
  cases r with
  | cons r1 r2 =>
    cases r2 with
    | cons r3 r4 => cases r4; exact ⟨_, _, rfl, r1, r3⟩
theorem call_int1 : CallR X (.type "int") (fun xs H Q => (∃ i, xs = [.int i] ∧ Q (.int i) H) ∨ ∃ k, xs = [.bl k] ∧ Q (.int (if k then 1 else 0)) H) := by
  intro pins s σ H xs us Q I r h
  rcases h with ⟨i, rfl, q⟩ | ⟨k, rfl, q⟩
  · obtain ⟨u, rfl, t, rfl⟩ := vals1 r
    exact call_int_int ⟨.int i, H, I, ⟨_, rfl⟩, q⟩
  · obtain ⟨u, rfl, r1⟩ := vals1 r
    cases r1
    exact call_int_bool ⟨.int (if k then 1 else 0), H, I.tok _, ⟨_, rfl⟩, q⟩
def LenV (K : PySem.W.Frag) (x : V) (H : Hp) (n : Nat) : Prop :=
  match x with
  | .str y => y.length ≤ sizeLine ∧ n = y.length
  | .byt y => y.size ≤ sizeLine ∧ n = y.size
  | .ref p => (∃ xs, SqL K H p xs ∧ n = xs.length) ∨ ∃ xs, SqT K H p xs ∧ n = xs.length
  | _ => False
end
end L2
namespace L2
open PySem PySem.Spec PyProof.Rows
structure ObjM (h : Heap) (x dx C : Addr) (mA : Str → Option Value) : Prop where
  obj : h.get? x = some (PySem.W.instObj C dx)
  ns : h.Ns1 dx mA
  ne : dx ≠ x
theorem lookIn_ns {h : Heap} {dx : Addr} {mA : Str → Option Value} (n : h.Ns1 dx mA) : ∃ od, h.get? dx = some od ∧ ∀ name, PySem.W.lookIn name od = some (mA name) := by
  obtain ⟨o, es, ep, ho, hd, hk, _, hm⟩ := n
  refine ⟨o, ho, fun name => ?_⟩
  have e := hm name
  unfold nsFind findBy at e
  rw [← Array.find?_toList] at e
  unfold PySem.W.lookIn
  rw [hd]
  dsimp only
  split
  · rename_i y q
    rw [q] at e
    exact congrArg some e
  · rename_i q
    rw [q] at e
    have a : es.toList.any (·.refKey) = false := by
      rw [List.any_eq_false]
      intro y hy
      obtain ⟨z, t, hkey⟩ := hk y (Array.mem_toList_iff.mp hy)
      simp [DictEntry.refKey, hkey]
    have a' : ¬ es.toList.any (·.refKey) = true := by rw [a]; exact Bool.false_ne_true
    rw [if_neg a']
    exact congrArg some e
theorem ObjM.look {h : Heap} {x dx C : Addr} {mA : Str → Option Value} (I : ObjM h x dx C mA) : ∃ od, PySem.W.InstAt h x (PySem.W.instObj C dx) C (some od) ∧ ∀ name, PySem.W.lookIn name od = some (mA name) :=
  let ⟨od, ho, hl⟩ := lookIn_ns I.ns
  ⟨od, ⟨I.obj, rfl, rfl, ho⟩, hl⟩
section
variable {prog : Program} {w : World} {A : Around} {E : Value → Shared → Prop} {s : Shared} {K : PySem.W.Frag} {x dx C f : Addr} {mA : Str → Option Value} {name : Str} {v : Value}
theorem get_map {expr : Bool} {Q : Value → Shared → Prop} (X : K.In s.heap) (I : ObjM s.heap x dx C mA) (hg : PySem.W.plainGet K C name = true) (hh : PySem.W.hasDictIn K C = true)
    (ha : PySem.W.findIn K (.ref C) name = some none) (hv : mA name = some v) (hv' : PySem.W.handedIn v = true) (h : Q v { s with toks := s.toks + 1 }) :
    wpAny (model prog w) A (getAttr (.ref x) name expr) Q E s := by
  obtain ⟨od, J, hl⟩ := I.look
  exact PySem.W.get_value X J (PySem.W.plainGet_of hg).1 (PySem.W.findObj_own hh ha rfl (by rw [hl, hv])) hv' h
theorem get_meth {pl : Sem Bool} {Q : Value × List Value → Shared → Prop} (X : K.In s.heap) (I : ObjM s.heap x dx C mA) (hg : PySem.W.plainGet K C name = true)
    (hf : PySem.W.findIn K (.ref C) name = some (some (.ref f))) (ht : PySem.W.isFn K (.ref f) = true) (hv : mA name = none) (h : Q (.ref f, [.ref x]) s) :
    wpAny (model prog w) A (getMethod (.ref x) name pl) Q E s := by
  obtain ⟨od, J, hl⟩ := I.look
  exact PySem.W.method_fn X J (PySem.W.plainGet_of hg).1 (PySem.W.plainGet_of hg).2 hf (beq_iff_eq.mp ht) (by show (PySem.W.lookIn name od).map (·.isSome) = some false; rw [hl, hv]; rfl) h
theorem set_map {ns : List Str} {Q : Unit → Shared → Prop} (X : K.In s.heap) (I : ObjM s.heap x dx C mA)
    (hs : PySem.W.findIn K (.ref C) "__setattr__" = some (some (.builtin "object.__setattr__"))) (hp : PySem.W.plainOver K C = true) (ht : PySem.W.takerIn K C name = some none) (hh : PySem.W.hasDictIn K C = true)
    (hw : PySem.Within mA ns) (hsz : ns.length ≤ sizeLine)
    (h : ∀ h', ObjM h' x dx C (fun y => if y = name then some v else mA y) → Heap.SameBut dx s.heap h' → Q () { s with heap := h', toks := s.toks + 2 }) :
    wpAny (model prog w) A (setAttr (.ref x) name v) Q E s := by
  obtain ⟨od, J, hl⟩ := I.look
  refine PySem.W.set_plain X J hs (PySem.W.osa_open (s := { s with toks := s.toks + 1 }) (r := none) X J hp ht fun b => ?_)
  obtain ⟨cd, hc, hd'⟩ := PySem.W.any_some hh
  have hx : s.heap.get? x = some ⟨.ref C, some dx, .plain, #[]⟩ := I.obj
  refine wpAny_bind (wpAny_pure (wpAny_bind (wpAny_bind (wpAny_loadPart hx (wpAny_bind (PySem.W.Looks.here (s := { s with toks := s.toks + 1 }) (PySem.W.looks_clsIn X hc) ?_))))))
  rw [hd']
  refine wpAny_pure (a := some dx) (wpAny_bind (wpAny_pure (wpAny_bind ?_)))
  refine wpAny_nsSet1 (s := { s with toks := s.toks + 1 }) I.ns fun h' hn2 hs2 => ?_
  obtain ⟨oD, esD, epD, hoD, hdD, hcD⟩ := hn2.count (PySem.Within.cons name v hw)
  refine wpAny_bind (wpAny_lookBehind hoD (by rw [hdD]; exact pastItsLine_dict (Nat.le_trans hcD (by rw [List.length_cons]; omega))) ?_)
  exact wpAny_pure (h _ ⟨(hs2.2 _ (Ne.symm I.ne)).trans I.obj, hn2, I.ne⟩ hs2)
theorem make_map {R : Result → Shared → Prop} {vs : List Value} {kw : List (Str × Value)} (X : K.In s.heap) (hm : PySem.W.makesIn K C = true)
    (hi : PySem.W.findIn K (.ref C) "__init__" = some (some (.ref f))) (hf : PySem.W.typeIn K (.ref f) = some (.type "function"))
    (h : codeAny (model prog w) (A.under (.builtin "type.__call__" ⟨.ref C :: vs, kw⟩)) (.call (.ref f) ⟨.ref (s.heap.objs.size + 1) :: vs, kw⟩) (PySem.W.InitBack (s.heap.objs.size + 1) R)
      { s with heap := (s.heap.push PySem.W.emptyDict).push (PySem.W.instObj C s.heap.objs.size) }) :
    codeAny (model prog w) A (.call (.ref C) ⟨vs, kw⟩) R s := by
  obtain ⟨hh, g, d, t, os⟩ := s
  exact PySem.W.make_core (PySem.W.makes_of X hm) (PySem.W.looks_findIn X hi) (fun self => PySem.W.bind_fn X self hf) (.inl rfl) h
end
def putF (f : Str) (v : V) : List (Str × V) → List (Str × V)
  | [] => [(f, v)]
  | (g, x) :: r => if g = f then (g, v) :: r else (g, x) :: putF f v r
theorem lookup_putF (f g : Str) (v : V) : ∀ fs : List (Str × V), (putF f v fs).lookup g = if g = f then some v else fs.lookup g
  | [] => by
    show List.lookup g [(f, v)] = _
    by_cases h : g = f
    · have hb : (g == f) = true := beq_iff_eq.mpr h
      simp only [List.lookup, hb, if_pos h]
    · have hb : (g == f) = false := beq_eq_false_iff_ne.mpr h
      simp only [List.lookup, hb, if_neg h]
  | (k, x) :: r => by
    have ih := lookup_putF f g v r
    rw [show putF f v ((k, x) :: r) = (if k = f then (k, v) :: r else (k, x) :: putF f v r) from rfl]
    by_cases hk : k = f
    · rw [if_pos hk]
      by_cases h : g = k
      · have hb : (g == k) = true := beq_iff_eq.mpr h
        simp only [List.lookup, hb, if_pos (h.trans hk)]
      · have hb : (g == k) = false := beq_eq_false_iff_ne.mpr h
        simp only [List.lookup, hb, if_neg (fun e : g = f => h (e.trans hk.symm))]
    · rw [if_neg hk]
      by_cases h : g = k
      · have hb : (g == k) = true := beq_iff_eq.mpr h
        simp only [List.lookup, hb, if_neg (fun e : g = f => hk (h.symm.trans e))]
      · have hb : (g == k) = false := beq_eq_false_iff_ne.mpr h
        simp only [List.lookup, hb]
        exact ih
theorem keys_putF (f : Str) (v : V) : ∀ fs : List (Str × V), f ∈ (putF f v fs).map (·.1) ∧ ∀ g, g ∈ fs.map (·.1) → g ∈ (putF f v fs).map (·.1)
  | [] => ⟨by simp [putF], fun g h => by simp at h⟩
  | (k, x) :: r => by
    obtain ⟨i1, i2⟩ := keys_putF f v r
    rw [show putF f v ((k, x) :: r) = (if k = f then (k, v) :: r else (k, x) :: putF f v r) from rfl]
    by_cases hk : k = f
    · rw [if_pos hk]
      subst hk
      exact ⟨by simp, fun g h => by simpa using h⟩
    · rw [if_neg hk]
      refine ⟨?_, fun g h => ?_⟩
      · rw [List.map_cons]
        exact List.mem_cons_of_mem _ i1
      · rw [List.map_cons] at h ⊢
        rcases List.mem_cons.mp h with e | e
        · exact List.mem_cons.mpr (.inl e)
        · exact List.mem_cons_of_mem _ (i2 g e)
theorem length_putF (f : Str) (v : V) : ∀ fs : List (Str × V), (putF f v fs).length ≤ fs.length + 1
  | [] => by simp [putF]
  | (k, x) :: r => by
    have ih := length_putF f v r
    rw [show putF f v ((k, x) :: r) = (if k = f then (k, v) :: r else (k, x) :: putF f v r) from rfl]
    by_cases hk : k = f
    · rw [if_pos hk, List.length_cons, List.length_cons]; omega
    · rw [if_neg hk, List.length_cons, List.length_cons]; omega
theorem RelO.some_of {v : V} {o : Option Value} (r : RelO (some v) o) : ∃ u, o = some u ∧ RelV v u := by
  cases o with
  | none => exact (show False from r).elim
  | some u => exact ⟨u, rfl, r⟩
theorem RelO.none_of {o : Option Value} (r : RelO none o) : o = none := by
  cases o with
  | none => rfl
  | some u => exact (show False from r).elim
theorem handed_of {v : V} {u : Value} (r : RelV v u) : PySem.W.handedIn u = true := by
  cases v with
  | non => cases (show u = Value.none from r); rfl
  | bl b => cases (show u = Value.bool b from r); rfl
  | int i => obtain ⟨t, e⟩ := (show ∃ t, u = Value.int i t from r); cases e; rfl
  | str x => obtain ⟨t, e⟩ := (show ∃ t, u = Value.str x t from r); cases e; rfl
  | byt b => obtain ⟨t, e⟩ := (show ∃ t, u = Value.bytes b t from r); cases e; rfl
  | flt b => obtain ⟨t, e⟩ := (show ∃ t, u = Value.float b t from r); cases e; rfl
  | ref a => cases (show u = Value.ref a from r); rfl
  | ty n => cases (show u = Value.type n from r); rfl
section
variable {P : Program} {w : World} {H H' : Hp} {h h' : Heap} {a C dx : Addr} {fs fs' : List (Str × V)}
theorem ins_get (hok : HOk P w H h) (e : H a = some (.ins C dx fs)) : ∃ mA, ObjM h a dx C mA ∧ (∀ f, RelO (fs.lookup f) (mA f)) ∧ PySem.Within mA (fs.map (·.1)) ∧ fs.length ≤ 1000 ∧ H dx = some (.own a) := by
  obtain ⟨d, z, ne, ob, mA, n, r, q⟩ := (show ObjOk P w H h a (.ins C dx fs) from hok a _ e)
  exact ⟨mA, ⟨ob, n, ne⟩, r, q, z, d⟩
end
structure Cls (K : PySem.W.Frag) (C : Addr) : Prop where
  pg : PySem.W.plainGet K C Str.empty = true
  hd : PySem.W.hasDictIn K C = true
  po : PySem.W.plainOver K C = true
  sa : PySem.W.findIn K (.ref C) "__setattr__" = some (some (.builtin "object.__setattr__"))
theorem Cls.get {K : PySem.W.Frag} {C : Addr} (c : Cls K C) (f : Str) : PySem.W.plainGet K C f = true := c.pg
def NoAttr (K : PySem.W.Frag) (C : Addr) (f : Str) : Prop := PySem.W.findIn K (.ref C) f = some none
theorem NoAttr.taker {K : PySem.W.Frag} {C : Addr} {f : Str} (n : NoAttr K C f) : PySem.W.takerIn K C f = some none := by
  unfold PySem.W.takerIn
  rw [show PySem.W.findIn K (.ref C) f = some none from n]
  rfl
structure Con (K : PySem.W.Frag) (C : Addr) (f : Str) (v : V) (u : Value) : Prop where
  at_ : PySem.W.findIn K (.ref C) f = some (some u)
  rel : RelV v u
  get : PySem.W.specialIn K u "__get__" = some none
  cp : PySem.W.copiedNames.contains f = false
structure Meth (K : PySem.W.Frag) (C : Addr) (m : Str) (f : Addr) : Prop where
  at_ : PySem.W.findIn K (.ref C) m = some (some (.ref f))
  fn : PySem.W.isFn K (.ref f) = true
  kp : PySem.W.keepIn K (.ref f) = true
section
variable {X : Cx} {pins : List (Addr × Obj)} {σ : St} {H : Hp} {s : Shared} {a C dx : Addr} {fs : List (Str × V)} {f : Str} {v : V} {A : Around} {E : Value → Shared → Prop}
theorem getattr_ok {b : Bool} {Q : Value → Shared → Prop} (I : Inv X pins σ H s) (e : H a = some (.ins C dx fs)) (c : Cls X.K C) (n : NoAttr X.K C f) (l : fs.lookup f = some v)
    (h : ∀ u s', Inv X pins σ H s' → RelV v u → Q u s') : wpAny (model X.prog X.w) A (getAttr (.ref a) f b) Q E s := by
  obtain ⟨mA, O, r, _, _, _⟩ := ins_get I.hok e
  obtain ⟨u, hu, ru⟩ := RelO.some_of (v := v) (o := mA f) (by rw [← l]; exact r f)
  exact get_map I.kIn O (c.get f) c.hd n hu (handed_of ru) (h u _ (I.tok _) ru)
theorem getmeth_ok {m : Str} {g : Addr} {pl : Sem Bool} {Q : Value × List Value → Shared → Prop} (I : Inv X pins σ H s) (e : H a = some (.ins C dx fs)) (c : Cls X.K C) (k : Meth X.K C m g) (l : fs.lookup m = none)
    (h : Q (.ref g, [.ref a]) s) : wpAny (model X.prog X.w) A (getMethod (.ref a) m pl) Q E s := by
  obtain ⟨mA, O, r, _, _, _⟩ := ins_get I.hok e
  have hn : mA m = none := RelO.none_of (by rw [← l]; exact r m)
  exact get_meth I.kIn O (c.get m) k.at_ k.fn hn h
theorem setattr_ok {y : V} {u : Value} {Q : Unit → Shared → Prop} (I : Inv X pins σ H s) (e : H a = some (.ins C dx fs)) (c : Cls X.K C) (n : NoAttr X.K C f) (hl : fs.length < 1000) (ry : RelV y u)
    (h : ∀ s', Inv X pins σ (upd H a (.ins C dx (putF f y fs))) s' → Q () s') : wpAny (model X.prog X.w) A (setAttr (.ref a) f u) Q E s := by
  obtain ⟨mA, O, r, wi, _, ho⟩ := ins_get I.hok e
  have hz : (fs.map (·.1)).length ≤ sizeLine := by rw [List.length_map, sizeLine_eq]; omega
  refine set_map I.kIn O c.sa c.po n.taker c.hd wi hz fun h' O' sb => h _ ?_
  have hd : ∃ o, h'.get? dx = some o := let ⟨o, _, _, e', _⟩ := O'.ns; ⟨o, e'⟩
  refine I.write (x := a) (e := dx) (by rw [e]; exact True.intro) (.inr ho) (fun b q hb z => (sb.2 b hb).trans z) hd ?_
  refine ⟨by rw [upd_ne O.ne]; exact ho, ?_, O.ne, O'.obj, _, O'.ns, fun g => ?_, fun g hg => ?_⟩
  · have := length_putF f y fs; omega
  · show RelO ((putF f y fs).lookup g) (if g = f then some u else mA g)
    rw [lookup_putF]
    by_cases q : g = f
    · rw [if_pos q, if_pos q]; exact ry
    · rw [if_neg q, if_neg q]; exact r g
  · by_cases q : g = f
    · rw [q]; exact (keys_putF f y fs).1
    · refine (keys_putF f y fs).2 g (wi g fun z => hg ?_)
      show (if g = f then some u else mA g) = none
      rw [if_neg q]; exact z
theorem Inv.made (I : Inv X pins σ H s) : Inv X pins σ (upd (upd H s.heap.objs.size (.own (s.heap.objs.size + 1))) (s.heap.objs.size + 1) (.ins C s.heap.objs.size []))
    { s with heap := (s.heap.push PySem.W.emptyDict).push (PySem.W.instObj C s.heap.objs.size) } := by
  have e1 : (s.heap.push PySem.W.emptyDict).get? s.heap.objs.size = some PySem.W.emptyDict := Heap.get?_push_size s.heap rfl
  have e2 : ((s.heap.push PySem.W.emptyDict).push (PySem.W.instObj C s.heap.objs.size)).get? (s.heap.objs.size + 1) = some (PySem.W.instObj C s.heap.objs.size) := by
    have := Heap.get?_push_size (s.heap.push PySem.W.emptyDict) (o := PySem.W.instObj C s.heap.objs.size) rfl
    rwa [Heap.size_push] at this
  have e3 : (s.heap.push PySem.W.emptyDict).Ns s.heap.objs.size (fun _ => none) := ⟨PySem.W.emptyDict, #[], _, e1, rfl, (fun e he => absurd he (by simp)), fun _ => rfl⟩
  have I1 := I.laid (a := s.heap.objs.size) (o := .own (s.heap.objs.size + 1)) (h' := s.heap.push PySem.W.emptyDict) (t' := s.toks) (fun b u q => Heap.get?_push_of_some _ q) (Nat.le_refl _) ⟨_, e1⟩
  refine I1.laid (a := s.heap.objs.size + 1) (o := .ins C s.heap.objs.size []) (t' := s.toks) (fun b u q => Heap.get?_push_of_some _ q) (Nat.le_of_eq (Heap.size_push _ _)) ?_
  have ne : s.heap.objs.size ≠ s.heap.objs.size + 1 := Nat.ne_of_lt (Nat.lt_succ_self _)
  refine ⟨by rw [upd_ne ne, upd_same], Nat.zero_le _, ne, e2, fun _ => none, (Heap.Ns1.of_empty e3).at fun o q => Heap.get?_push_of_some _ q, fun _ => True.intro, fun y hy => absurd rfl hy⟩
theorem attr_of {prog : Program} {w : World} {env : Env} {e : Expr} {f : Str} {pos : Pos} {s : Shared} {Q : Value → Shared → Prop} (hb : attributeBase e f env (eval e env) = eval e env)
    (h : wpAny (model prog w) A (eval e env) (fun o s₁ => wpAny (model prog w) A (getAttr o f true) Q E s₁) E s) : wpAny (model prog w) A (eval (.Attribute e f pos) env) Q E s :=
  Attribute_any_ h (by rw [arm_eval_Attribute, hb])
end
def tFld (K : PySem.W.Frag) (ta : TE) (f : Str) : TE := fun σ H Q => ta σ H fun x H1 => ∃ a C dx fs v, x = .ref a ∧ H1 a = some (.ins C dx fs) ∧ Cls K C ∧ NoAttr K C f ∧ fs.lookup f = some v ∧ Q v H1
def tCon (K : PySem.W.Frag) (ta : TE) (f : Str) : TE := fun σ H Q => ta σ H fun x H1 => ∃ a C dx fs v u, x = .ref a ∧ H1 a = some (.ins C dx fs) ∧ Cls K C ∧ Con K C f v u ∧ fs.lookup f = none ∧ Q v H1
def sFld (K : PySem.W.Frag) (ta tv : TE) (f : Str) : TS := fun D σ H => tv σ H fun y H1 => ta σ H1 fun x H2 => ∃ a C dx fs, x = .ref a ∧ H2 a = some (.ins C dx fs) ∧ Cls K C ∧ NoAttr K C f ∧ fs.length < 1000 ∧
  D.nx σ (upd H2 a (.ins C dx (putF f y fs)))
def InOp (X : Cx) (op : Operator) (rd : V → V → Hp → VK → Prop) : Prop :=
  ∀ (pins : List (Addr × Obj)) (s : Shared) (σ : St) (H : Hp) (x y : V) (u v : Value) (Q : VK), Inv X pins σ H s → RelV x u → RelV y v → rd x y H Q → wpAny (model X.prog X.w) X.A (inplaceOp op u v) (EP X pins σ Q) X.xe s
def sFldAug (K : PySem.W.Frag) (ta tv : TE) (rd : V → V → Hp → VK → Prop) (f : Str) : TS := fun D σ H => ta σ H fun x H1 => ∃ a C dx fs v, x = .ref a ∧ H1 a = some (.ins C dx fs) ∧ Cls K C ∧ NoAttr K C f ∧ fs.lookup f = some v ∧
  tv σ H1 fun y H2 => rd v y H2 fun z H3 => ∃ dx' fs', H3 a = some (.ins C dx' fs') ∧ fs'.length < 1000 ∧ D.nx σ (upd H3 a (.ins C dx' (putF f z fs')))
section
variable {X : Cx} {o e value : Expr} {f : Str} {pos pos' tpos : Pos} {ta tv : TE}
theorem pe_fld (he : PE X e ta) (hb : attributeBase e f X.env (eval e X.env) = eval e X.env) : PE X (.Attribute e f pos) (tFld X.K ta f) := by
  intro pins s σ H Q I h
  refine attr_of hb (thn (he pins s σ H _ I h) fun u s1 ⟨x, H1, I1, rx, a, C, dx, fs, v, ex, ea, c, n, l, q⟩ => ?_)
  subst ex
  obtain rfl : u = Value.ref a := rx
  exact getattr_ok I1 ea c n l fun u' s2 I2 ru => ⟨v, H1, I2, ru, q⟩
theorem ps_fld (ha : PE X o ta) (hv : PE X value tv) (hs : swapsWith value (some (.Attribute o f pos')) pos.line X.env = pure false) : PS X (.Assign [.Attribute o f pos'] value pos) (sFld X.K ta tv f) := by
  intro pins s σ H D I h
  refine plainObj_wpAny_Assign_Attribute (thn (hv pins s σ H _ I h) fun u s1 ⟨y, H1, I1, ry, q⟩ => thn (ha pins s1 σ H1 _ I1 q) fun ov s2 ⟨x, H2, I2, rx, a, C, dx, fs, ex, ea, c, n, l, q2⟩ => ?_) hs
  subst ex
  obtain rfl : ov = Value.ref a := rx
  exact setattr_ok I2 ea c n l ry fun s3 I3 => ⟨σ, _, I3, q2⟩
def rAdd : V → V → Hp → VK → Prop := fun x y H Q => ∃ i j, x = .int i ∧ y = .int j ∧ Q (.int (i + j)) H
def rSub : V → V → Hp → VK → Prop := fun x y H Q => ∃ i j, x = .int i ∧ y = .int j ∧ Q (.int (i - j)) H
end
section
variable {X : Cx} {pins : List (Addr × Obj)} {σ : St} {H : Hp} {s : Shared} {A : Around} {E : Value → Shared → Prop} {Q : Value → Shared → Prop} {c : Value} {b : Bool}
inductive TyOf (K : PySem.W.Frag) (H : Hp) : V → Value → Prop where
  | non : TyOf K H .non (.type "NoneType")
  | bl (x : Bool) : TyOf K H (.bl x) (.type "bool")
  | int (i : Int) : TyOf K H (.int i) (.type "int")
  | str (x : Str) : TyOf K H (.str x) (.type "str")
  | flt (x : UInt64) : TyOf K H (.flt x) (.type "float")
  | lst {a : Addr} {xs : List V} (e : H a = some (.lst xs)) : TyOf K H (.ref a) (.type "list")
  | frz {a : Addr} {o : Obj} {xs : List V} (e : H a = some (.frz o (.lst xs))) : TyOf K H (.ref a) (.type "list")
  | tup {a : Addr} {xs : List V} (e : H a = some (.tup xs)) : TyOf K H (.ref a) (.type "tuple")
  | dK {a : Addr} {kvs : List (Key × V)} (e : H a = some (.dK kvs)) : TyOf K H (.ref a) (.type "dict")
  | dT {a : Addr} {kvs : List (List Key × V)} (e : H a = some (.dT kvs)) : TyOf K H (.ref a) (.type "dict")
  | ins {a C dx : Addr} {fs : List (Str × V)} (e : H a = some (.ins C dx fs)) (cl : Cls K C) (ha : PySem.W.findIn K (.ref C) "__class__" = some (some (.builtin "object.__class__")))
      (hn : PySem.W.specialIn K (.builtin "object.__class__") "__get__" = some (some (.builtin "getset_descriptor.__get__"))) (htk : PySem.W.takesIn K (.builtin "object.__class__") = some true)
      (hm : PySem.W.mroIn K C (.type "object") = some true) : TyOf K H (.ref a) (.ref C)
theorem isinst_ok {x : V} {u t : Value} (I : Inv X pins σ H s) (rx : RelV x u) (ty : TyOf X.K H x t) (e : PySem.W.kitOne X.K t c = some b) (h : ∀ tk, Q (.bool b) { s with toks := tk }) :
    wpAny (model X.prog X.w) A (call (.builtin "isinstance") [u, c]) Q E s := by
  cases ty with
  | non => cases (show u = Value.none from rx); exact PySem.W.kia_one PySem.W.kitx_none I.kIn True.intro e (fun z => nomatch z) h
  | bl y => cases (show u = Value.bool y from rx); exact PySem.W.kia_one PySem.W.kitx_bool I.kIn True.intro e (fun z => nomatch z) h
  | int i => obtain ⟨t, q⟩ := (show ∃ t, u = Value.int i t from rx); cases q; exact PySem.W.kia_one PySem.W.kitx_int I.kIn True.intro e (fun z => nomatch z) h
  | str y => obtain ⟨t, q⟩ := (show ∃ t, u = Value.str y t from rx); cases q; exact PySem.W.kia_one PySem.W.kitx_str I.kIn True.intro e (fun z => nomatch z) h
  | flt y => obtain ⟨t, q⟩ := (show ∃ t, u = Value.float y t from rx); cases q; exact PySem.W.kia_one PySem.W.kitx_float I.kIn True.intro e (fun z => nomatch z) h
  | @lst a xs ea =>
    cases (show u = Value.ref a from rx)
    obtain ⟨_, _, n, _, h1⟩ := (show ObjOk X.prog X.w H s.heap a (.lst xs) from I.hok a _ ea)
    exact PySem.W.kia_one PySem.W.kitx_list I.kIn ⟨_, h1, rfl⟩ e (fun z => nomatch z) h
  | @frz a ob xs ea =>
    cases (show u = Value.ref a from rx)
    obtain ⟨_, _, _, n, _, h1⟩ := (show ObjOk X.prog X.w H s.heap a (.frz ob (.lst xs)) from I.hok a _ ea)
    exact PySem.W.kia_one PySem.W.kitx_list I.kIn ⟨_, h1, rfl⟩ e (fun z => nomatch z) h
  | @tup a xs ea =>
    cases (show u = Value.ref a from rx)
    obtain ⟨_, _, _, p⟩ := (show ObjOk X.prog X.w H s.heap a (.tup xs) from I.hok a _ ea)
    obtain ⟨o, h1, h2, _⟩ := p
    exact PySem.W.kia_one PySem.W.kitx_tuple I.kIn ⟨o, h1, h2⟩ e (fun z => nomatch z) h
  | @dK a kvs ea =>
    cases (show u = Value.ref a from rx)
    obtain ⟨_, _, vs, _, p⟩ := (show ObjOk X.prog X.w H s.heap a (.dK kvs) from I.hok a _ ea)
    obtain ⟨o, es, ep, h1, h2, _⟩ := p
    exact PySem.W.kia_one PySem.W.kitx_dict I.kIn ⟨o, h1, h2.1⟩ e (fun z => nomatch z) h
  | @dT a kvs ea =>
    cases (show u = Value.ref a from rx)
    obtain ⟨_, _, xs, _, o, es, ep, h1, h2, _⟩ := (show ObjOk X.prog X.w H s.heap a (.dT kvs) from I.hok a _ ea)
    exact PySem.W.kia_one PySem.W.kitx_dict I.kIn ⟨o, h1, h2.1⟩ e (fun z => nomatch z) h
  | @ins a C dx fs ea cl ha hn htk hm =>
    cases (show u = Value.ref a from rx)
    obtain ⟨mA, O, _⟩ := ins_get I.hok ea
    obtain ⟨od, J, _⟩ := O.look
    exact PySem.W.kia_one (PySem.W.kitx_own (cl.get _) cl.hd ha hn htk hm) I.kIn J e (fun z => nomatch z) h
end
end L2
namespace L2
open PySem PySem.Spec PyProof.Rows
structure Room (k : Nat) (A : Around) : Prop where
  hd : A.handled = none
  dp : A.depth + 3 * k + 5 < recursionLimit
  un : A.units + 16 * k + 200 < cLine
theorem Room.mono {j k : Nat} {A : Around} (r : Room k A) (h : j ≤ k) : Room j A := ⟨r.hd, by have := r.dp; omega, by have := r.un; omega⟩
theorem Room.deeper {k : Nat} {A : Around} (r : Room (k + 1) A) (env : Env) : Room k (A.deeper env) :=
  ⟨r.hd, by have := r.dp; show A.depth + 1 + 3 * k + 5 < _; omega, by have := r.un; show A.units + 3 + 16 * k + 200 < _; omega⟩
theorem make_depth {A : Around} {C : Addr} {us : List Value} {kw : List (Str × Value)} : (A.under (.builtin "type.__call__" ⟨.ref C :: us, kw⟩)).depth = A.depth + 1 := by
  first | rfl | simp [Around.under, Code.weight, Code.isCreation, Code.isGuard, Code.isCaller, Code.frames, Code.isFrame, guardIds]
theorem make_units {A : Around} {C : Addr} {us : List Value} {kw : List (Str × Value)} : (A.under (.builtin "type.__call__" ⟨.ref C :: us, kw⟩)).units = A.units + 1 := by
  first | rfl | simp [Around.under, Code.cUnits, Code.frames, Code.isFrame]
theorem Room.make {k : Nat} {A : Around} (r : Room (k + 1) A) (C : Addr) (us : List Value) (kw : List (Str × Value)) : Room k (A.under (.builtin "type.__call__" ⟨.ref C :: us, kw⟩)) :=
  ⟨r.hd, by have := r.dp; rw [make_depth]; omega, by have := r.un; rw [make_units]; omega⟩
theorem Room.depth {k : Nat} {A : Around} (r : Room k A) : A.depth < recursionLimit := by have := r.dp; omega
theorem Room.units {k : Nat} {A : Around} (r : Room k A) : A.units + 64 < cLine := by have := r.un; omega
def tNil : TA := fun _ H Q => Q [] H
def tCons (ta : TE) (tr : TA) : TA := fun σ H Q => ta σ H fun x H1 => tr σ H1 fun xs H2 => Q (x :: xs) H2
section
variable {X : Cx} {e : Expr} {es : List Expr} {te : TE} {t : TA} {pos : Pos}
theorem pa_nil : PA X [] tNil := fun _ _ _ _ H Q I h => Calls.spliced_nil ⟨[], H, I, .nil, h⟩
theorem pa_cons (ha : PE X e te) (hr : PA X es t) (hs : starEach (e :: es) X.env = (false, eval e X.env) :: starEach es X.env := by rfl) : PA X (e :: es) (tCons te t) := by
  intro pos pins s σ H Q I h
  rw [hs]
  show wpAny _ _ (spliced ((false, eval e X.env) :: backTo pos (starEach es X.env))) _ _ s
  refine Calls.spliced_cons (thn (ha pins s σ H _ I h) fun u s1 ⟨x, H1, I1, r1, q1⟩ => ?_)
  exact thn (hr pos pins s1 σ H1 _ I1 q1) fun us s2 ⟨xs, H2, I2, r2, q2⟩ => ⟨x :: xs, H2, I2, .cons r1 r2, q2⟩
def tTup (t : TA) : TE := fun σ H Q => t σ H fun xs H1 => xs.length ≤ sizeLine ∧ ∀ p, H1 p = none → Q (.ref p) (upd H1 p (.tup xs))
def tLst (t : TA) : TE := fun σ H Q => t σ H fun xs H1 => xs.length ≤ sizeLine ∧ ∀ p, H1 p = none → Q (.ref p) (upd H1 p (.lst xs))
theorem pe_tup {x1} (h : PA X es t) : PE X (.Tuple es x1 pos) (tTup t) := by
  intro pins s σ H Q I hq
  refine wpAny_Tuple_spliced (thn (h pos pins s σ H _ I hq) fun us s1 ⟨xs, H1, I1, r, z, q⟩ => ⟨by rw [← r.length]; exact z, ?_⟩)
  have hf : H1 s1.heap.objs.size = none := I1.hok.fresh (Nat.le_refl _)
  refine ⟨.ref s1.heap.objs.size, upd H1 s1.heap.objs.size (.tup xs), I1.laid (t' := s1.toks) (fun b u e => Heap.get?_push_of_some _ e) (Nat.le_refl _) ?_, rfl, q _ hf⟩
  exact ⟨z, us, r, ⟨_, Heap.get?_push_size _ rfl, rfl, _, rfl⟩⟩
theorem pe_lst (h : PA X es t) : PE X (.List es pos) (tLst t) := by
  intro pins s σ H Q I hq
  refine wpAny_List_spliced (thn (h pos pins s σ H _ I hq) fun us s1 ⟨xs, H1, I1, r, z, q⟩ => ⟨by rw [← r.length]; exact z, ?_⟩)
  have hf : H1 s1.heap.objs.size = none := I1.hok.fresh (Nat.le_refl _)
  refine ⟨.ref s1.heap.objs.size, upd H1 s1.heap.objs.size (.lst xs), I1.laid (t' := s1.toks) (fun b u e => Heap.get?_push_of_some _ e) (Nat.le_refl _) ?_, rfl, q _ hf⟩
  exact ⟨z, us, 0, r, Heap.get?_push_size _ rfl⟩
end
abbrev Sp := List V → Hp → VK → XK → Prop
abbrev CXT := List Env → Hp → Shared → XK → Value → Shared → Prop
structure Env0 (P : Program) (w : World) (K : PySem.W.Frag) (mg : Str → Option Value) (base : Heap) (A : Around) (outer : List Env) (s : Shared) (H : Hp) : Prop where
  frames : A.frames = some outer
  mod : Mod K mg base
  bs : ∀ b o, base.get? b = some o → s.heap.get? b = some o ∧ H b = none
  bsz : base.objs.size ≤ s.heap.objs.size
  funs : s.heap.FunFrames base outer
  frf : ∀ b ∈ frs outer, H b = none
  hok : HOk P w H s.heap
  bare : AllBare s.gens
def CE (outer : List Env) (P : Program) (w : World) (H : Hp) (s : Shared) (Q : VK) (u : Value) (s' : Shared) : Prop :=
  ∃ v H', s'.os = s.os ∧ AllBare s'.gens ∧ Un (frs outer) [] H H' s.heap s'.heap ∧ HOk P w H' s'.heap ∧ RelV v u ∧ Q v H'
def CR (CX : CXT) (outer : List Env) (P : Program) (w : World) (H : Hp) (s : Shared) (Q : VK) (E : XK) (r : Result) (s' : Shared) : Prop :=
  match r with
  | .ok (.ret u) => CE outer P w H s Q u s'
  | .ok _ => False
  | .error e => CX outer H s E e s'
structure FnOk (P : Program) (w : World) (K : PySem.W.Frag) (mg : Str → Option Value) (base : Heap) (CX : CXT) (k : Nat) (f : Addr) (fd : FuncData) (ps : List Str) (sp : Sp) : Prop where
  len : ∀ vs H Q E, sp vs H Q E → vs.length = ps.length
  run : ∀ (A : Around) (outer : List Env) (s : Shared) (H : Hp) (args : Args) (us : List Value) (vs : List V) (Q : VK) (E : XK), Room k A → Env0 P w K mg base A outer s H → BindsTo s fd args (ps.zip us) → Vals vs us → sp vs H Q E →
    codeAny (model P w) A (.call (.ref f) args) (CR CX outer P w H s Q E) s
theorem FnOk.mono {P : Program} {w : World} {K : PySem.W.Frag} {mg : Str → Option Value} {base : Heap} {CX : CXT} {j k : Nat} {f : Addr} {fd : FuncData} {ps : List Str} {sp : Sp} (F : FnOk P w K mg base CX j f fd ps sp) (h : j ≤ k) :
    FnOk P w K mg base CX k f fd ps sp := ⟨F.len, fun A outer s H args us vs Q E hr => F.run A outer s H args us vs Q E (hr.mono h)⟩
theorem Env0.make {P : Program} {w : World} {K : PySem.W.Frag} {mg : Str → Option Value} {base : Heap} {A : Around} {outer : List Env} {s : Shared} {H : Hp} (e : Env0 P w K mg base A outer s H) (C : Addr) (us : List Value) (kw : List (Str × Value)) :
    Env0 P w K mg base (A.under (.builtin "type.__call__" ⟨.ref C :: us, kw⟩)) outer s H := ⟨by first | exact e.frames | (simpa [Around.under, Code.envs, Code.isFrame, pushEnvs] using e.frames), e.mod, e.bs, e.bsz, e.funs, e.frf, e.hok, e.bare⟩
section
variable {X : Cx} {pins : List (Addr × Obj)} {σ : St} {H : Hp} {s s' : Shared}
theorem Inv.env0 (I : Inv X pins σ H s) : Env0 X.prog X.w X.K X.mg X.base X.A X.stack s H :=
  ⟨I.ok.frames, I.ok.mod, I.bs, Nat.le_trans I.ok.bsz I.sz, I.stack, I.stkFree, I.hok, I.bare⟩
theorem Inv.after {Q : VK} {u : Value} (I : Inv X pins σ H s) (h : CE X.stack X.prog X.w H s Q u s') : EP X pins σ Q u s' := by
  obtain ⟨v, H', os, bare, un, hok, r, q⟩ := h
  obtain ⟨hh, g, d, t, os'⟩ := s'
  obtain rfl : os' = s.os := os
  exact ⟨v, H', I.call (h' := hh) (g' := g) (d' := d) (t' := t) (ch := []) un hok bare (fun b z => absurd z (by simp)), r, q⟩
end
def tCall (sp : Sp) (dvs : List V) (E : XK) (t : TA) : TE := fun σ H Q => t σ H fun vs H1 => sp (vs ++ dvs) H1 Q E
def tMeth (C : Addr) (m : Str) (sp : Sp) (dvs : List V) (E : XK) (ta : TE) (t : TA) : TE := fun σ H Q => ta σ H fun x H1 => ∃ a dx fs, x = .ref a ∧ H1 a = some (.ins C dx fs) ∧ fs.lookup m = none ∧
  t σ H1 fun vs H2 => sp (x :: (vs ++ dvs)) H2 Q E
def tMake (C : Addr) (sp : Sp) (dvs : List V) (E : XK) (t : TA) : TE := fun σ H Q => t σ H fun vs H1 => ∀ x dx, H1 x = none → H1 dx = none → dx ≠ x →
  sp (.ref x :: (vs ++ dvs)) (upd (upd H1 dx (.own x)) x (.ins C dx [])) (fun v H2 => v = .non ∧ Q (.ref x) H2) E
def Binds (K : PySem.W.Frag) (fd : FuncData) (ps : List Str) (ds : List Value) : Prop :=
  ∀ (s : Shared) (us : List Value), K.In s.heap → (us ++ ds).length = ps.length → BindsTo s fd ⟨us, []⟩ (ps.zip (us ++ ds))
theorem Binds.all {K : PySem.W.Frag} {fd : FuncData} {ps : List Str} (h : ∀ us : List Value, us.length = ps.length → bindArgs fd ⟨us, []⟩ = pure (ps.zip us)) : Binds K fd ps [] := fun s us _ hl => by
  rw [List.append_nil] at hl ⊢
  exact .of_eq (h us hl)
def Passes (CX : CXT) (X : Cx) (E : XK) : Prop := ∀ (pins : List (Addr × Obj)) (σ : St) (H : Hp) (s : Shared) (e : Value) (s' : Shared), Inv X pins σ H s → CX X.stack H s E e s' → X.xe e s'
section
variable {X : Cx} {CX : CXT} {k : Nat} {f C : Addr} {fd : FuncData} {ps : List Str} {sp : Sp} {dvs : List V} {ds : List Value} {E : XK} {x m : Str} {p pos apos : Pos} {e o : Expr} {es : List Expr} {ta : TE} {t : TA}
theorem run_fn {pins : List (Addr × Obj)} {σ : St} {H : Hp} {s : Shared} {Q : VK} {us : List Value} {vs : List V} (F : FnOk X.prog X.w X.K X.mg X.base CX k f fd ps sp) (hr : Room k X.A) (hb : Binds X.K fd ps ds) (hd : Vals dvs ds) (hx : Passes CX X E)
    (I : Inv X pins σ H s) (r : Vals vs us) (h : sp (vs ++ dvs) H Q E) : wpAny (model X.prog X.w) X.A (call (.ref f) us) (EP X pins σ Q) X.xe s := by
  have r2 : Vals (vs ++ dvs) (us ++ ds) := r.append hd
  have hl : (us ++ ds).length = ps.length := by rw [← r2.length]; exact F.len _ _ _ _ h
  refine wpAny_call (codeAny_mono (F.run X.A X.stack s H ⟨us, []⟩ (us ++ ds) (vs ++ dvs) Q E hr I.env0 (hb s us I.kIn hl) r2 h) fun r s' hq => ?_)
  cases r with
  | error e => exact hx pins σ H s e s' I hq
  | ok fl =>
    cases fl with
    | ret u => exact I.after hq
    | next => exact False.elim hq
    | brk => exact False.elim hq
    | cont => exact False.elim hq
theorem pe_call (F : FnOk X.prog X.w X.K X.mg X.base CX k f fd ps sp) (hr : Room k X.A) (hg : Gl X x) (hm : X.mg x = some (.ref f)) (hk : PySem.W.keepIn X.K (.ref f) = true) (hb : Binds X.K fd ps ds) (hd : Vals dvs ds) (hx : Passes CX X E)
    (ha : PA X (e :: es) t) (hdb : (x == ("__debug__" : Str)) = false := by decide) (he : starEach (e :: es) X.env = (false, eval e X.env) :: starEach es X.env := by rfl) (hpl : (backTo pos (starEach es X.env)).any (·.1) = false := by rfl) :
    PE X (.Call (.Name x p) (e :: es) [] pos) (tCall sp dvs E t) := by
  intro pins s σ H Q I h
  refine wpAny_Call_Name_kw (ld_glob I hg hm ?_ hdb)
  refine PySem.W.callWith_K (h₀ := X.base) I.ok.mod.kin hk (thn (ha pos pins s σ H _ I h) fun us s1 ⟨vs, H1, I1, r, q⟩ => ⟨I1.kIn, ?_⟩) he hpl
  exact run_fn F hr hb hd hx I1 r q
theorem pe_meth {pl : Sem Bool} (he : PE X o ta) (c : Cls X.K C) (hm : Meth X.K C m f) (F : FnOk X.prog X.w X.K X.mg X.base CX k f fd ps sp) (hr : Room k X.A) (hb : Binds X.K fd ps ds) (hd : Vals dvs ds) (hx : Passes CX X E) (ha : PA X (e :: es) t)
    (hst : starEach (e :: es) X.env = (false, eval e X.env) :: starEach es X.env := by rfl) (hpl : (backTo pos (starEach es X.env)).any (·.1) = false := by rfl)
    (ht : eval (.Call (.Attribute o m apos) (e :: es) [] pos) X.env = (do
      let ov ← eval o X.env
      standAt apos.atName
      let (f, first) ← holding [ov] (getMethod ov m pl)
      callWith pos f first (backTo pos (starEach (e :: es) X.env)) (backToKw pos (keywordEach [] X.env))) := by rfl) :
    PE X (.Call (.Attribute o m apos) (e :: es) [] pos) (tMeth C m sp dvs E ta t) := by
  intro pins s σ H Q I h
  refine PySem.W.methodCall_KW (pl := pl) (thn (he pins s σ H _ I h) fun u s1 ⟨x, H1, I1, rx, a, dx, fs, ex, ea, l, q⟩ => ?_) ht
  subst ex
  obtain rfl : u = Value.ref a := rx
  refine getmeth_ok I1 ea c hm l ?_
  refine PySem.W.callWith_K (first := [.ref a]) (h₀ := X.base) I.ok.mod.kin hm.kp (thn (ha pos pins s1 σ H1 _ I1 q) fun us s2 ⟨vs, H2, I2, r, q2⟩ => ⟨I2.kIn, ?_⟩) hst hpl
  exact run_fn (us := .ref a :: us) (vs := .ref a :: vs) F hr hb hd hx I2 (.cons rfl r) q2
structure Mk (K : PySem.W.Frag) (C f : Addr) : Prop where
  makes : PySem.W.makesIn K C = true
  init : PySem.W.findIn K (.ref C) "__init__" = some (some (.ref f))
  fn : PySem.W.isFn K (.ref f) = true
  kp : PySem.W.keepIn K (.ref C) = true
theorem run_make {pins : List (Addr × Obj)} {σ : St} {H : Hp} {s : Shared} {Q : VK} {us : List Value} {vs : List V} (M : Mk X.K C f) (F : FnOk X.prog X.w X.K X.mg X.base CX k f fd ps sp) (hr : Room (k + 1) X.A) (hb : Binds X.K fd ps ds) (hd : Vals dvs ds)
    (hx : Passes CX X E) (I : Inv X pins σ H s) (r : Vals vs us)
    (h : ∀ x dx, H x = none → H dx = none → dx ≠ x → sp (.ref x :: (vs ++ dvs)) (upd (upd H dx (.own x)) x (.ins C dx [])) (fun v H2 => v = .non ∧ Q (.ref x) H2) E) :
    wpAny (model X.prog X.w) X.A (call (.ref C) us) (EP X pins σ Q) X.xe s := by
  have hq := h (s.heap.objs.size + 1) s.heap.objs.size (I.hok.fresh (Nat.le_succ _)) (I.hok.fresh (Nat.le_refl _)) (Nat.ne_of_lt (Nat.lt_succ_self _))
  have I2 := Inv.made (C := C) I
  have r2 : Vals (V.ref (s.heap.objs.size + 1) :: (vs ++ dvs)) (Value.ref (s.heap.objs.size + 1) :: (us ++ ds)) := .cons rfl (r.append hd)
  have hl : (Value.ref (s.heap.objs.size + 1) :: us ++ ds).length = ps.length := by
    have e := r2.length
    rw [F.len _ _ _ _ hq] at e
    exact e.symm
  refine wpAny_call (make_map (f := f) I.kIn M.makes M.init (beq_iff_eq.mp M.fn) (codeAny_mono (F.run _ X.stack _ _ ⟨Value.ref (s.heap.objs.size + 1) :: us, []⟩ (Value.ref (s.heap.objs.size + 1) :: (us ++ ds)) _ _ E (hr.make C us [])
    (I2.env0.make C us []) (hb _ (Value.ref (s.heap.objs.size + 1) :: us) I2.kIn hl) r2 hq) fun r s' hq' => ?_))
  cases r with
  | error e => exact hx pins σ _ _ e s' I2 hq'
  | ok fl =>
    cases fl with
    | ret u =>
      obtain ⟨v, H', I3, rv, ev, q3⟩ := I2.after hq'
      subst ev
      exact ⟨rv, ⟨V.ref (s.heap.objs.size + 1), H', I3, rfl, q3⟩⟩
    | next => exact False.elim hq'
    | brk => exact False.elim hq'
    | cont => exact False.elim hq'
theorem pe_make (M : Mk X.K C f) (F : FnOk X.prog X.w X.K X.mg X.base CX k f fd ps sp) (hr : Room (k + 1) X.A) (hg : Gl X x) (hm : X.mg x = some (.ref C)) (hb : Binds X.K fd ps ds) (hd : Vals dvs ds) (hx : Passes CX X E)
    (ha : PA X (e :: es) t) (hdb : (x == ("__debug__" : Str)) = false := by decide) (he : starEach (e :: es) X.env = (false, eval e X.env) :: starEach es X.env := by rfl) (hpl : (backTo pos (starEach es X.env)).any (·.1) = false := by rfl) :
    PE X (.Call (.Name x p) (e :: es) [] pos) (tMake C sp dvs E t) := by
  intro pins s σ H Q I h
  refine wpAny_Call_Name_kw (ld_glob I hg hm ?_ hdb)
  refine PySem.W.callWith_K (h₀ := X.base) I.ok.mod.kin M.kp (thn (ha pos pins s σ H _ I h) fun us s1 ⟨vs, H1, I1, r, q⟩ => ⟨I1.kIn, ?_⟩) he hpl
  exact run_make M F hr hb hd hx I1 r q
end
def PK (X : Cx) (kws : List Keyword) (t : TA) : Prop :=
  ∀ (pos : Pos) (pins : List (Addr × Obj)) (s : Shared) (σ : St) (H : Hp) (Q : List V → Hp → Prop), Inv X pins σ H s → t σ H Q → wpAny (model X.prog X.w) X.A (evalAll ((backToKw pos (keywordEach kws X.env)).map (·.2))) (AP X pins σ Q) X.xe s
section
variable {X : Cx} {CX : CXT} {k : Nat} {f C : Addr} {fd : FuncData} {ps ks : List Str} {sp : Sp} {E : XK} {x m : Str} {p pos apos kpos : Pos} {e o : Expr} {es : List Expr} {kws : List Keyword} {te ta : TE} {t tk : TA} {nm : Option Str}
structure KBinds (K : PySem.W.Frag) (fd : FuncData) (ps ks : List Str) (g : List Value → List Value → List Value) (gV : List V → List V → List V) : Prop where
  to : ∀ (s : Shared) (us ws : List Value), K.In s.heap → (g us ws).length = ps.length → BindsTo s fd ⟨us, ks.zip ws⟩ (ps.zip (g us ws))
  rel : ∀ {vs : List V} {us : List Value} {zs : List V} {ws : List Value}, Vals vs us → Vals zs ws → Vals (gV vs zs) (g us ws)
def tCallK (sp : Sp) (gV : List V → List V → List V) (E : XK) (t tk : TA) : TE := fun σ H Q => t σ H fun vs H1 => tk σ H1 fun zs H2 => sp (gV vs zs) H2 Q E
variable {g : List Value → List Value → List Value} {gV : List V → List V → List V}
end
structure FnScope (N P : List Str) (sc : Scope) : Prop where
  kind : sc.kind = .function
  co : sc.isCoroutine = false
  gen : sc.isGenerator = false
  nd : N.Nodup
  pre : N.take P.length = P
  par : ∀ x ∈ P, sc.names.lookup x = some .local ∨ sc.names.lookup x = some .cell
  nofree : ∀ y ∈ sc.names, y.2 ≠ .free
theorem bindL_out {kindOf : Str → Option NameKind} {x : Str} : ∀ {binds : List (Str × Value)} {m : Str → Option Value}, (∀ v, (x, v) ∉ binds) → bindL kindOf binds m x = m x
  | [], _, _ => rfl
  | (n, v) :: r, m, h => by
    unfold bindL
    rw [bindL_out fun w hw => h w (List.mem_cons_of_mem _ hw)]
    split
    · have : x ≠ n := by rintro rfl; exact h v List.mem_cons_self
      simp [this]
    · rfl
theorem bindC_out {kindOf : Str → Option NameKind} {x : Str} : ∀ {binds : List (Str × Value)} {m : Str → Option Value}, (∀ v, (x, v) ∉ binds) → bindC kindOf binds m x = m x
  | [], _, _ => rfl
  | (n, v) :: r, m, h => by
    unfold bindC
    rw [bindC_out fun w hw => h w (List.mem_cons_of_mem _ hw)]
    split
    · rfl
    · have : x ≠ n := by rintro rfl; exact h v List.mem_cons_self
      simp [this]
theorem bindL_get {kindOf : Str → Option NameKind} {x : Str} {v : Value} : ∀ {P : List Str} {vs : List Value} {i : Nat} {m : Str → Option Value}, P.Nodup → P[i]? = some x → vs[i]? = some v → kindOf x = some .local →
    bindL kindOf (P.zip vs) m x = some v
  | [], _, _, _, _, h, _, _ => by simp at h
  | _ :: _, [], _, _, _, _, h, _ => by simp at h
  | p :: P, w :: vs, 0, m, nd, h1, h2, hk => by
    simp at h1 h2; subst h1; subst h2
    show bindL kindOf ((p, w) :: P.zip vs) m p = _
    unfold bindL
    rw [bindL_out fun v hv => (List.nodup_cons.mp nd).1 (List.of_mem_zip hv).1, if_pos hk]
    simp
  | p :: P, w :: vs, i + 1, m, nd, h1, h2, hk => by
    show bindL kindOf ((p, w) :: P.zip vs) m x = _
    unfold bindL
    exact bindL_get (i := i) (List.nodup_cons.mp nd).2 (by simpa using h1) (by simpa using h2) hk
theorem bindC_get {kindOf : Str → Option NameKind} {x : Str} {v : Value} : ∀ {P : List Str} {vs : List Value} {i : Nat} {m : Str → Option Value}, P.Nodup → P[i]? = some x → vs[i]? = some v → kindOf x ≠ some .local →
    bindC kindOf (P.zip vs) m x = some v
  | [], _, _, _, _, h, _, _ => by simp at h
  | _ :: _, [], _, _, _, _, h, _ => by simp at h
  | p :: P, w :: vs, 0, m, nd, h1, h2, hk => by
    simp at h1 h2; subst h1; subst h2
    show bindC kindOf ((p, w) :: P.zip vs) m p = _
    unfold bindC
    rw [bindC_out fun v hv => (List.nodup_cons.mp nd).1 (List.of_mem_zip hv).1, if_neg hk]
    simp
  | p :: P, w :: vs, i + 1, m, nd, h1, h2, hk => by
    show bindC kindOf ((p, w) :: P.zip vs) m x = _
    unfold bindC
    exact bindC_get (i := i) (List.nodup_cons.mp nd).2 (by simpa using h1) (by simpa using h2) hk
def start (N : List Str) (vs : List V) : St := vs.map some ++ List.replicate (N.length - vs.length) none
def cxOf (CX : CXT) (P : Program) (w : World) (K : PySem.W.Frag) (mg : Str → Option Value) (base : Heap) (N : List Str) (qual : Str) (scope : Scope) (f : Addr) (cd : Value) (A : Around) (outer : List Env) (s : Shared) (H : Hp) (E : XK) : Cx where
  prog := P
  w := w
  K := K
  mg := mg
  base := base
  A := A.deeper (envOfC qual scope s.heap.objs.size f cd)
  N := N
  s₀ := s
  H₀ := H
  env := envOfC qual scope s.heap.objs.size f cd
  outer := outer
  stack := envOfC qual scope s.heap.objs.size f cd :: outer
  ex := []
  calm := true
  fn := fun _ => true
  pn := []
  xe := fun e s' => wpAny (model P w) (A.deeper (envOfC qual scope s.heap.objs.size f cd)) (leaving (envOfC qual scope s.heap.objs.size f cd) e) (fun _ s'' => CX outer H s E e s'') (fun e' s'' => CX outer H s E e' s'') s'
theorem cell_has {sc : Scope} {n : Nat} {x : Str} (h : sc.names.lookup x = some .cell) : ∃ c, (cellsFrom n sc.names []).lookup x = some c := by
  have q := PySem.W.cellsFrom_some sc.names n [] (.inl h)
  exact Option.isSome_iff_exists.mp q
theorem inv_start {CX : CXT} {P : Program} {w : World} {K : PySem.W.Frag} {mg : Str → Option Value} {base : Heap} {N ps : List Str} {qual : Str} {scope : Scope} {f : Addr} {cd : Value} {A : Around} {outer : List Env} {s s1 : Shared} {H : Hp} {E : XK} {us : List Value} {vs : List V}
    (S : FnScope N ps scope) (hd : A.handled = none) (e0 : Env0 P w K mg base A outer s H) (hl : vs.length = ps.length) (r : Vals vs us)
    (x : InCallC s s.heap.objs.size (bindL (envOfC qual scope s.heap.objs.size f cd).kindOf (ps.zip us) fun _ => none) (cellsFrom (s.heap.objs.size + 1) scope.names []) (bindC (envOfC qual scope s.heap.objs.size f cd).kindOf (ps.zip us) fun _ => none) s1) :
    Inv (cxOf CX P w K mg base N qual scope f cd A outer s H E) [] (start N vs) H s1 := by
  have hpl : ps.length ≤ N.length := by have := congrArg List.length S.pre; rw [List.length_take] at this; omega
  obtain ⟨h1, tk, rfl, hk⟩ := x.done
  have noA : ∀ b : Addr, b ∉ (cxOf CX P w K mg base N qual scope f cd A outer s H E).ex := fun b z => absurd (show b ∈ ([] : List Addr) from z) (by simp)
  refine ⟨⟨e0.mod, S.kind, rfl, rfl, Nat.le_refl _, fun y z c h1 h2 => ?_, fun y hy => ?_, fun y c _ h => ?_, fun _ => hd, Around.frames_deeper e0.frames, .inr ⟨rfl, rfl⟩, fun b z => absurd z (noA b), e0.bs, e0.bsz, fun b _ _ => noA b, fun b z => absurd z (noA b), e0.funs, e0.frf⟩,
    rfl, e0.bare, Un.kept hk, ⟨_, x.toInCall.ns, fun i y v h1 h2 h3 => ?_⟩, fun y c h => ⟨_, x.cell y c h⟩, e0.hok.fresh (Nat.le_refl _), fun y c h => ?_, fun p hp => absurd (show p ∈ ([] : List (Addr × Obj)) from hp) (by simp), e0.hok.kept hk, ?_⟩
  · exact name_of_addr x.apart (PySem.mem_of_lookup h1) (PySem.mem_of_lookup h2)
  · have hy : scope.names.lookup y = some .cell ∨ scope.names.lookup y = some .free := hy
    rcases hy with hy | hy
    · exact cell_has hy
    · exact absurd rfl (S.nofree _ (PySem.mem_of_lookup hy))
  · exact Nat.le_of_lt (x.above y c (PySem.mem_of_lookup h))
  · have hi : i < vs.length := by
      unfold start at h2
      by_cases hi : i < vs.length
      · exact hi
      · rw [List.getElem?_append_right (by simpa using hi)] at h2
        rw [List.getElem?_replicate] at h2
        split at h2 <;> cases h2
    have ha : vs[i]? = some v := by
      unfold start at h2
      rw [List.getElem?_append_left (by simpa using hi), List.getElem?_map] at h2
      cases e : vs[i]? with
      | none => rw [e] at h2; cases h2
      | some a => rw [e] at h2; cases h2; rfl
    obtain ⟨u, hu, rv⟩ := r.get ha
    have hp : ps[i]? = some y := by
      rw [← S.pre, List.getElem?_take_of_lt (by omega)]; exact h1
    have ndP : ps.Nodup := by rw [← S.pre]; exact S.nd.sublist (List.take_sublist _ _)
    refine ⟨u, rv, ?_⟩
    rcases S.par y (List.mem_of_getElem? hp) with k | k
    · exact .inl ⟨k, bindL_get ndP hp hu k⟩
    · obtain ⟨c, e⟩ := cell_has (n := s.heap.objs.size + 1) k
      refine .inr ⟨.inl k, c, e, ?_⟩
      have q := x.cell y c e
      rw [bindC_get ndP hp hu (by show scope.names.lookup y ≠ _; rw [k]; decide)] at q
      exact q
  · exact e0.hok.fresh (Nat.le_of_lt (x.above y c (PySem.mem_of_lookup h)))
  · unfold start
    show _ = N.length
    rw [List.length_append, List.length_map, List.length_replicate]
    omega
theorem fn_of {CX : CXT} {P : Program} {w : World} {K : PySem.W.Frag} {mg : Str → Option Value} {base : Heap} {k : Nat} {f : Addr} {name qual : Str} {params : Arguments} {body : List Stmt} {scope : Scope} {dV kV doc pm cdv ct oc : Value} {an od : Option Addr}
    {osl : Array (Option Value)} {N ps : List Str} {sp : Sp} (lk : K.lookup f = some ⟨oc, od, .func (PySem.W.fnOf name qual params body scope dV kV doc pm an cdv ct), osl⟩) (hcd : PySem.W.codeIn K cdv qual = true) (S : FnScope N ps scope)
    (len : ∀ vs H Q E, sp vs H Q E → vs.length = ps.length)
    (hbody : ∀ (A : Around) (outer : List Env) (s : Shared) (H : Hp) (vs : List V) (Q : VK) (E : XK), Room k (A.deeper (envOfC qual scope s.heap.objs.size f cdv)) → sp vs H Q E →
      ∃ t, PSs (cxOf CX P w K mg base N qual scope f cdv A outer s H E) body t ∧ t { nx := fun _ H' => Q .non H', rt := Q } (start N vs) H) :
    FnOk P w K mg base CX (k + 1) f (PySem.W.fnOf name qual params body scope dV kV doc pm an cdv ct) ps sp := by
  refine ⟨len, fun A outer s H args us vs Q E hr e0 hb r hsp => ?_⟩
  have hl := len _ _ _ _ hsp
  have KX : K.In s.heap := e0.mod.kin.keeps fun b o e => (e0.bs b o e).1
  have lim : s.heap.NoLimit := e0.mod.nolimit.keeps fun b o e => (e0.bs b o e).1
  have hkind : ∀ y ∈ ps.zip us, scope.names.lookup y.1 = some .local ∨ (scope.names.lookup y.1 = some .cell ∧ ((cellsFrom (s.heap.objs.size + 1) scope.names []).lookup y.1).isSome = true) := fun ⟨n, v⟩ hy => by
    rcases S.par n (List.of_mem_zip hy).1 with q | q
    · exact .inl q
    · exact .inr ⟨q, PySem.W.cellsFrom_some _ _ _ (.inl q)⟩
  refine codeAny_call_function hr.depth (KX _ _ lk) rfl S.co S.gen rfl (PySem.W.codeRec_of KX hcd) (hb _ _ _ _ ?_)
  refine wpAny_newFunctionEnv_cells S.kind hkind fun env he s1 x => ?_
  subst he
  refine ⟨lim.keeps x.toInCall.keep, codeAny_func ?_⟩
  obtain ⟨t, ht, hq⟩ := hbody A outer s H vs Q E (hr.deeper _) hsp
  have I : Inv (cxOf CX P w K mg base N qual scope f cdv A outer s H E) [] (start N vs) H s1 := inv_start S hr.hd e0 hl r x
  refine wpAny_mono (ht [] s1 (start N vs) H _ I hq) (fun fl s' hs => ?_) fun e s' hs => hs
  have fin : ∀ {σ' : St} {H' : Hp} {v : V} {u : Value}, Inv (cxOf CX P w K mg base N qual scope f cdv A outer s H E) [] σ' H' s' → RelV v u → Q v H' → CE outer P w H s Q u s' :=
    fun {σ' H' v u} J rv q => ⟨v, H', J.os, J.bare, J.base, J.hok, rv, q⟩
  cases fl with
  | ret u =>
    obtain ⟨v, σ', H', J, rv, q⟩ := hs
    exact fin J rv q
  | next =>
    obtain ⟨σ', H', J, q⟩ := hs
    exact fin (v := V.non) (u := Value.none) J rfl q
  | brk =>
    obtain ⟨_, _, _, q⟩ := hs
    exact False.elim q
  | cont =>
    obtain ⟨_, _, _, q⟩ := hs
    exact False.elim q
end L2
namespace L2
open PySem PySem.Spec PyProof.Rows
section
variable {X : Cx} {x : Str} {p pos : Pos} {e : Expr} {es : List Expr} {t : TA} {id T : String} {r : List V → Hp → VK → Prop}
def tCB (r : List V → Hp → VK → Prop) (t : TA) : TE := fun σ H Q => t σ H fun vs H1 => r vs H1 Q
theorem pe_callB (hc : CallR X (.builtin id) r) (hg : Gl X x) (hm : X.mg x = none) (hv : bootBuiltins x = some (.builtin id)) (ha : PA X (e :: es) t) (hn : x ≠ "__name__" := by decide) (hdb : (x == ("__debug__" : Str)) = false := by decide)
    (he : starEach (e :: es) X.env = (false, eval e X.env) :: starEach es X.env := by rfl) (hpl : (backTo pos (starEach es X.env)).any (·.1) = false := by rfl) : PE X (.Call (.Name x p) (e :: es) [] pos) (tCB r t) := by
  intro pins s σ H Q I h
  refine wpAny_Call_Name_kw (ld_blt I hg hm hv ?_ hn hdb)
  exact PyProof.Rows.callWith_builtin1 (thn (ha pos pins s σ H _ I h) fun us s1 ⟨vs, H1, I1, r1, q1⟩ => hc pins s1 σ H1 vs us Q I1 r1 q1) he hpl
theorem pe_callTy (hc : CallR X (.type T) r) (hg : Gl X x) (hm : X.mg x = none) (hv : bootBuiltins x = some (.type T)) (ha : PA X (e :: es) t) (hn : x ≠ "__name__" := by decide) (hdb : (x == ("__debug__" : Str)) = false := by decide)
    (he : starEach (e :: es) X.env = (false, eval e X.env) :: starEach es X.env := by rfl) (hpl : (backTo pos (starEach es X.env)).any (·.1) = false := by rfl) : PE X (.Call (.Name x p) (e :: es) [] pos) (tCB r t) := by
  intro pins s σ H Q I h
  refine wpAny_Call_Name_kw (ld_blt I hg hm hv ?_ hn hdb)
  exact PyProof.Rows.callWith_type1 (thn (ha pos pins s σ H _ I h) fun us s1 ⟨vs, H1, I1, r1, q1⟩ => hc pins s1 σ H1 vs us Q I1 r1 q1) he hpl
end
end L2
namespace HT
open PySem PyProof.Rows
def lexLt : List Int → List Int → Bool
  | [], [] => false
  | [], _ :: _ => true
  | _ :: _, [] => false
  | x :: xs, y :: ys => if x = y then lexLt xs ys else decide (x < y)
section
open PySem.SeqAt
open PySem.AutoSeq1 (wpAny_loadPart')
open PySem.MeetsSeq PySem.MeetsSeq2 PySem.MeetsSeq3
end
section
variable {prog : Program} {w : World} {A : Around} {E : Value → Shared → Prop} {s : Shared}
theorem cat_tup {t b : Addr} {vs ws : List Value} {Q : Value → Shared → Prop} (ht : IsTup s.heap t vs.toArray) (hb : IsTup s.heap b ws.toArray) (hv : vs ≠ [])
    (h1 : ws = [] → Q (.ref t) s) (h2 : ws ≠ [] → Q (.ref s.heap.objs.size) { s with heap := s.heap.push { cls := .type "tuple", data := .seq (vs ++ ws).toArray } })
    (hsz : vs.length + ws.length ≤ sizeLine) : wpAny (model prog w) A (binaryOp .Add (.ref t) (.ref b)) Q E s := by
  obtain ⟨⟨cls, dd, data, sl⟩, ho, hc, n, hd⟩ := id ht
  obtain ⟨⟨cls2, dd2, data2, sl2⟩, ho2, hc2, n2, hd2⟩ := id hb
  simp only at hc hd hc2 hd2
  subst hc hd hc2 hd2
  have e : vs.toArray ++ ws.toArray = (vs ++ ws).toArray := by simp
  by_cases hw : ws = []
  · exact concat_meets ⟨_, ho, rfl⟩ ⟨_, ho2, rfl⟩ noFill_tuple_add seq_tuple_add PySem.F.slot_tuple_add PySem.F.entry_tuple_add (PySem.F.args_tuple_add_2 _ _)
      (tuple_addW1 t b vs.toArray ws.toArray n n2 dd dd2 sl sl2 (by simpa using hv) (by simp [hw])) ⟨ho, ho2, h1 hw⟩
  · refine concat_meets ⟨_, ho, rfl⟩ ⟨_, ho2, rfl⟩ noFill_tuple_add seq_tuple_add PySem.F.slot_tuple_add PySem.F.entry_tuple_add (PySem.F.args_tuple_add_2 _ _)
      (tuple_addW2 t b vs.toArray ws.toArray n n2 dd dd2 sl sl2 (by simpa using hv) (by simpa using hw) (by rw [List.size_toArray, List.size_toArray]; exact hsz)) ⟨ho, ho2, ?_⟩
    rw [e]
    exact h2 hw
def sIx (n d : Nat) : Option Int → Nat
  | none => d
  | some v => if v < 0 then (v + (n : Int)).toNat else min v.toNat n
theorem sIx_none (n d : Nat) : sIx n d none = d := rfl
theorem sIx_nat (n d k : Nat) : sIx n d (some (k : Int)) = min k n := by
  show (if (k : Int) < 0 then ((k : Int) + (n : Int)).toNat else min (k : Int).toNat n) = min k n
  rw [if_neg (by omega), Int.toNat_natCast]
theorem sIx_le (n d : Nat) (hd : d ≤ n) (o : Option Int) : sIx n d o ≤ n := by
  cases o with
  | none => exact hd
  | some v =>
    show (if v < 0 then (v + (n : Int)).toNat else min v.toNat n) ≤ n
    by_cases hv : v < 0
    · rw [if_pos hv]; omega
    · rw [if_neg hv]; exact Nat.min_le_right _ _
theorem clip_eq (v : Int) (n d : Nat) : (if v < 0 then max (v + (n : Int)) 0 else min v (n : Int)) = ((sIx n d (some v) : Nat) : Int) := by
  show (if v < 0 then max (v + (n : Int)) 0 else min v (n : Int)) = (((if v < 0 then (v + (n : Int)).toNat else min v.toNat n) : Nat) : Int)
  by_cases hv : v < 0
  · simp only [if_pos hv]; omega
  · simp only [if_neg hv]; omega
theorem adjust_gen (lo hi : Option Int) (n : Nat) : Builtin.Slice.sliceAdjust lo hi 1 (n : Int) = (((sIx n 0 lo : Nat) : Int), ((sIx n n hi : Nat) : Int)) := by
  have h1 : ¬ ((1 : Int) < 0) := by omega
  unfold Builtin.Slice.sliceAdjust
  simp only [h1, if_false]
  refine Prod.ext ?_ ?_
  · cases lo with
    | none => rfl
    | some v => exact clip_eq v n 0
  · cases hi with
    | none => rfl
    | some v => exact clip_eq v n n
theorem places_gen (i j : Nat) : Builtin.Slice.slicePlaces (i : Int) (j : Int) 1 = j - i := by
  unfold Builtin.Slice.slicePlaces
  have h1 : (1 : Int) > 0 := by omega
  simp only [h1, if_true, Int.ediv_one]
  split <;> omega
theorem slicePart_ {v : Value} {o : Option Int} {Q : Option Int → Shared → Prop} (p : IsPart v o) (h : Q o s) : wpAny (model prog w) A (Builtin.Slice.slicePartIndex v) Q E s := by
  cases p with
  | none => exact slicePart_none h
  | int i t => exact slicePart_int h
theorem sliceApplied_gen {sl : Addr} {vl vu : Value} {lo hi : Option Int} {n : Nat} {Q : Int × Int × Nat → Shared → Prop} (hs : s.heap.IsSliceOf sl vl vu .none) (pl : IsPart vl lo) (pu : IsPart vu hi)
    (h : Q (((sIx n 0 lo : Nat) : Int), 1, sIx n n hi - sIx n 0 lo) s) : wpAny (model prog w) A (Builtin.Slice.sliceApplied (.ref sl) (pure (n : Int))) Q E s := by
  obtain ⟨os, hos, hcs, hds⟩ := id hs
  unfold Builtin.Slice.sliceApplied Builtin.Slice.sliceFields
  refine wpAny_bind (wpAny_bind (wpAny_field hos hds (x := vl) rfl (wpAny_bind (wpAny_field hos hds (x := vu) rfl (wpAny_bind (wpAny_field hos hds (x := .none) rfl (wpAny_pure ?_)))))))
  refine wpAny_bind (slicePart_none ?_)
  show wpAny _ _ (if ((1 : Int) == 0) = true then _ else _) _ _ s
  rw [if_neg (by decide)]
  refine wpAny_bind (slicePart_ pl (wpAny_bind (slicePart_ pu (wpAny_bind (wpAny_pure ?_)))))
  show wpAny _ _ (match Builtin.Slice.sliceAdjust lo hi 1 (n : Int) with | (lo, hi) => pure (lo, (1 : Int), Builtin.Slice.slicePlaces lo hi 1)) _ _ s
  rw [adjust_gen lo hi n]
  show wpAny _ _ (pure (((sIx n 0 lo : Nat) : Int), (1 : Int), Builtin.Slice.slicePlaces ((sIx n 0 lo : Nat) : Int) ((sIx n n hi : Nat) : Int) 1)) _ _ s
  rw [places_gen]
  exact wpAny_pure h
theorem pick_gen (xs : Array Value) (i k : Nat) : ((List.range k).filterMap fun (m : Nat) => xs[((i : Int) + (m : Int) * 1).toNat]?).toArray = ((xs.toList.drop i).take k).toArray := by
  have e : (fun (m : Nat) => xs[((i : Int) + (m : Int) * 1).toNat]?) = fun m => xs[i + m]? := by
    funext m
    have : ((i : Int) + (m : Int) * 1).toNat = i + m := by omega
    rw [this]
  rw [e]
  have := pick_run xs i k
  rw [List.filterMap_map] at this
  have e2 : ((fun x => xs[x]?) ∘ fun x => i + x) = fun m => xs[i + m]? := rfl
  rw [e2] at this
  rw [this]
theorem getItem_tuple_cut {t sl : Addr} {items : Array Value} {vl vu : Value} {lo hi : Option Int} {Q : Value → Shared → Prop} (ht : IsTup s.heap t items) (hs : s.heap.IsSliceOf sl vl vu .none) (pl : IsPart vl lo) (pu : IsPart vu hi)
    (hw : ¬ (sIx items.size 0 lo = 0 ∧ sIx items.size items.size hi = items.size))
    (h : Q (.ref s.heap.objs.size) { s with heap := s.heap.push { cls := .type "tuple", data := .seq ((items.toList.drop (sIx items.size 0 lo)).take (sIx items.size items.size hi - sIx items.size 0 lo)).toArray } })
    (hsz : items.size ≤ sizeLine) : wpAny (model prog w) A (getItem (.ref t) (.ref sl)) Q E s := by
  have htake : sizeOk (.seq ((items.toList.drop (sIx items.size 0 lo)).take (sIx items.size items.size hi - sIx items.size 0 lo)).toArray) := by
    show ((items.toList.drop (sIx items.size 0 lo)).take (sIx items.size items.size hi - sIx items.size 0 lo)).toArray.size ≤ sizeLine
    rw [List.size_toArray, List.length_take, List.length_drop, Array.length_toList]
    omega
  have hj : sIx items.size items.size hi ≤ items.size := sIx_le _ _ (Nat.le_refl _) hi
  obtain ⟨os, hos, hcs, hds⟩ := id hs
  have hTs : s.TypeIs (.ref sl) "slice" := ⟨os, hos, hcs⟩
  unfold getItem
  try with_reducible refine wpAny_holding ?_
  first | refine wpAny_bind (wpAny_pure ?_) | skip
  refine wpAny_bind (wpAny_sequenceKey ht.typeIs (by decide) ?_)
  refine wpAny_bind (wpAny_callSpecial?_slot (name := Str.ofString "__getitem__") ht.typeIs PyProof.Rows.slot_tuple_getitem
    (wpAny_call_entry PyProof.Rows.slot_tuple_getitem ht.typeIs entry_tuple_getitem ?_ (args_tuple_getitem _ _)))
  show wpAny _ _ (Builtin.Tuple.tupleItemsOf (.ref t) >>= _) _ _ s
  refine wpAny_bind (tupleItemsOf_ ht ?_)
  refine wpAny_bind (wpAny_typeOf hTs ?_)
  rw [if_pos (by decide)]
  refine wpAny_bind (sliceApplied_gen hs pl pu ?_)
  have hno : ¬ ((((sIx items.size 0 lo : Nat) : Int) == 0 && (1 : Int) == 1 && (sIx items.size items.size hi - sIx items.size 0 lo) == items.size) = true) := by
    intro q
    rw [Bool.and_eq_true, Bool.and_eq_true] at q
    have q1 : ((sIx items.size 0 lo : Nat) : Int) = 0 := eq_of_beq q.1.1
    have q2 : sIx items.size items.size hi - sIx items.size 0 lo = items.size := eq_of_beq q.2
    exact hw ⟨by omega, by omega⟩
  show wpAny _ _ (if (((sIx items.size 0 lo : Nat) : Int) == 0 && (1 : Int) == 1 && (sIx items.size items.size hi - sIx items.size 0 lo) == items.size) = true then _ else _) _ _ s
  rw [if_neg hno, pick_gen]
  first
    | exact wpAny_bind (m := Builtin.Tuple.tupleExact _) (wpAny_newObj_type (wpAny_pure ⟨_, rfl, wpAny_pure h⟩) htake)
    | exact wpAny_bind (m := Builtin.Tuple.tupleExact _) (wpAny_newObj_type (wpAny_bind (wpAny_pure (wpAny_pure ⟨_, rfl, wpAny_pure h⟩))) htake)
    | exact wpAny_bind (wpAny_bind (m := Builtin.Tuple.tupleExact _) (wpAny_newObj_type (wpAny_pure (wpAny_pure ⟨_, rfl, wpAny_pure h⟩)) htake))
    | exact wpAny_bind (wpAny_bind (m := Builtin.Tuple.tupleExact _) (wpAny_newObj_type (wpAny_pure ⟨_, rfl, wpAny_pure h⟩) htake))
end
end HT
namespace L2
open PySem PySem.Spec PyProof.Rows
abbrev TO := St → Hp → (Option Int → Hp → Prop) → Prop
def PO (X : Cx) (e : Option Expr) (t : TO) : Prop :=
  ∀ (pins : List (Addr × Obj)) (s : Shared) (σ : St) (H : Hp) (Q : Option Int → Hp → Prop), Inv X pins σ H s → t σ H Q →
    wpAny (model X.prog X.w) X.A (evalPart e X.env) (fun u s' => ∃ o H', Inv X pins σ H' s' ∧ IsPart u o ∧ Q o H') X.xe s
def tNoPart : TO := fun _ H Q => Q none H
def tPart (t : TE) : TO := fun σ H Q => t σ H fun x H1 => ∃ i, x = .int i ∧ Q (some i) H1
section
variable {X : Cx} {e : Expr} {te : TE} {lo hi : Option Expr} {tl th : TO} {pos p2 : Pos}
theorem po_none : PO X none tNoPart := by
  intro pins s σ H Q I h
  rw [evalPart_none]
  exact wpAny_pure ⟨none, H, I, .none, h⟩
theorem po_some (h : PE X e te) : PO X (some e) (tPart te) := by
  intro pins s σ H Q I hw
  rw [evalPart_some]
  refine thn (h pins s σ H _ I hw) fun u s1 ⟨x, H1, I1, r1, q1⟩ => ?_
  obtain ⟨i, rfl, q⟩ := q1
  obtain ⟨t, rfl⟩ := r1
  exact ⟨some i, H1, I1, .int i t, q⟩
def SlR (X : Cx) (r : V → Option Int → Option Int → Hp → VK → Prop) : Prop :=
  ∀ (pins : List (Addr × Obj)) (s : Shared) (σ : St) (H : Hp) (x : V) (v vl vu : Value) (lo hi : Option Int) (sl : Addr) (Q : VK), Inv X pins σ H s → RelV x v → s.heap.IsSliceOf sl vl vu .none → IsPart vl lo → IsPart vu hi → r x lo hi H Q →
    ∃ T id, typeLookup (.type T) "__getitem__" = pure (some (.builtin id)) ∧ s.TypeIs v T ∧ wpAny (model X.prog X.w) X.A (getItem v (.ref sl)) (EP X pins σ Q) X.xe s
def tSl (r : V → Option Int → Option Int → Hp → VK → Prop) (te : TE) (tl th : TO) : TE := fun σ H Q => te σ H fun x H1 => tl σ H1 fun l H2 => th σ H2 fun u H3 => r x l u H3 Q
theorem pe_slice {r : V → Option Int → Option Int → Hp → VK → Prop} (hr : SlR X r) (he : PE X e te) (hl : PO X lo tl) (hu : PO X hi th) : PE X (.Subscript e (.Slice lo hi none p2) pos) (tSl r te tl th) := by
  intro pins s σ H Q I h
  refine Subscript_ (thn (he pins s σ H _ I h) fun v s1 ⟨x, H1, I1, r1, q1⟩ => ?_)
  refine wpAny_Slice (thn (hl pins s1 σ H1 _ I1 q1) fun vl s2 ⟨l, H2, I2, pl, q2⟩ => thn (hu pins s2 σ H2 _ I2 q2) fun vu s3 ⟨u, H3, I3, pu, q3⟩ => ?_)
  rw [evalPart_none]
  refine wpAny_pure ?_
  have I4 : Inv X pins σ H3 { s3 with heap := s3.heap.push { cls := .type "slice", data := .fields #[vl, vu, .none] } } := I3.kept (t' := s3.toks) fun b ob q => Heap.get?_push_of_some _ q
  obtain ⟨T, id, hT, ht, hg⟩ := hr pins { s3 with heap := s3.heap.push { cls := .type "slice", data := .fields #[vl, vu, .none] } } σ H3 x v vl vu l u s3.heap.objs.size Q I4 r1 (Heap.IsSliceOf.new ..) pl pu q3
  show wpAny (model X.prog X.w) X.A (subscriptTail e (.Slice lo hi none p2) v (.ref s3.heap.objs.size)) (EP X pins σ Q) X.xe { s3 with heap := s3.heap.push { cls := .type "slice", data := .fields #[vl, vu, .none] } }
  exact tail_any (ops := [.ref s3.heap.objs.size, v]) ht hT hg (by with_unfolding_all rfl)
def cutV (xs : List V) (lo hi : Option Int) : List V := (xs.drop (HT.sIx xs.length 0 lo)).take (HT.sIx xs.length xs.length hi - HT.sIx xs.length 0 lo)
theorem cutV_length (xs : List V) (lo hi : Option Int) : (cutV xs lo hi).length ≤ xs.length := by
  unfold cutV
  rw [List.length_take, List.length_drop]
  omega
def rSlT (K : PySem.W.Frag) : V → Option Int → Option Int → Hp → VK → Prop := fun x lo hi H Q => ∃ a xs, x = .ref a ∧ SqT K H a xs ∧
  ¬ (HT.sIx xs.length 0 lo = 0 ∧ HT.sIx xs.length xs.length hi = xs.length) ∧ ∀ p, H p = none → Q (.ref p) (upd H p (.tup (cutV xs lo hi)))
theorem sl_tup : SlR X (rSlT X.K) := by
  intro pins s σ H x v vl vu lo hi sl Q I rx hs pl pu h
  obtain ⟨a, xs, rfl, hx, hw, q⟩ := h
  cases rx
  obtain ⟨its, r, ht, hz⟩ := I.tuple hx
  have hlen : its.toArray.size = xs.length := by rw [List.size_toArray]; exact r.length.symm
  refine ⟨"tuple", _, PyProof.Rows.slot_tuple_getitem.lookup, ht.typeIs, ?_⟩
  refine HT.getItem_tuple_cut ht hs pl pu (by rw [hlen]; exact hw) ?_ (by rw [hlen]; exact hz)
  rw [hlen]
  refine ⟨.ref s.heap.objs.size, _, I.laid (t' := s.toks) (o := .tup (cutV xs lo hi)) (fun b ob q => Heap.get?_push_of_some _ q) (Nat.le_refl _) ?_, rfl, q _ (I.hok.fresh (Nat.le_refl _))⟩
  exact ⟨Nat.le_trans (cutV_length xs lo hi) hz, _, (r.drop (HT.sIx xs.length 0 lo)).take (HT.sIx xs.length xs.length hi - HT.sIx xs.length 0 lo), IsTup.new _ _⟩
def rLtT (K : PySem.W.Frag) : R2 := fun x y H Q => ∃ a b ns ms, x = .ref a ∧ y = .ref b ∧ SqT K H a (ns.map V.int) ∧ SqT K H b (ms.map V.int) ∧ Q (.bl (HT.lexLt ns ms)) H
def rCatT (K : PySem.W.Frag) : R2 := fun x y H Q => ∃ a b xs ys, x = .ref a ∧ y = .ref b ∧ SqT K H a xs ∧ SqT K H b ys ∧ xs ≠ [] ∧ xs.length + ys.length ≤ sizeLine ∧
  (ys = [] → Q (.ref a) H) ∧ (ys ≠ [] → ∀ p, H p = none → Q (.ref p) (upd H p (.tup (xs ++ ys))))
theorem Vals.nil_iff {xs : List V} {us : List Value} (r : Vals xs us) : us = [] ↔ xs = [] := by
  cases r with
  | nil => simp
  | cons _ _ => simp
theorem op_catT : OpR X (binaryOp .Add) (rCatT X.K) := by
  intro pins s σ H x y v u Q I rx ry h
  obtain ⟨a, b, xs, ys, rfl, rfl, ha, hb, hx, hz, q1, q2⟩ := h
  cases rx
  cases ry
  obtain ⟨its, r1, p1, _⟩ := I.tuple ha
  obtain ⟨its2, r2, p2, _⟩ := I.tuple hb
  refine HT.cat_tup p1 p2 (fun z => hx (r1.nil_iff.mp z)) (fun z => ⟨.ref a, H, I, rfl, q1 (r2.nil_iff.mp z)⟩) (fun z => ?_) (by rw [← r1.length, ← r2.length]; exact hz)
  refine ⟨.ref s.heap.objs.size, _, I.laid (t' := s.toks) (o := .tup (xs ++ ys)) (fun b ob q => Heap.get?_push_of_some _ q) (Nat.le_refl _) ?_, rfl, q2 (fun w => z (r2.nil_iff.mpr w)) _ (I.hok.fresh (Nat.le_refl _))⟩
  exact ⟨by rw [List.length_append]; exact hz, _, r1.append r2, IsTup.new _ _⟩
end
end L2
namespace L2
open PySem PySem.Spec PyProof.Rows
def ixN (n : Nat) (i : Int) : Option Nat := if 0 ≤ i then (if i < n then some i.toNat else none) else if -(n : Int) ≤ i then some (i + n).toNat else none
def atI {α : Type} (xs : List α) (i : Int) : Option α := (ixN xs.length i).bind fun j => xs[j]?
theorem ixN_seq {n : Nat} {i : Int} {j : Nat} (h : ixN n i = some j) : seqIndex? i n = some j ∧ j < n ∧ -(n : Int) ≤ i ∧ i < n := by
  unfold ixN at h
  by_cases h0 : 0 ≤ i
  · rw [if_pos h0] at h
    by_cases h1 : i < n
    · rw [if_pos h1] at h
      have e : i.toNat = j := Option.some.inj h
      exact ⟨by rw [seqIndex_of h0 h1, e], by omega, by omega, h1⟩
    · rw [if_neg h1] at h; cases h
  · rw [if_neg h0] at h
    by_cases h1 : -(n : Int) ≤ i
    · rw [if_pos h1] at h
      have e : (i + n).toNat = j := Option.some.inj h
      exact ⟨by rw [seqIndex_neg (by omega) h1, e], by omega, h1, by omega⟩
    · rw [if_neg h1] at h; cases h
theorem atI_get {α : Type} {xs : List α} {i : Int} {v : α} (h : atI xs i = some v) : ∃ j, seqIndex? i xs.length = some j ∧ xs[j]? = some v ∧ j < xs.length ∧ -(xs.length : Int) ≤ i ∧ i < xs.length := by
  unfold atI at h
  cases e : ixN xs.length i with
  | none => rw [e] at h; cases h
  | some j =>
    rw [e] at h
    obtain ⟨h1, h2, h3, h4⟩ := ixN_seq e
    exact ⟨j, h1, h, h2, h3, h4⟩
theorem atI_nat {α : Type} {xs : List α} {j : Nat} {v : α} (h : xs[j]? = some v) : atI xs (j : Int) = some v := by
  have hj : j < xs.length := (List.getElem?_eq_some_iff.mp h).1
  have e : ixN xs.length (j : Int) = some j := by
    unfold ixN
    rw [if_pos (by omega), if_pos (by omega)]; simp
  unfold atI; rw [e]; exact h
theorem atI_last {α : Type} (xs : List α) (v : α) : atI (xs ++ [v]) (-1) = some v := by
  have hl : (xs ++ [v]).length = xs.length + 1 := by simp
  have e : ixN (xs ++ [v]).length (-1) = some xs.length := by
    unfold ixN
    rw [hl, if_neg (by decide), if_pos (by omega)]
    congr 1
    omega
  unfold atI
  rw [e]
  show (xs ++ [v])[xs.length]? = some v
  simp
def PlainIx (b : Expr) : Prop := ∀ o i, subscripted b false o i = operate [o, i] (getItem o i)
def IxR (X : Cx) (r : R2) : Prop :=
  ∀ (value slice : Expr) (pins : List (Addr × Obj)) (s : Shared) (σ : St) (H : Hp) (x y : V) (v u : Value) (Q : VK), Inv X pins σ H s → RelV x v → RelV y u → r x y H Q →
    subscripted slice false v u = operate [v, u] (getItem v u) → wpAny (model X.prog X.w) X.A (subscriptTail value slice v u) (EP X pins σ Q) X.xe s
def MtR (X : Cx) (id : String) (r : V → List V → Hp → VK → Prop) : Prop :=
  ∀ (pins : List (Addr × Obj)) (s : Shared) (σ : St) (H : Hp) (x : V) (xs : List V) (v : Value) (us : List Value) (Q : VK), Inv X pins σ H s → RelV x v → Vals xs us → r x xs H Q →
    wpAny (model X.prog X.w) X.A (call (.builtin id) (v :: us)) (EP X pins σ Q) X.xe s
section
variable {X : Cx} {a b : Expr} {ta tb : TE} {pos : Pos}
theorem pe_ix {r : R2} (hr : IxR X r) (ha : PE X a ta) (hb : PE X b tb) (hs : PlainIx b) : PE X (.Subscript a b pos) (tOp r ta tb) := by
  intro pins s σ H Q I h
  exact Subscript_ (binT ha hb I h fun v u s2 x y H2 I2 rx ry q => hr a b pins s2 σ H2 x y v u Q I2 rx ry q (hs _ _))
def rIxL (K : PySem.W.Frag) : R2 := fun x y H Q => ∃ p xs i v, x = .ref p ∧ y = .int i ∧ SqL K H p xs ∧ atI xs i = some v ∧ Q v H
def rIxT (K : PySem.W.Frag) : R2 := fun x y H Q => ∃ p xs i v, x = .ref p ∧ y = .int i ∧ SqT K H p xs ∧ atI xs i = some v ∧ Q v H
def rIxS : R2 := fun x y H Q => ∃ z i c, x = .str z ∧ y = .int i ∧ z.length ≤ sizeLine ∧ atI z.cps.toList i = some c ∧ Q (.str ⟨#[c]⟩) H
theorem ix_list : IxR X (rIxL X.K) := by
  intro value slice pins s σ H x y v u Q I rx ry h hs
  obtain ⟨p, xs, i, z, rfl, rfl, hq, he, q⟩ := h
  cases rx
  obtain ⟨t, rfl⟩ := ry
  obtain ⟨its, r, pl, hz⟩ := I.list hq
  obtain ⟨j, h1, h2, h3, h4, h5⟩ := atI_get he
  obtain ⟨w, ew, rw'⟩ := r.get h2
  have hl := r.length
  have hn := line63
  have fin : EP X pins σ Q w s := ⟨z, H, I, rw', q⟩
  by_cases h0 : 0 ≤ i
  · have hj : i.toNat = j := by
      rw [seqIndex_of h0 h5] at h1
      exact Option.some.inj h1
    exact item_listR pl.isList h0 (by omega) (by rw [hj]; simpa using ew) fin hs
  · have hj : (i + (its.toArray.size : Int)).toNat = j := by
      rw [seqIndex_neg (by omega) h4] at h1
      rw [List.size_toArray, ← hl]
      exact Option.some.inj h1
    exact subscriptTail_builtinR (x := w) pl.isList.typeIs slot_list_getitem.lookup
      (wpAny_getItem_list_neg (Q := fun r s' => r = w ∧ EP X pins σ Q r s') pl.isList (by omega) (by rw [List.size_toArray] <;> omega) (by omega) (by rw [hj]; simpa using ew) ⟨rfl, fin⟩) hs
theorem ix_tup : IxR X (rIxT X.K) := by
  intro value slice pins s σ H x y v u Q I rx ry h hs
  obtain ⟨p, xs, i, z, rfl, rfl, hq, he, q⟩ := h
  cases rx
  obtain ⟨t, rfl⟩ := ry
  obtain ⟨its, r, pl, hz⟩ := I.tuple hq
  obtain ⟨j, h1, h2, h3, h4, h5⟩ := atI_get he
  obtain ⟨w, ew, rw'⟩ := r.get h2
  have hl := r.length
  have hn := line63
  have fin : EP X pins σ Q w s := ⟨z, H, I, rw', q⟩
  exact subscriptTail_builtinR (x := w) pl.typeIs slot_tuple_getitem.lookup
    (getItem_tuple (j := j) (Q := fun r s' => r = w ∧ EP X pins σ Q r s') pl (by omega) (by omega) (by rw [List.size_toArray, ← hl]; exact h1) (by simpa using ew) ⟨rfl, fin⟩) hs
theorem ix_str : IxR X rIxS := by
  intro value slice pins s σ H x y v u Q I rx ry h hs
  obtain ⟨z, i, c, rfl, rfl, hz, he, q⟩ := h
  obtain ⟨t, rfl⟩ := rx
  obtain ⟨t', rfl⟩ := ry
  obtain ⟨j, h1, h2, h3, h4, h5⟩ := atI_get he
  have hl : z.cps.toList.length = z.length := by simp [Str.length]
  rw [hl] at h1 h4 h5
  have hn := line63
  exact tail_any (typeIs_str s z t) slot_str_getitem.lookup (getItem_str (c := c) (by
    have e1 : decide (i < -(2 ^ 63 : Int)) = false := decide_eq_false (by omega)
    have e2 : decide (i ≥ 2 ^ 63) = false := decide_eq_false (by omega)
    rw [e1, e2, Bool.or_false]) (by rw [h1]; simpa using h2) ⟨.str ⟨#[c]⟩, H, I.tok _, ⟨_, rfl⟩, q⟩) hs
def rIx (K : PySem.W.Frag) : R2 := fun x y H Q => rIxL K x y H Q ∨ rIxT K x y H Q ∨ rIxS x y H Q
def rSetL : V → V → V → Hp → (Hp → Prop) → Prop := fun o i v H Q => ∃ p xs k j, o = .ref p ∧ i = .int k ∧ H p = some (.lst xs) ∧ ixN xs.length k = some j ∧ Q (upd H p (.lst (xs.set j v)))
theorem slice_bounds (lo hi : Option Int) (n : Nat) : (sliceBounds lo hi none n).1 = ((HT.sIx n 0 lo : Nat) : Int) ∧ (sliceBounds lo hi none n).2.1 = ((HT.sIx n n hi : Nat) : Int) ∧ (sliceBounds lo hi none n).2.2 = 1 := by
  refine ⟨?_, ?_, rfl⟩
  · cases lo with
    | none => simp [sliceBounds, HT.sIx]
    | some i =>
      simp only [sliceBounds, HT.sIx, Option.getD_none, show (1 : Int) > 0 by decide, if_true]
      by_cases h : i < 0
      · simp only [h, if_true] <;> omega
      · simp only [h, if_false] <;> omega
  · cases hi with
    | none => simp [sliceBounds, HT.sIx]
    | some i =>
      simp only [sliceBounds, HT.sIx, Option.getD_none, show (1 : Int) > 0 by decide, if_true]
      by_cases h : i < 0
      · simp only [h, if_true] <;> omega
      · simp only [h, if_false] <;> omega
theorem slicePick_cut (its : List Value) (lo hi : Option Int) : slicePick its.toArray lo hi none = ((its.drop (HT.sIx its.length 0 lo)).take (HT.sIx its.length its.length hi - HT.sIx its.length 0 lo)).toArray := by
  obtain ⟨h1, h2, h3⟩ := slice_bounds lo hi its.toArray.size
  unfold slicePick
  rw [h1, h2, h3]
  simp only [sliceRange_one, pick_run, List.size_toArray] <;> rfl
def rSlL (K : PySem.W.Frag) : V → Option Int → Option Int → Hp → VK → Prop := fun x lo hi H Q => ∃ a xs, x = .ref a ∧ SqL K H a xs ∧ ∀ p, H p = none → Q (.ref p) (upd H p (.lst (cutV xs lo hi)))
theorem sl_list : SlR X (rSlL X.K) := by
  intro pins s σ H x v vl vu lo hi sl Q I rx hs pl pu h
  obtain ⟨a, xs, rfl, hx, q⟩ := h
  cases rx
  obtain ⟨its, r, ht, hz⟩ := I.list hx
  have hlen := r.length
  refine ⟨"list", _, slot_list_getitem.lookup, ht.isList.typeIs, ?_⟩
  refine wpAny_getItem_list_slice ht.isList hs pl pu .none (by simp) ?_ (by rw [List.size_toArray] <;> omega)
  rw [slicePick_cut, ← hlen]
  refine ⟨.ref s.heap.objs.size, _, I.laid (t' := s.toks) (o := .lst (cutV xs lo hi)) (fun b ob q => Heap.get?_push_of_some _ q) (Nat.le_refl _) ?_, rfl, q _ (I.hok.fresh (Nat.le_refl _))⟩
  exact ⟨Nat.le_trans (cutV_length xs lo hi) hz, _, 0, (r.drop (HT.sIx xs.length 0 lo)).take (HT.sIx xs.length xs.length hi - HT.sIx xs.length 0 lo), Heap.get?_push_size _ rfl⟩
def flatV : V → Bool
  | .non => true
  | .bl _ => true
  | .int _ => true
  | .str _ => true
  | _ => false
def eqV : V → V → Bool
  | .non, .non => true
  | .bl a, .bl b => a == b
  | .bl a, .int b => (if a then 1 else 0) == b
  | .int a, .bl b => a == (if b then 1 else 0)
  | .int a, .int b => a == b
  | .str a, .str b => a == b
  | _, _ => false
theorem eqAt_V {A : Around} {s : Shared} {y x : V} {u v : Value} (ry : RelV y u) (rx : RelV x v) (fy : flatV y = true) (fx : flatV x = true) : SeqAt.EqAt A s u v (eqV y x) := by
  cases y with
  | non =>
    cases ry
    cases x with
    | non => cases rx; exact SeqAt.EqAt.same _
    | bl b => cases rx; exact SeqAt.EqAt.none_bool b
    | int b => obtain ⟨t, rfl⟩ := rx; exact SeqAt.EqAt.none_int b t
    | str b => obtain ⟨t, rfl⟩ := rx; exact SeqAt.EqAt.none_str b t
    | _ => exact absurd (show false = true from fx) Bool.false_ne_true
  | bl a =>
    cases ry
    cases x with
    | non => cases rx; exact SeqAt.EqAt.bool_none a
    | bl b => cases rx; exact SeqAt.EqAt.bool_bool a b
    | int b => obtain ⟨t, rfl⟩ := rx; exact SeqAt.EqAt.bool_int a b t
    | str b => obtain ⟨t, rfl⟩ := rx; exact SeqAt.EqAt.bool_str a b t
    | _ => exact absurd (show false = true from fx) Bool.false_ne_true
  | int a =>
    obtain ⟨t', rfl⟩ := ry
    cases x with
    | non => cases rx; exact SeqAt.EqAt.int_none a t'
    | bl b => cases rx; exact SeqAt.EqAt.int_bool a t' b
    | int b => obtain ⟨t, rfl⟩ := rx; exact SeqAt.EqAt.int_int a t' b t
    | str b => obtain ⟨t, rfl⟩ := rx; exact SeqAt.EqAt.int_str a t' b t
    | _ => exact absurd (show false = true from fx) Bool.false_ne_true
  | str a =>
    obtain ⟨t', rfl⟩ := ry
    cases x with
    | non => cases rx; exact SeqAt.EqAt.str_none a t'
    | bl b => cases rx; exact SeqAt.EqAt.str_bool a t' b
    | int b => obtain ⟨t, rfl⟩ := rx; exact SeqAt.EqAt.str_int a t' b t
    | str b => obtain ⟨t, rfl⟩ := rx; exact SeqAt.EqAt.str_str a t' b t
    | _ => exact absurd (show false = true from fx) Bool.false_ne_true
  | _ => exact absurd (show false = true from fy) Bool.false_ne_true
def eqU (x : V) (u : Value) : Bool := match u with
  | .none => eqV .non x
  | .bool b => eqV (.bl b) x
  | .int i _ => eqV (.int i) x
  | .str z _ => eqV (.str z) x
  | _ => false
theorem eqU_of {x y : V} {u : Value} (r : RelV y u) (f : flatV y = true) : eqU x u = eqV y x := by
  cases y with
  | non => cases r; rfl
  | bl b => cases r; rfl
  | int i => obtain ⟨t, rfl⟩ := r; rfl
  | str z => obtain ⟨t, rfl⟩ := r; rfl
  | _ => exact absurd (show false = true from f) Bool.false_ne_true
theorem any_eqU {x : V} : ∀ {xs : List V} {us : List Value}, Vals xs us → xs.all flatV = true → us.any (eqU x) = xs.any fun y => eqV y x
  | _, _, .nil, _ => rfl
  | y :: xs, u :: us, .cons r t, f => by
    rw [List.all_cons, Bool.and_eq_true] at f
    rw [List.any_cons, List.any_cons, eqU_of r f.1, any_eqU t f.2]
theorem mem_eqAt {A : Around} {s : Shared} {x : V} {v : Value} (rx : RelV x v) (fx : flatV x = true) : ∀ {xs : List V} {us : List Value}, Vals xs us → xs.all flatV = true → ∀ u ∈ us, SeqAt.EqAt A s u v (eqU x u)
  | _, _, .nil, _ => fun u hu => by cases hu
  | y :: xs, u :: us, .cons r t, f => fun u' hu => by
    rw [List.all_cons, Bool.and_eq_true] at f
    rcases List.mem_cons.mp hu with rfl | hu
    · rw [eqU_of r f.1]; exact eqAt_V r rx f.1 fx
    · exact mem_eqAt rx fx t f.2 u' hu
def inV (x : V) (xs : List V) : Bool := xs.any fun y => eqV y x
def rIn (K : PySem.W.Frag) (neg : Bool) : R2 := fun x y H Q => ∃ p xs, y = .ref p ∧ (SqL K H p xs ∨ SqT K H p xs) ∧ flatV x = true ∧ xs.all flatV = true ∧ Q (.bl (if neg then !inV x xs else inV x xs)) H
theorem op_in_seq : OpR X (compareOp .In) (rIn X.K false) := by
  intro pins s σ H x y v u Q I rx ry h
  obtain ⟨p, xs, rfl, hq, fx, fs, q⟩ := h
  cases ry
  rcases hq with hq | hq
  · obtain ⟨its, r, pl, hz⟩ := I.list hq
    refine SeqAt.in_listAt (eqU x) pl.isList (fun w hw => mem_eqAt rx fx r fs w (by simpa using hw)) ⟨.bl _, H, I, rfl, ?_⟩
    rw [show its.toArray.any (eqU x) = its.any (eqU x) by simp, any_eqU r fs]
    exact q
  · obtain ⟨its, r, pl, hz⟩ := I.tuple hq
    refine SeqAt.in_tupleAt (eqU x) pl (fun w hw => mem_eqAt rx fx r fs w (by simpa using hw)) ⟨.bl _, H, I, rfl, ?_⟩
    rw [show its.toArray.any (eqU x) = its.any (eqU x) by simp, any_eqU r fs]
    exact q
theorem call_len_seq : CallR X (.builtin "len") (fun xs H Q => ∃ p ys, xs = [.ref p] ∧ (SqL X.K H p ys ∨ SqT X.K H p ys) ∧ Q (.int ys.length) H) := by
  intro pins s σ H xs us Q I r h
  obtain ⟨p, ys, rfl, hq, q⟩ := h
  obtain ⟨u, rfl, rx⟩ := vals1 r
  cases rx
  have hn := line63
  rcases hq with hq | hq
  · obtain ⟨its, r', pl, hz⟩ := I.list hq
    have hlen := r'.length
    exact Calls.call_len_list pl.isList (by simp only [List.size_toArray] <;> omega) ⟨.int ys.length, H, I.tok _, ⟨s.toks + 1, by rw [List.size_toArray, hlen]⟩, q⟩
  · obtain ⟨its, r', pl, hz⟩ := I.tuple hq
    have hlen := r'.length
    exact len_tuple pl (by simp only [List.size_toArray] <;> omega) ⟨.int ys.length, H, I.tok _, ⟨s.toks + 1, by rw [List.size_toArray, hlen]⟩, q⟩
theorem call_tuple_of : CallR X (.type "tuple") (fun xs H Q => ∃ p ys, xs = [.ref p] ∧ ((SqL X.K H p ys ∧ ∀ l, H l = none → Q (.ref l) (upd H l (.tup ys))) ∨ (SqT X.K H p ys ∧ Q (.ref p) H))) := by
  intro pins s σ H xs us Q I r h
  obtain ⟨p, ys, rfl, h⟩ := h
  obtain ⟨u, rfl, rx⟩ := vals1 r
  cases rx
  rcases h with ⟨hq, q⟩ | ⟨hq, q⟩
  · obtain ⟨its, r', pl, hz⟩ := I.list hq
    have hlen := r'.length
    refine call_tuple_list pl.isList (fun h' kp => ?_) (by simp only [List.size_toArray] <;> omega)
    have I1 : Inv X pins σ H { s with heap := h' } := I.kept (t' := s.toks) kp
    have I2 : Inv X pins σ (upd H h'.objs.size (.tup ys)) { s with heap := h'.push { cls := .type "tuple", data := .seq its.toArray } } :=
      I1.laid (t' := s.toks) (fun b o e => Heap.get?_push_of_some _ e) (Nat.le_refl _) (show ObjOk X.prog X.w _ _ _ (.tup ys) from ⟨hz, its, r', IsTup.new _ _⟩)
    exact ⟨.ref h'.objs.size, _, I2, rfl, q _ (I1.hok.fresh (Nat.le_refl _))⟩
  · obtain ⟨its, r', pl, hz⟩ := I.tuple hq
    exact call_tuple_same pl ⟨.ref p, H, I, rfl, q⟩
def tyV (K : PySem.W.Frag) (T : String) (x : V) (H : Hp) : Prop := match x with
  | .str _ => T = "str"
  | .int _ => T = "int"
  | .ref p => (T = "list" ∧ ∃ xs, SqL K H p xs) ∨ (T = "tuple" ∧ ∃ o, K.lookup p = some o ∧ o.cls = .type "tuple" ∧ o.dict = none) ∨
      (T = "dict" ∧ ((∃ kvs, H p = some (.dK kvs)) ∨ ∃ kvs, H p = some (.dT kvs))) ∨ (T = "set" ∧ ∃ S n, H p = some (.set S n))
  | _ => False
theorem tyV_is {pins : List (Addr × Obj)} {σ : St} {H : Hp} {s : Shared} {T : String} {x : V} {v : Value} (I : Inv X pins σ H s) (r : RelV x v) (ty : tyV X.K T x H) :
    s.TypeIs v T ∧ ∀ a, v = .ref a → ∃ ob, s.heap.get? a = some ob ∧ ob.dict = none := by
  cases x with
  | str z =>
    obtain ⟨t, rfl⟩ := r
    cases (show T = "str" from ty)
    exact ⟨typeIs_str s z t, fun _ e => nomatch e⟩
  | int i =>
    obtain ⟨t, rfl⟩ := r
    cases (show T = "int" from ty)
    exact ⟨typeIs_int s i t, fun _ e => nomatch e⟩
  | ref p =>
    cases r
    rcases ty with ⟨rfl, xs, hq⟩ | ⟨rfl, o, hk, hc, hd⟩ | ⟨rfl, hk⟩ | ⟨rfl, S, n, hk⟩
    · obtain ⟨its, _, pl, _⟩ := I.list hq
      refine ⟨pl.isList.typeIs, fun a e => ?_⟩
      cases e
      obtain ⟨o, n, e, c, hd, _⟩ := pl
      exact ⟨o, e, hd⟩
    · refine ⟨⟨o, I.kIn p o hk, hc⟩, fun a e => ?_⟩
      cases e
      exact ⟨o, I.kIn _ o hk, hd⟩
    · have z : ∃ o, s.heap.get? p = some o ∧ o.ExactDict := by
        rcases hk with ⟨kvs, hk⟩ | ⟨kvs, hk⟩
        · obtain ⟨_, _, _, _, o, _, _, e, ex, _⟩ := I.hok p _ hk
          exact ⟨o, e, ex⟩
        · obtain ⟨_, _, _, _, o, _, _, e, ex, _⟩ := I.hok p _ hk
          exact ⟨o, e, ex⟩
      obtain ⟨o, e, ex⟩ := z
      refine ⟨⟨o, e, ex.1⟩, fun a e2 => ?_⟩
      cases e2
      exact ⟨o, e, ex.2.1⟩
    · obtain ⟨o, _, _, _, e, ex, _⟩ := I.hok p _ hk
      refine ⟨⟨o, e, ex.1⟩, fun a e2 => ?_⟩
      cases e2
      exact ⟨o, e, ex.2.1⟩
  | _ => exact False.elim ty
def tBM0 (K : PySem.W.Frag) (T : String) (r : V → List V → Hp → VK → Prop) (to : TE) : TE := fun σ H Q => to σ H fun x H1 => tyV K T x H1 ∧ r x [] H1 Q
def tBM (K : PySem.W.Frag) (T : String) (r : V → List V → Hp → VK → Prop) (to : TE) (t : TA) : TE := fun σ H Q => to σ H fun x H1 => tyV K T x H1 ∧ t σ H1 fun xs H2 => r x xs H2 Q
variable {o e : Expr} {es : List Expr} {to : TE} {t : TA} {name : Str} {apos cpos : Pos} {T id : String} {r : V → List V → Hp → VK → Prop}
theorem pe_bm0 (pa : PlainAttrs T) (slot : Slot T name id) (hty : typeOf (.builtin id) = pure (.type "method_descriptor")) (hm : MtR X id r) (ho : PE X o to)
    (hbase : attributeBase o name X.env (eval o X.env) = eval o X.env := by rfl) (hline : (apos.endLine == cpos.line) = true := by rfl) : PE X (.Call (.Attribute o name apos) [] [] cpos) (tBM0 X.K T r to) := by
  intro pins s σ H Q I h
  refine wpAny_Call_method0_late hbase hline (thn (ho pins s σ H _ I h) fun v s1 ⟨x, H1, I1, r1, ty, q1⟩ => ?_)
  obtain ⟨h1, h2⟩ := tyV_is I1 r1 ty
  exact ⟨T, id, pa, slot, hty, h1, h2, Calls.callWith_builtin rfl (PySem.evalArgs_none (hm pins s1 σ H1 x [] v [] Q I1 r1 .nil q1))⟩
theorem pe_bm (pa : PlainAttrs T) (slot : Slot T name id) (hty : typeOf (.builtin id) = pure (.type "method_descriptor")) (hm : MtR X id r) (ho : PE X o to) (ha : PA X (e :: es) t)
    (hbase : attributeBase o name X.env (eval o X.env) = eval o X.env := by rfl)
    (hfew : ((backTo cpos (starEach (e :: es) X.env)).all (fun x => !x.1) && (backToKw cpos (keywordEach [] X.env)).all (fun x => x.1.isSome)
      && decide ((e :: es).length + ([] : List Keyword).length + (if ([] : List Keyword).isEmpty then 0 else 1) < 30)) = true := by rfl)
    (hline : (apos.endLine == cpos.line) = true := by rfl) (hs : starEach (e :: es) X.env = (false, eval e X.env) :: starEach es X.env := by rfl) (hplain : (backTo cpos (starEach es X.env)).any (·.1) = false := by rfl) :
    PE X (.Call (.Attribute o name apos) (e :: es) [] cpos) (tBM X.K T r to t) := by
  intro pins s σ H Q I h
  refine wpAny_Call_method_late hbase hfew hline rfl (thn (ho pins s σ H _ I h) fun v s1 ⟨x, H1, I1, r1, ty, q1⟩ => ?_)
  obtain ⟨h1, h2⟩ := tyV_is I1 r1 ty
  refine ⟨T, id, pa, slot, hty, h1, h2, ?_⟩
  have hA := ha cpos pins s1 σ H1 _ I1 q1
  rw [hs] at hA ⊢
  refine Calls.callWith_builtin (by show (false || (backTo cpos (starEach es X.env)).any (·.1)) = false; rw [hplain] <;> rfl) (Calls.evalArgs_plain ?_)
  exact thn hA fun us s2 ⟨vs, H2, I2, r2, q2⟩ => hm pins s2 σ H2 x vs v us Q I2 r1 r2 q2
end
end L2
namespace L2
open PySem PySem.Spec PyProof.Rows
def MtM (X : Cx) (id : String) (r : V → List V → Hp → VK → Prop) : Prop :=
  ∀ (pins : List (Addr × Obj)) (s : Shared) (σ : St) (H : Hp) (x : V) (xs : List V) (v : Value) (us : List Value) (Q : VK), Inv X pins σ H s → RelV x v → Vals xs us → r x xs H Q →
    wpAny (model X.prog X.w) X.A (call (.builtin id) (v :: us)) (EP X pins σ Q) X.xe s
theorem Vals.one : ∀ {x : V} {us : List Value}, Vals [x] us → ∃ u, us = [u] ∧ RelV x u
  | _, _, .cons r .nil => ⟨_, rfl, r⟩
theorem Vals.zero : ∀ {us : List Value}, Vals [] us → us = []
  | _, .nil => rfl
theorem Vals.dropLast {xs : List V} {us : List Value} (h : Vals xs us) : Vals xs.dropLast us.dropLast := by
  induction h with
  | nil => exact .nil
  | cons r t ih =>
    cases t with
    | nil => exact .nil
    | cons q t' => exact .cons r ih
theorem erase_last {α : Type} (l : List α) : l.eraseIdx (l.length - 1) = l.dropLast := by
  induction l with
  | nil => rfl
  | cons a r ih =>
    cases r with
    | nil => rfl
    | cons b r =>
      have e : (a :: b :: r).length - 1 = ((b :: r).length - 1) + 1 := by
        have h1 : (a :: b :: r).length = r.length + 2 := rfl
        have h2 : (b :: r).length = r.length + 1 := rfl
        omega
      rw [e, List.eraseIdx_cons_succ, ih]
      all_goals rfl
section
variable {X : Cx} {pins : List (Addr × Obj)} {σ : St} {H : Hp} {s : Shared} {l b : Addr} {xs ys zs : List V}
theorem Inv.lset {its its' : List Value} {n : Nat} {f : Array Value → Array Value} {t' : Nat} (I : Inv X pins σ H s) (hH : H l = some (.lst xs))
    (e : s.heap.get? l = some { cls := .type "list", data := .seq its.toArray n }) (hf : f its.toArray = its'.toArray) (hv : Vals ys its') (hz : ys.length ≤ sizeLine) :
    Inv X pins σ (upd H l (.lst ys)) { s with heap := s.heap.update l (Obj.mapSeq f), toks := t' } := by
  have q := PySem.IsL.update e f
  rw [hf] at q
  refine I.write (x := l) (e := l) (by rw [hH]; exact trivial) (.inl rfl) (fun b' u hb hu => (Heap.get?_update_other s.heap (Obj.mapSeq f) (Ne.symm hb)).trans hu) ⟨_, q⟩ ?_
  exact ⟨hz, its', _, hv, q⟩
theorem Inv.lnew {its : List Value} {t' : Nat} (I : Inv X pins σ H s) (hv : Vals ys its) (hz : ys.length ≤ sizeLine) :
    Inv X pins σ (upd H s.heap.objs.size (.lst ys)) { s with heap := s.heap.push { cls := .type "list", data := .seq its.toArray }, toks := t' } :=
  I.laid (fun _ _ q => Heap.get?_push_of_some _ q) (Nat.le_refl _) ⟨hz, its, 0, hv, Heap.get?_push_size _ rfl⟩
theorem Inv.fresh (I : Inv X pins σ H s) : H s.heap.objs.size = none := I.hok.fresh (Nat.le_refl _)
theorem Inv.lstM (I : Inv X pins σ H s) (hH : H l = some (.lst xs)) : xs.length ≤ sizeLine ∧ ∃ (its : List Value) (n : Nat), Vals xs its ∧ xs.length = its.length ∧ s.heap.get? l = some { cls := .type "list", data := .seq its.toArray n } := by
  obtain ⟨z, its, n, r, e⟩ := I.hok l _ hH
  exact ⟨z, its, n, r, r.length, e⟩
end
section
variable {X : Cx}
def rAppend : V → List V → Hp → VK → Prop := fun x vs H Q => ∃ l xs y, x = .ref l ∧ vs = [y] ∧ H l = some (.lst xs) ∧ xs.length < sizeLine ∧ Q .non (upd H l (.lst (xs ++ [y])))
theorem mt_append : MtM X "list.append" rAppend := by
  intro pins s σ H x vs v us Q I rx rv h
  obtain ⟨l, xs, y, rfl, rfl, hH, hz, q⟩ := h
  cases rx
  obtain ⟨u, rfl, ru⟩ := rv.one
  obtain ⟨z, its, n, r, hl, e⟩ := I.lstM hH
  refine call_meets F.slot_list_append ⟨_, e, rfl⟩ F.entry_list_append (F.args_list_append_2 _ _) (PySem.list_append l its.toArray n u (by rw [List.size_toArray]; omega)) ⟨e, ?_⟩
  refine ⟨.non, _, I.lset (its' := its ++ [u]) hH e (by simp) (r.append (.cons ru .nil)) ?_, rfl, q⟩
  rw [List.length_append, List.length_singleton]
  omega
def rExtend : V → List V → Hp → VK → Prop := fun x vs H Q => ∃ l b xs zs, x = .ref l ∧ vs = [.ref b] ∧ H l = some (.lst xs) ∧ H b = some (.lst zs) ∧ xs.length + zs.length ≤ sizeLine ∧ Q .non (upd H l (.lst (xs ++ zs)))
def rPop : V → List V → Hp → VK → Prop := fun x vs H Q => ∃ l xs y, x = .ref l ∧ vs = [] ∧ H l = some (.lst xs) ∧ xs[xs.length - 1]? = some y ∧ Q y (upd H l (.lst xs.dropLast))
theorem mt_pop : MtM X "list.pop" rPop := by
  intro pins s σ H x vs v us Q I rx rv h
  obtain ⟨l, xs, y, rfl, rfl, hH, hy, q⟩ := h
  cases rx
  have hus := rv.zero
  subst hus
  obtain ⟨z, its, n, r, hl, e⟩ := I.lstM hH
  obtain ⟨u, hu, ru⟩ := r.get hy
  have hy' : its.toArray[its.toArray.size - 1]? = some u := by
    show its.toArray[its.length - 1]? = some u
    rw [← Array.getElem?_toList, ← hl]
    exact hu
  refine call_meets F.slot_list_pop ⟨_, e, rfl⟩ F.entry_list_pop (F.args_list_pop_1 _) (MeetsSeq.list_pop_last l its.toArray n u hy' (by rw [List.size_toArray]; omega)) ⟨e, ?_⟩
  refine ⟨y, _, I.lset (its' := its.dropLast) hH e ?_ r.dropLast ?_, ru, q⟩
  · show its.toArray.eraseIdxIfInBounds (its.toArray.size - 1) = its.dropLast.toArray
    rw [List.size_toArray, List.eraseIdxIfInBounds_toArray, erase_last]
  · rw [List.length_dropLast]
    omega
def rPopAt : V → List V → Hp → VK → Prop := fun x vs H Q => ∃ l xs i k y, x = .ref l ∧ vs = [.int i] ∧ H l = some (.lst xs) ∧ -(2 ^ 63) ≤ i ∧ i < 2 ^ 63 ∧ seqIndex? i xs.length = some k ∧ xs[k]? = some y ∧ Q y (upd H l (.lst (xs.eraseIdx k)))
def rReverse : V → List V → Hp → VK → Prop := fun x vs H Q => ∃ l xs, x = .ref l ∧ vs = [] ∧ H l = some (.lst xs) ∧ Q .non (upd H l (.lst xs.reverse))
def rClear : V → List V → Hp → VK → Prop := fun x vs H Q => ∃ l xs, x = .ref l ∧ vs = [] ∧ H l = some (.lst xs) ∧ Q .non (upd H l (.lst []))
def rCat : R2 := fun x y H Q => ∃ l b xs zs, x = .ref l ∧ y = .ref b ∧ H l = some (.lst xs) ∧ H b = some (.lst zs) ∧ xs.length + zs.length ≤ sizeLine ∧ ∀ p, H p = none → Q (.ref p) (upd H p (.lst (xs ++ zs)))
theorem op_cat : OpR X (binaryOp .Add) rCat := by
  intro pins s σ H x y v u Q I rx ry h
  obtain ⟨l, b, xs, zs, rfl, rfl, hH, hB, hz, q⟩ := h
  cases rx
  cases ry
  obtain ⟨z, its, n, r, hl, e⟩ := I.lstM hH
  obtain ⟨z2, its2, n2, r2, hl2, e2⟩ := I.lstM hB
  refine PySem.P.add_list e e2 ?_ (by rw [List.size_toArray, List.size_toArray]; omega)
  have ea : its.toArray ++ its2.toArray = (its ++ its2).toArray := by simp
  rw [ea]
  exact ⟨.ref _, _, I.lnew (t' := s.toks) (r.append r2) (by rw [List.length_append]; omega), rfl, q _ I.fresh⟩
def rRep : R2 := fun x y H Q => ∃ l k xs, x = .ref l ∧ y = .int k ∧ H l = some (.lst xs) ∧ -(2 ^ 63) ≤ k ∧ k < 2 ^ 63 ∧ xs.length * k.toNat ≤ sizeLine ∧
  ∀ p, H p = none → Q (.ref p) (upd H p (.lst (List.replicate k.toNat xs).flatten))
end
section
variable {prog : Program} {w : World} {A : Around} {E : Value → Shared → Prop} {s : Shared}
set_option maxRecDepth 100000 in
end
section
variable {X : Cx}
end
end L2
namespace L2
open PySem PySem.Spec PyProof.Rows
section
variable {κ : Type} [DecidableEq κ]
def valV (kvs : List (κ × V)) (k : κ) : Option V := (kvs.find? fun kv => decide (kv.1 = k)).map (·.2)
def putK (kvs : List (κ × V)) (k : κ) (v : V) : List (κ × V) :=
  if (kvs.any fun kv => decide (kv.1 = k)) = true then kvs.map (fun kv => if kv.1 = k then (kv.1, v) else kv) else kvs ++ [(k, v)]
def dropK (kvs : List (κ × V)) (k : κ) : List (κ × V) := kvs.filter fun kv => decide (kv.1 ≠ k)
theorem valV_nil {k : κ} : valV ([] : List (κ × V)) k = none := rfl
theorem valV_pos {p : κ × V} {r : List (κ × V)} {k : κ} (e : p.1 = k) : valV (p :: r) k = some p.2 := by simp [valV, List.find?_cons, e]
theorem valV_neg {p : κ × V} {r : List (κ × V)} {k : κ} (e : ¬ p.1 = k) : valV (p :: r) k = valV r k := by simp [valV, List.find?_cons, e]
theorem valV_any (k : κ) : ∀ kvs : List (κ × V), (kvs.any fun kv => decide (kv.1 = k)) = (valV kvs k).isSome
  | [] => rfl
  | p :: r => by
    rw [List.any_cons]
    by_cases e : p.1 = k
    · simp only [valV_pos e, decide_eq_true e, Bool.true_or, Option.isSome_some]
    · rw [valV_neg e, decide_eq_false e, Bool.false_or]; exact valV_any k r
theorem valV_map (k j : κ) (y : V) : ∀ kvs : List (κ × V), valV (kvs.map fun kv => if kv.1 = k then (kv.1, y) else kv) j = (valV kvs j).map fun x => if j = k then y else x
  | [] => rfl
  | p :: r => by
    have ih := valV_map k j y r
    rw [List.map_cons]
    by_cases h : p.1 = k
    · rw [if_pos h]
      by_cases e : p.1 = j
      · rw [valV_pos (p := (p.1, y)) e, valV_pos e, Option.map_some, if_pos (e.symm.trans h)]
      · rw [valV_neg (p := (p.1, y)) e, valV_neg e, ih]
    · rw [if_neg h]
      by_cases e : p.1 = j
      · rw [valV_pos (p := p) e, valV_pos e, Option.map_some, if_neg (fun z => h (e.trans z))]
      · rw [valV_neg (p := p) e, valV_neg e, ih]
theorem valV_snoc (k j : κ) (y : V) : ∀ kvs : List (κ × V), valV kvs k = none → valV (kvs ++ [(k, y)]) j = if j = k then some y else valV kvs j
  | [], _ => by
    by_cases e : k = j
    · rw [if_pos e.symm]; exact valV_pos (p := (k, y)) e
    · rw [if_neg (fun z => e z.symm)]; exact valV_neg (p := (k, y)) e
  | p :: r, hn => by
    rw [List.cons_append]
    have hk : ¬ p.1 = k := fun z => by rw [valV_pos z] at hn; cases hn
    rw [valV_neg hk] at hn
    have ih := valV_snoc k j y r hn
    by_cases e : p.1 = j
    · rw [valV_pos e, valV_pos e, if_neg (fun z => hk (e.trans z))]
    · rw [valV_neg e, valV_neg e, ih]
theorem valV_put (kvs : List (κ × V)) (k j : κ) (y : V) : valV (putK kvs k y) j = if j = k then some y else valV kvs j := by
  unfold putK
  by_cases a : (kvs.any fun kv => decide (kv.1 = k)) = true
  · rw [if_pos a, valV_map]
    rw [valV_any] at a
    by_cases e : j = k
    · obtain ⟨x, hx⟩ := Option.isSome_iff_exists.mp a
      rw [if_pos e, e, hx, Option.map_some, if_pos rfl]
    · rw [if_neg e]
      cases valV kvs j with
      | none => rfl
      | some x => rw [Option.map_some, if_neg e]
  · rw [if_neg a]
    refine valV_snoc k j y kvs ?_
    rw [valV_any] at a
    cases q : valV kvs k with
    | none => rfl
    | some x => rw [q] at a; exact (a rfl).elim
theorem length_putK (kvs : List (κ × V)) (k : κ) (v : V) : (putK kvs k v).length ≤ kvs.length + 1 := by
  unfold putK
  split
  · rw [List.length_map]; omega
  · rw [List.length_append, List.length_cons, List.length_nil]; omega
theorem putK_new {kvs : List (κ × V)} {k : κ} (v : V) (h : valV kvs k = none) : putK kvs k v = kvs ++ [(k, v)] := by
  unfold putK
  rw [valV_any, h]
  exact if_neg (by decide)
theorem RelO.isSome_eq {o : Option V} {u : Option Value} (r : RelO o u) : o.isSome = u.isSome := by
  cases o with
  | none => cases u with
    | none => rfl
    | some _ => exact (show False from r).elim
  | some _ => cases u with
    | none => exact (show False from r).elim
    | some _ => rfl
theorem RelO.getD {o : Option V} {u : Option Value} {d : V} {d' : Value} (r : RelO o u) (rd : RelV d d') : RelV (o.getD d) (u.getD d') := by
  cases o with
  | none => cases u with
    | none => exact rd
    | some _ => exact (show False from r).elim
  | some _ => cases u with
    | none => exact (show False from r).elim
    | some _ => exact r
theorem KV.val {kvs : List (κ × V)} {vs : List (κ × Value)} (r : KV kvs vs) (k : κ) : RelO (valV kvs k) (valueAt vs k) := by
  unfold KV at r
  induction r with
  | nil => exact True.intro
  | @cons p q ps qs h t ih =>
    obtain ⟨h1, h2⟩ := h
    by_cases e : p.1 = k
    · have e' : q.1 = k := h1.symm.trans e
      have b : valueAt (q :: qs) k = some q.2 := by simp [valueAt, List.find?_cons, e']
      rw [valV_pos e, b]; exact h2
    · have e' : ¬ q.1 = k := fun z => e (h1.trans z)
      have b : valueAt (q :: qs) k = valueAt qs k := by simp [valueAt, List.find?_cons, e']
      rw [valV_neg e, b]; exact ih
theorem KV.any {kvs : List (κ × V)} {vs : List (κ × Value)} (r : KV kvs vs) (k : κ) : (kvs.any fun kv => decide (kv.1 = k)) = vs.any fun kv => decide (kv.1 = k) := by
  unfold KV at r
  induction r with
  | nil => rfl
  | cons h t ih => rw [List.any_cons, List.any_cons, ih, h.1]
theorem KV.repl {kvs : List (κ × V)} {vs : List (κ × Value)} (r : KV kvs vs) (k : κ) {y : V} {u : Value} (ry : RelV y u) :
    KV (kvs.map fun kv => if kv.1 = k then (kv.1, y) else kv) (vs.map fun kv => if kv.1 = k then (kv.1, u) else kv) := by
  unfold KV at r ⊢
  induction r with
  | nil => exact .nil
  | @cons p q ps qs h t ih =>
    rw [List.map_cons, List.map_cons]
    refine .cons ?_ ih
    obtain ⟨h1, h2⟩ := h
    by_cases e : p.1 = k
    · rw [if_pos e, if_pos (h1.symm.trans e)]; exact ⟨h1, ry⟩
    · rw [if_neg e, if_neg (fun z => e (h1.trans z))]; exact ⟨h1, h2⟩
theorem KV.put {kvs : List (κ × V)} {vs : List (κ × Value)} (r : KV kvs vs) (k : κ) {y : V} {u : Value} (ry : RelV y u) : KV (putK kvs k y) (stored vs k u) := by
  unfold putK stored
  rw [r.any k]
  by_cases e : (vs.any fun kv => decide (kv.1 = k)) = true
  · rw [if_pos e, if_pos e]; exact r.repl k ry
  · rw [if_neg e, if_neg e]; exact Paired.snoc r ⟨rfl, ry⟩
theorem KV.length {kvs : List (κ × V)} {vs : List (κ × Value)} (r : KV kvs vs) : kvs.length = vs.length := Paired.length r
end
theorem kV_is {P : Program} {w : World} {k : Key} {u : Value} (r : RelV (kV k) u) : (mixKind P w).is k u = true := by
  cases k with
  | inl i => obtain ⟨t, e⟩ := (show ∃ t, u = Value.int i t from r); subst e; exact mixKind_int P w i t
  | inr x => obtain ⟨t, e⟩ := (show ∃ t, u = Value.str x t from r); subst e; exact mixKind_str P w x t
theorem items_are {P : Program} {w : World} : ∀ {ks : List Key} {us : List Value}, Vals (ks.map kV) us → ItemsAre (mixKind P w) ks us
  | [], _, r => by rw [List.map_nil] at r; cases r; exact .nil
  | k :: ks, _, r => by
    rw [List.map_cons] at r
    cases r with
    | cons h t => exact .cons (kV_is h) (items_are t)
abbrev KT (H : Hp) : List (List Key × V) → List (List Key × Addr × Value) → Prop := Paired fun p q => p.1 = q.1 ∧ H q.2.1 = some (.tup (p.1.map kV)) ∧ RelV p.2 q.2.2
theorem KT.val {H : Hp} {kvs : List (List Key × V)} {xs : List (List Key × Addr × Value)} (r : KT H kvs xs) (k : List Key) : RelO (valV kvs k) ((atKey xs k).map (·.2)) := by
  induction r with
  | nil => exact True.intro
  | @cons p q ps qs h t ih =>
    obtain ⟨h1, _, h2⟩ := h
    by_cases e : p.1 = k
    · have e' : q.1 = k := h1.symm.trans e
      have b : atKey (q :: qs) k = some q.2 := by simp [atKey, List.find?_cons, e']
      rw [valV_pos e, b]; exact h2
    · have e' : ¬ q.1 = k := fun z => e (h1.trans z)
      have b : atKey (q :: qs) k = atKey qs k := by simp [atKey, List.find?_cons, e']
      rw [valV_neg e, b]; exact ih
theorem KT.repl {H : Hp} {kvs : List (List Key × V)} {xs : List (List Key × Addr × Value)} (r : KT H kvs xs) (k : List Key) {y : V} {u : Value} (ry : RelV y u) :
    KT H (kvs.map fun kv => if kv.1 = k then (kv.1, y) else kv) (xs.map (putAt k u)) := by
  induction r with
  | nil => exact .nil
  | @cons p q ps qs h t ih =>
    rw [List.map_cons, List.map_cons]
    refine .cons ?_ ih
    obtain ⟨h1, h2, h3⟩ := h
    unfold putAt
    by_cases e : p.1 = k
    · rw [if_pos e, if_pos (h1.symm.trans e)]; exact ⟨h1, h2, ry⟩
    · rw [if_neg e, if_neg (fun z => e (h1.trans z))]; exact ⟨h1, h2, h3⟩
theorem KT.put {H : Hp} {kvs : List (List Key × V)} {xs : List (List Key × Addr × Value)} (r : KT H kvs xs) (k : List Key) {b : Addr} {y : V} {u : Value} (hb : H b = some (.tup (k.map kV))) (ry : RelV y u) :
    KT H (putK kvs k y) (storedH xs k b u) := by
  have e : (kvs.any fun kv => decide (kv.1 = k)) = (atKey xs k).isSome := by
    rw [valV_any, (r.val k).isSome_eq, Option.isSome_map]
  unfold putK storedH
  rw [e]
  by_cases q : (atKey xs k).isSome = true
  · rw [if_pos q, if_pos q]; exact r.repl k ry
  · rw [if_neg q, if_neg q]; exact Paired.snoc r ⟨rfl, hb, ry⟩
theorem KT.keeps {H H' : Hp} {kvs : List (List Key × V)} {xs : List (List Key × Addr × Value)} (r : KT H kvs xs) (ht : ∀ b ys, H b = some (.tup ys) → H' b = some (.tup ys)) : KT H' kvs xs :=
  Paired.mapP r fun _ _ z => ⟨z.1, ht _ _ z.2.1, z.2.2⟩
section
variable {P : Program} {w : World} {H : Hp} {h : Heap} {a : Addr}
theorem rd_of {u : HO} (ok : HOk P w H h) (e : Rd H a u) : ObjOk P w H h a u := e.ok ok
theorem dk_rd {kvs : List (Key × V)} (ok : HOk P w H h) (e : Rd H a (.dK kvs)) : kvs.length ≤ sizeLine ∧ (a == sysModules) = false ∧ ∃ vs, KV kvs vs ∧ h.DictOf (mixKind P w) a vs :=
  show ObjOk P w H h a (.dK kvs) from rd_of ok e
theorem dk_of {kvs : List (Key × V)} (ok : HOk P w H h) (e : H a = some (.dK kvs)) : kvs.length ≤ sizeLine ∧ (a == sysModules) = false ∧ ∃ vs, KV kvs vs ∧ h.DictOf (mixKind P w) a vs := dk_rd ok (.inl e)
theorem key_of {ks : List Key} (ok : HOk P w H h) (e : H a = some (.tup (ks.map kV))) : (tupleKind (mixKind P w)).is h ks a := by
  obtain ⟨_, its, r, o, h1, h2, n, h3⟩ := (show ObjOk P w H h a (.tup (ks.map kV)) from ok a _ e)
  exact ⟨o, its.toArray, n, h1, h2, h3, by simpa using items_are r⟩
theorem dt_rd {kvs : List (List Key × V)} (ok : HOk P w H h) (e : Rd H a (.dT kvs)) : kvs.length ≤ sizeLine ∧ (a == sysModules) = false ∧
    ∃ xs, KT H kvs xs ∧ h.DictOfH (tupleKind (mixKind P w)) a xs := by
  obtain ⟨z, y, xs, r, o, es, ep, h1, h2, h3, h4, h5⟩ := (show ObjOk P w H h a (.dT kvs) from rd_of ok e)
  refine ⟨z, y, xs, r, o, es, ep, h1, h2, h3, h4, fun x hx => ?_, h5⟩
  have all : ∀ {l : List (List Key × V)} {m : List (List Key × Addr × Value)}, KT H l m → ∀ x ∈ m, (tupleKind (mixKind P w)).is h x.1 x.2.1 := by
    intro l m q
    induction q with
    | nil => intro x hx; exact nomatch hx
    | @cons p q ps qs hq t ih =>
      intro x hx
      rcases List.mem_cons.mp hx with e | hx
      · subst e
        exact key_of ok (by rw [← hq.1]; exact hq.2.1)
      · exact ih x hx
  exact all r x hx
theorem dt_of {kvs : List (List Key × V)} (ok : HOk P w H h) (e : H a = some (.dT kvs)) : kvs.length ≤ sizeLine ∧ (a == sysModules) = false ∧
    ∃ xs, KT H kvs xs ∧ h.DictOfH (tupleKind (mixKind P w)) a xs := dt_rd ok (.inl e)
end
def DGet (H : Hp) (a : Addr) (y : V) (r : Option V) : Prop :=
  (∃ kvs k, Rd H a (.dK kvs) ∧ y = kV k ∧ r = valV kvs k) ∨ ∃ kvs k b, Rd H a (.dT kvs) ∧ y = .ref b ∧ H b = some (.tup (k.map kV)) ∧ r = valV kvs k
def DPut (H : Hp) (a : Addr) (y v : V) (H' : Hp) : Prop :=
  (∃ kvs k, H a = some (.dK kvs) ∧ y = kV k ∧ kvs.length < sizeLine ∧ H' = upd H a (.dK (putK kvs k v))) ∨
  ∃ kvs k b, H a = some (.dT kvs) ∧ y = .ref b ∧ H b = some (.tup (k.map kV)) ∧ kvs.length < sizeLine ∧ H' = upd H a (.dT (putK kvs k v))
theorem DGet.k {H : Hp} {a : Addr} {kvs : List (Key × V)} {k : Key} (e : H a = some (.dK kvs)) : DGet H a (kV k) (valV kvs k) := .inl ⟨kvs, k, .inl e, rfl, rfl⟩
theorem DPut.k {H : Hp} {a : Addr} {kvs : List (Key × V)} {k : Key} {v : V} (e : H a = some (.dK kvs)) (hl : kvs.length < sizeLine) : DPut H a (kV k) v (upd H a (.dK (putK kvs k v))) := .inl ⟨kvs, k, e, rfl, hl, rfl⟩
section
variable {X : Cx} {pins : List (Addr × Obj)} {σ : St} {H : Hp} {s : Shared} {a : Addr} {y v : V} {u r : Value} {o : Option V} {A : Around} {E : Value → Shared → Prop}
theorem Inv.big (I : Inv X pins σ H s) : sysModules < s.heap.objs.size := by
  have h : mainGlobals < s.heap.objs.size := (I.mod.glob.keeps I.bk).lt
  exact Nat.lt_trans (by decide) h
theorem d_write {h' : Heap} {t' : Nat} {ob : HO} (I : Inv X pins σ H s) (mu : Mut (H a)) (hs : Heap.SameBut a s.heap h') (he : ∃ q, h'.get? a = some q) (new : ObjOk X.prog X.w (upd H a ob) h' a ob) :
    Inv X pins σ (upd H a ob) { s with heap := h', toks := t' } :=
  I.write (x := a) (e := a) mu (.inl rfl) (fun b q hb z => (hs.2 b hb).trans z) he new
theorem dk_new {P : Program} {w : World} {H' : Hp} {h' : Heap} {kvs : List (Key × V)} {vs : List (Key × Value)} (z : kvs.length ≤ sizeLine) (hd : (a == sysModules) = false) (rel : KV kvs vs) (dd : h'.DictOf (mixKind P w) a vs) :
    ObjOk P w H' h' a (.dK kvs) := ⟨z, hd, vs, rel, dd⟩
theorem d_setItem {H' : Hp} {Q : Unit → Shared → Prop} (hu : A.units + 1 < cLine) (I : Inv X pins σ H s) (g : DPut H a y v H') (ry : RelV y u) (rv : RelV v r) (h : ∀ s', Inv X pins σ H' s' → Q () s') :
    wpAny (model X.prog X.w) A (setItem (.ref a) u r) Q E s := by
  rcases g with ⟨kvs, k, e, ey, l, eH⟩ | ⟨kvs, k, b, e, ey, eb, l, eH⟩
  · subst ey eH
    obtain ⟨z, hd, vs, rel, dd⟩ := dk_of I.hok e
    have hz : vs.length ≤ sizeLine := by rw [← rel.length]; exact z
    have hl : (putK kvs k v).length ≤ sizeLine := by have := length_putK kvs k v; omega
    refine wpAny_setItem_pairs (hsz := hz) (kV_is ry) dd fun h' dd' hs => h _ ?_
    have he : ∃ q, h'.get? a = some q := let ⟨q, _, _, hq, _⟩ := dd'; ⟨q, hq⟩
    exact d_write I (by rw [e]; exact True.intro) hs he (dk_new hl hd (rel.put k rv) dd')
  · subst ey eH
    cases (show u = Value.ref b from ry)
    obtain ⟨z, hd, xs, rel, dd⟩ := dt_of I.hok e
    have hz : xs.length ≤ sizeLine := by rw [← Paired.length rel]; exact z
    have hl : (putK kvs k v).length ≤ sizeLine := by have := length_putK kvs k v; omega
    refine wpAny_setItem_heap (hsz := hz) (tupleKind_room_in1 hu) (key_of I.hok eb) dd fun h' dd' hs => h _ ?_
    obtain ⟨q, es, ep, hq, h2, h3, h4, _, h5⟩ := dd'
    refine d_write I (by rw [e]; exact True.intro) hs ⟨q, hq⟩ ⟨hl, hd, _, (rel.put k eb rv).keeps fun c ys ec => ?_, q, es, ep, hq, h2, h3, h4, h5⟩
    rw [upd_ne (ne_of ec e (fun z => nomatch z))]
    exact ec
end
section
variable {X : Cx} {pins : List (Addr × Obj)} {σ : St} {H : Hp} {s : Shared} {a : Addr} {kvs : List (Key × V)} {k : Key} {u : Value} {A : Around} {E : Value → Shared → Prop}
end
def NoSl (i : Expr) : Prop := ∀ ov iv, subscripted i false ov iv = operate [ov, iv] (getItem ov iv)
def tDGet (td ty : TE) : TE := fun σ H Q => td σ H fun x H1 => ty σ H1 fun y H2 => ∃ a v, x = .ref a ∧ DGet H2 a y (some v) ∧ Q v H2
def tDIn (ty td : TE) : TE := fun σ H Q => ty σ H fun y H1 => td σ H1 fun x H2 => ∃ a o, x = .ref a ∧ DGet H2 a y o ∧ Q (.bl o.isSome) H2
def tDNotIn (ty td : TE) : TE := fun σ H Q => ty σ H fun y H1 => td σ H1 fun x H2 => ∃ a o, x = .ref a ∧ DGet H2 a y o ∧ Q (.bl (!o.isSome)) H2
def sDPut (td ty tv : TE) : TS := fun D σ H => tv σ H fun v H1 => td σ H1 fun x H2 => ty σ H2 fun y H3 => ∃ a H4, x = .ref a ∧ DPut H3 a y v H4 ∧ D.nx σ H4
def sDAug (td ty tv : TE) (rd : V → V → Hp → VK → Prop) : TS := fun D σ H => td σ H fun x H1 => ty σ H1 fun y H2 => ∃ a v, x = .ref a ∧ DGet H2 a y (some v) ∧
  tv σ H2 fun y2 H3 => rd v y2 H3 fun z H4 => ∃ H5, DPut H4 a y z H5 ∧ D.nx σ H5
def sDDel (td ty : TE) : TS := fun D σ H => td σ H fun x H1 => ty σ H1 fun y H2 => ∃ a kvs k, x = .ref a ∧ H2 a = some (.dK kvs) ∧ y = kV k ∧ (valV kvs k).isSome = true ∧ D.nx σ (upd H2 a (.dK (dropK kvs k)))
section
variable {X : Cx} {o i e value : Expr} {pos pos' tpos : Pos} {td ty tv : TE}
theorem ps_dput (hu : X.A.units + 1 < cLine) (ho : PE X o td) (hi : PE X i ty) (hv : PE X value tv) (hs : swapsWith value (some (.Subscript o i pos')) pos.line X.env = pure false) :
    PS X (.Assign [.Subscript o i pos'] value pos) (sDPut td ty tv) := by
  intro pins s σ H D I h
  refine wpAny_Assign_Subscript (thn (hv pins s σ H _ I h) fun r s1 ⟨v, H1, I1, rv, q1⟩ => thn (ho pins s1 σ H1 _ I1 q1) fun u s2 ⟨x, H2, I2, rx, q2⟩ => thn (hi pins s2 σ H2 _ I2 q2) fun iv s3 ⟨y, H3, I3, ry, a, H4, ex, g, q3⟩ => ?_) hs
  subst ex
  obtain rfl : u = Value.ref a := rx
  exact d_setItem hu I3 g ry rv fun s4 I4 => ⟨σ, H4, I4, q3⟩
end
theorem dk_empty {P : Program} {w : World} {H : Hp} (h : Heap) (hb : sysModules < h.objs.size) : ObjOk P w H (h.push { cls := .type "dict", data := .dict #[] }) h.objs.size (.dK []) :=
  ⟨Nat.zero_le _, beq_eq_false_iff_ne.mpr (Ne.symm (Nat.ne_of_lt hb)), [], .nil, Heap.DictOf.new h⟩
def tDNewK : TE := fun _ H Q => ∀ p, H p = none → Q (.ref p) (upd H p (.dK []))
def tDNewT : TE := fun _ H Q => ∀ p, H p = none → Q (.ref p) (upd H p (.dT []))
section
variable {X : Cx} {pos : Pos}
theorem pe_dnewK : PE X (.Dict [] [] pos) tDNewK := fun pins s σ H Q I h =>
  wpAny_Dict_empty ⟨.ref s.heap.objs.size, _, I.laid (a := s.heap.objs.size) (o := .dK []) (t' := s.toks) (fun _ _ q => Heap.get?_push_of_some _ q) (Nat.le_refl _) (dk_empty s.heap I.big), rfl, h _ (I.hok.fresh (Nat.le_refl _))⟩
end
def tPairs : List (TE × TE) → St → Hp → (List (V × V) → Hp → Prop) → Prop
  | [], _, H, Q => Q [] H
  | (tk, tv) :: r, σ, H, Q => tk σ H fun x H1 => tv σ H1 fun y H2 => tPairs r σ H2 fun ps H3 => Q ((x, y) :: ps) H3
abbrev VV : List (V × V) → List (Value × Value) → Prop := Paired fun p q => RelV p.1 q.1 ∧ RelV p.2 q.2
def PPs (X : Cx) (pos : Pos) (keys : List (Option Expr)) (values : List Expr) (trs : List (TE × TE)) : Prop :=
  ∀ (pins : List (Addr × Obj)) (s : Shared) (σ : St) (H : Hp) (Q : List (V × V) → Hp → Prop), Inv X pins σ H s → tPairs trs σ H Q →
    wpAny (model X.prog X.w) X.A (evalPairs (pairTrees keys values X.env pos)) (fun vs s' => ∃ ps H', Inv X pins σ H' s' ∧ VV ps vs ∧ Q ps H') X.xe s
theorem pps_nil {X : Cx} {pos : Pos} : PPs X pos [] [] [] := fun pins s σ H Q I h => pairTrees_nil_walk ⟨[], H, I, .nil, h⟩
theorem pps_cons {X : Cx} {pos : Pos} {k v : Expr} {ks : List (Option Expr)} {vs : List Expr} {tk tv : TE} {trs : List (TE × TE)} (hk : PE X k tk) (hv : PE X v tv) (hr : PPs X pos ks vs trs) :
    PPs X pos (some k :: ks) (v :: vs) ((tk, tv) :: trs) := fun pins s σ H Q I h =>
  pairTrees_cons_walk (thn (hk pins s σ H _ I h) fun u s1 ⟨x, H1, I1, rx, q1⟩ => thn (hv pins s1 σ H1 _ I1 q1) fun w2 s2 ⟨y, H2, I2, ry, q2⟩ =>
    thn (hr pins s2 σ H2 _ I2 q2) fun ws s3 ⟨ps, H3, I3, rel, q3⟩ => ⟨(x, y) :: ps, H3, I3, .cons ⟨rx, ry⟩ rel, q3⟩)
def mergeK (kvs more : List (Key × V)) : List (Key × V) := more.foldl (fun acc kv => putK acc kv.1 kv.2) kvs
theorem KV.merge : ∀ {more : List (Key × V)} {rs : List (Key × Value)} {kvs : List (Key × V)} {vs : List (Key × Value)}, KV more rs → KV kvs vs → KV (mergeK kvs more) (merged vs rs) := by
  intro more rs kvs vs r
  unfold KV at r
  induction r generalizing kvs vs with
  | nil => intro q; exact q
  | @cons p q ps qs h t ih =>
    intro r0
    have e : KV (putK kvs p.1 p.2) (stored vs q.1 q.2) := by
      have := r0.put p.1 h.2
      rw [← h.1]; exact this
    exact ih e
theorem length_mergeK : ∀ (more kvs : List (Key × V)), (mergeK kvs more).length ≤ kvs.length + more.length
  | [], kvs => by show kvs.length ≤ kvs.length + 0; omega
  | p :: r, kvs => by
    have h1 := length_mergeK r (putK kvs p.1 p.2)
    have h2 := length_putK kvs p.1 p.2
    show (mergeK (putK kvs p.1 p.2) r).length ≤ _
    rw [List.length_cons]; omega
theorem carries_of {P : Program} {w : World} : ∀ {kvs : List (Key × V)} {ws : List (Value × Value)}, VV (kvs.map fun kv => (kV kv.1, kv.2)) ws → ∃ rs, Carries (mixKind P w) ws rs ∧ KV kvs rs
  | [], _, r => by rw [List.map_nil] at r; cases r; exact ⟨[], True.intro, .nil⟩
  | p :: kvs, _, r => by
    rw [List.map_cons] at r
    cases r with
    | @cons a b as bs h t =>
      obtain ⟨rs, c, q⟩ := carries_of (P := P) (w := w) t
      obtain ⟨b1, b2⟩ := b
      exact ⟨(p.1, b2) :: rs, ⟨kV_is h.1, rfl, c⟩, .cons ⟨rfl, h.2⟩ q⟩
def tDisp (trs : List (TE × TE)) : TE := fun σ H Q => ∀ p, H p = none → tPairs trs σ (upd H p (.dK [])) fun ps H2 => H2 p = some (.dK []) ∧ ∃ kvs : List (Key × V), ps = kvs.map (fun kv => (kV kv.1, kv.2)) ∧ kvs.length ≤ 15 ∧ Q (.ref p) (upd H2 p (.dK (mergeK [] kvs)))
theorem pe_disp {X : Cx} {pos : Pos} {keys : List (Option Expr)} {values : List Expr} {trs : List (TE × TE)} (h : PPs X pos keys values trs) (hall : keys.all (·.isSome) = true) (hl : keys.length = values.length) (h0 : keys ≠ [])
    (h15 : keys.length ≤ 15) : PE X (.Dict keys values pos) (tDisp trs) := by
  intro pins s σ H Q I q
  have hn := I.hok.fresh (Nat.le_refl s.heap.objs.size)
  have I1 := I.laid (a := s.heap.objs.size) (o := .dK []) (h' := s.heap.push { cls := .type "dict", data := .dict #[] }) (t' := s.toks) (fun _ _ q => Heap.get?_push_of_some _ q) (Nat.le_refl _) (dk_empty s.heap I.big)
  refine wpAny_Dict_walk (knd := mixKind X.prog X.w) hall hl h0 h15 (thn (h pins _ σ _ _ I1 (q _ hn)) fun ws s2 ⟨ps, H2, I2, rel, e, kvs, ep, lk, q2⟩ => ?_)
  subst ep
  obtain ⟨rs, c, rk⟩ := carries_of (P := X.prog) (w := X.w) rel
  obtain ⟨z, hd, vs0, r0, dd⟩ := dk_of I2.hok e
  cases r0
  refine ⟨rs, c, dd, fun h' dd' hs => ⟨.ref s.heap.objs.size, _, ?_, rfl, q2⟩⟩
  have hz : (mergeK [] kvs).length ≤ sizeLine := by
    have h1 := length_mergeK kvs []
    rw [List.length_nil] at h1
    rw [sizeLine_eq]; omega
  have he : ∃ q, h'.get? s.heap.objs.size = some q := let ⟨q, _, _, hq, _⟩ := dd'; ⟨q, hq⟩
  exact d_write I2 (by rw [e]; exact True.intro) hs he (dk_new hz hd (rk.merge .nil) dd')
structure M1 (X : Cx) (o : Expr) (m : Str) (apos : Pos) (e : Expr) (cpos : Pos) : Prop where
  base : attributeBase o m X.env (eval o X.env) = eval o X.env
  few : ((backTo cpos (starEach [e] X.env)).all (fun x => !x.1) && (backToKw cpos (keywordEach [] X.env)).all (fun x => x.1.isSome)
    && decide (([e] : List Expr).length + ([] : List Keyword).length + (if ([] : List Keyword).isEmpty then 0 else 1) < 30)) = true
  line : (apos.endLine == cpos.line) = true
  trees : backTo cpos (starEach [e] X.env) = [(false, eval e X.env)]
structure M2 (X : Cx) (o : Expr) (m : Str) (apos : Pos) (e f : Expr) (cpos : Pos) : Prop where
  base : attributeBase o m X.env (eval o X.env) = eval o X.env
  few : ((backTo cpos (starEach [e, f] X.env)).all (fun x => !x.1) && (backToKw cpos (keywordEach [] X.env)).all (fun x => x.1.isSome)
    && decide (([e, f] : List Expr).length + ([] : List Keyword).length + (if ([] : List Keyword).isEmpty then 0 else 1) < 30)) = true
  line : (apos.endLine == cpos.line) = true
  trees : backTo cpos (starEach [e, f] X.env) = [(false, eval e X.env), (false, eval f X.env)]
def IsD (H : Hp) (a : Addr) : Prop := (∃ kvs, Rd H a (.dK kvs)) ∨ ∃ kvs, Rd H a (.dT kvs)
theorem isD_at {X : Cx} {pins : List (Addr × Obj)} {σ : St} {H : Hp} {s : Shared} {a : Addr} (I : Inv X pins σ H s) (d : IsD H a) :
    s.TypeIs (.ref a) "dict" ∧ (∀ b, Value.ref a = .ref b → ∃ ob, s.heap.get? b = some ob ∧ ob.dict = none) ∧ (a == sysModules) = false := by
  rcases d with ⟨kvs, e⟩ | ⟨kvs, e⟩
  · obtain ⟨_, hd, vs, _, dd⟩ := dk_rd I.hok e
    refine ⟨dd.typeIs, fun b q => ?_, hd⟩
    cases q
    obtain ⟨ob, _, _, h1, h2, _⟩ := dd
    exact ⟨ob, h1, h2.2.1⟩
  · obtain ⟨_, hd, xs, _, dd⟩ := dt_rd I.hok e
    refine ⟨dd.typeIs, fun b q => ?_, hd⟩
    cases q
    obtain ⟨ob, _, _, h1, h2, _⟩ := dd
    exact ⟨ob, h1, h2.2.1⟩
section
variable {X : Cx} {pins : List (Addr × Obj)} {σ : St} {H : Hp} {s : Shared} {a : Addr} {y d : V} {u r : Value} {o : Option V} {A : Around} {E : Value → Shared → Prop}
theorem d_get2 {Q : Value → Shared → Prop} (hu : A.units + 1 < cLine) (I : Inv X pins σ H s) (g : DGet H a y o) (ry : RelV y u) (rd : RelV d r) (h : ∀ w' s', Inv X pins σ H s' → RelV (o.getD d) w' → Q w' s') :
    wpAny (model X.prog X.w) A (call (.builtin "dict.get") [.ref a, u, r]) Q E s := by
  rcases g with ⟨kvs, k, e, ey, l⟩ | ⟨kvs, k, b, e, ey, eb, l⟩
  · subst ey
    obtain ⟨z, hd, vs, rel, dd⟩ := dk_rd I.hok e
    refine call_meetsIn PySem.F.slot_dict_get dd.typeIs PySem.F.entry_dict_get (PySem.F.args_dict_get_3 _ _ _) (meets_dict_get_default (mixKind X.prog X.w) a (kV_is ry) hd r) ⟨_, dd.mapOf, h _ _ (I.tok _) ?_⟩
    rw [l]
    exact (rel.val k).getD rd
  · subst ey
    cases (show u = Value.ref b from ry)
    obtain ⟨z, hd, xs, rel, dd⟩ := dt_rd I.hok e
    refine call_meetsIn PySem.F.slot_dict_get dd.typeIs PySem.F.entry_dict_get (PySem.F.args_dict_get_3 _ _ _) (meetsH_dict_get_default (tupleKind (mixKind X.prog X.w)) a b hd r) ⟨tupleKind_room_in1 hu, k, xs, key_of I.hok eb, dd, h _ _ (I.tok _) ?_⟩
    rw [l]
    exact (rel.val k).getD rd
end
def tDGet1 (td ty : TE) : TE := fun σ H Q => td σ H fun x H1 => ∃ a, x = .ref a ∧ IsD H1 a ∧ ty σ H1 fun y H2 => ∃ o, DGet H2 a y o ∧ Q (o.getD .non) H2
def tDGet2 (td ty tx : TE) : TE := fun σ H Q => td σ H fun x H1 => ∃ a, x = .ref a ∧ IsD H1 a ∧ ty σ H1 fun y H2 => tx σ H2 fun z H3 => ∃ o, DGet H3 a y o ∧ Q (o.getD z) H3
def tDPop1 (td ty : TE) : TE := fun σ H Q => td σ H fun x H1 => ∃ a, x = .ref a ∧ IsD H1 a ∧ ty σ H1 fun y H2 => ∃ kvs k v, H2 a = some (.dK kvs) ∧ y = kV k ∧ valV kvs k = some v ∧ Q v (upd H2 a (.dK (dropK kvs k)))
def tDPop2 (td ty tx : TE) : TE := fun σ H Q => td σ H fun x H1 => ∃ a, x = .ref a ∧ IsD H1 a ∧ ty σ H1 fun y H2 => tx σ H2 fun z H3 => ∃ kvs k, H3 a = some (.dK kvs) ∧ y = kV k ∧
  (∀ v, valV kvs k = some v → Q v (upd H3 a (.dK (dropK kvs k)))) ∧ (valV kvs k = none → Q z H3)
section
variable {X : Cx} {o e f : Expr} {apos cpos : Pos} {td ty tx : TE}
theorem pe_dget2 (hu : X.A.units + 1 < cLine) (ho : PE X o td) (he : PE X e ty) (hf : PE X f tx) (m : M2 X o "get" apos e f cpos) : PE X (.Call (.Attribute o "get" apos) [e, f] [] cpos) (tDGet2 td ty tx) := by
  intro pins s σ H Q I h
  refine wpAny_Call_method m.base m.few m.line PySem.F.plainAttrs_dict PySem.F.slot_dict_get PySem.F.type_dict_get (thn (ho pins s σ H _ I h) fun u s1 ⟨x, H1, I1, rx, a, ex, d, q1⟩ => ?_)
  subst ex
  obtain rfl : u = Value.ref a := rx
  obtain ⟨t1, t2, _⟩ := isD_at I1 d
  refine ⟨t1, t2, ?_⟩
  rw [m.trees]
  refine Calls.callWith_builtin rfl (Calls.evalArgs_plain (Calls.spliced_cons (thn (he pins s1 σ H1 _ I1 q1) fun iv s2 ⟨y, H2, I2, ry, q2⟩ =>
    Calls.spliced_cons (thn (hf pins s2 σ H2 _ I2 q2) fun fv s3 ⟨z, H3, I3, rz, ov, g, q3⟩ => Calls.spliced_nil ?_))))
  exact d_get2 hu I3 g ry rz fun w' s4 I4 rw' => ⟨_, H3, I4, rw', q3⟩
end
section
variable {X : Cx} {pins : List (Addr × Obj)} {σ : St} {H : Hp} {s : Shared} {a : Addr} {kvs : List (Key × V)} {A : Around} {E : Value → Shared → Prop}
theorem d_copyOf {Q : Value → Shared → Prop} (I : Inv X pins σ H s) (e : Rd H a (.dK kvs)) (h : ∀ p s', H p = none → Inv X pins σ (upd H p (.dK kvs)) s' → Q (.ref p) s') : wpAny (model X.prog X.w) A (call (.type "dict") [.ref a]) Q E s := by
  obtain ⟨z, hd, vs, rel, dd⟩ := dk_rd I.hok e
  refine kt_call_dict hd dd (by rw [← rel.length]; exact z) fun h' dd' hs => ?_
  refine h _ _ (I.hok.fresh (Nat.le_refl _)) (I.laid (a := s.heap.objs.size) (o := .dK kvs) (t' := s.toks) (fun b q hq => ?_) (Nat.le_refl _) (dk_new z (beq_eq_false_iff_ne.mpr (Ne.symm (Nat.ne_of_lt I.big))) rel dd'))
  exact (hs.2 b (Nat.ne_of_lt (Heap.lt_size hq))).trans (Heap.get?_push_of_some _ hq)
end
section
variable {X : Cx} {pins : List (Addr × Obj)} {σ : St} {H : Hp} {s : Shared} {a : Addr} {y : V} {u : Value} {A : Around} {E : Value → Shared → Prop}
end
end L2
namespace Att
open PySem PySem.W PySem.Calls PyProof.Rows
theorem ints_of_wellAll {P : Params} {h : Heap} : ∀ (ns : List Int) (vs : List Value), WellAll P h vs (ns.map WData.int) → IntsAre vs ns := by
  intro ns
  induction ns with
  | nil =>
    intro vs w
    rw [List.map_nil] at w
    cases w
    exact .nil
  | cons n ns ih =>
    intro vs w
    rw [List.map_cons] at w
    cases w with
    | cons a b =>
      cases a
      exact .cons _ _ (ih _ b)
theorem script_of {l : OpenLaw} {n : Nat} (hn : l.most = some n) {P : Params} {h : Heap} {args : List WData} {vals : List Value}
    (hpre : l.row.toRowW.claim.pre args = true) (hwl : WellAll P h vals args) :
    ∃ a vs ns, vals = [Value.ref a] ∧ args = [WData.list (ns.map WData.int)] ∧ h.get? a = some { cls := .type "list", data := .seq vs.toArray } ∧ IntsAre vs ns ∧ ns.length ≤ n := by
  have hsh : WShape.hasAll [] args [.list .int] = true := (pre_splitW hpre).1
  have hc : l.pre.holds [] { args := args } = true := (pre_splitW hpre).2
  obtain ⟨d, r, rfl, h1, h2⟩ := hasAllW_cons hsh
  obtain rfl := hasAllW_nil h2
  obtain ⟨xs, rfl, h3⟩ := hasW_list h1
  obtain ⟨ns, rfl⟩ := items_int h3
  have hlen : ns.length ≤ n := by
    unfold OpenLaw.pre at hc
    have h4 : (WTm.not (.lt (.lit (.int (n : Int))) (.len (.arg 0)))).holds [] { args := [.list (ns.map .int)] } = true := by
      have h4 := (holds_andW hc).1
      rw [hn] at h4
      exact h4
    have h5 := condW_of h4 (w_not (w_lt w_lit (w_len_list (w_arg rfl))))
    rw [List.length_map] at h5
    refine Nat.le_of_not_lt fun q => ?_
    have q' : (n : Int) < ((ns.length : Nat) : Int) := by omega
    first
      | (rw [decide_eq_true q'] at h5; exact absurd h5 (by decide))
      | (simp at h5; omega)
  cases hwl with
  | cons w1 w2 =>
    cases w2
    cases w1 with
    | list ho hall => exact ⟨_, _, ns, rfl, rfl, ho, ints_of_wellAll ns _ hall, hlen⟩
theorem post_true (l : OpenLaw) (args : List WData) : l.row.toRowW.claim.post args (.bool true) args = true :=
  postW_of (r := l.row.toRowW) (X := (true == true))
    (show WShape.has [] (.bool true) .bool = true by first | rfl | decide | simp [WShape.has, WShape.arms, WShape.armsAll])
    (show (WTm.eq .res (.lit (.bool true))).value [] { args := args, res := some (.bool true), after := args } = some (.bool (true == true)) from w_eq_bool (w_res rfl) w_lit) rfl
theorem attach_call {l : OpenLaw} {n : Nat} {q : Program} {loose : List Str} {XP : (Str → Option Value) → Heap → Prop} {YP : World → Heap → Prop} {d : DefRec}
    (hn : l.most = some n) (hdf : d.params.defaults = [])
    (call : ∀ (w : World) (s₀ s₁ : Shared) (mg mb : Str → Option Value) (fa : Addr) (o : Obj) (pm cd doc : Value) (a : Addr) (vs : List Value) (ns : List Int),
      Ground q loose [] XP w s₀ mg mb s₁.heap → YP w s₁.heap →
      s₁.heap.get? fa = some o → o.data = .func (docDef d.name d.params d.body d.scope pm cd doc) → s₁.heap.CodeRec cd d.name → mg d.name = some (.ref fa) →
      s₁.heap.get? a = some { cls := .type "list", data := .seq vs.toArray } → IntsAre vs ns → ns.length ≤ n → s₁.gens = #[] →
      codeAny (model l.prog w) callerA (.call (.ref fa) ⟨[.ref a], []⟩) (fun r s' => r = .ok (.ret (.bool true)) ∧ OldK s₁.heap s'.heap ∧ s'.os = s₁.os ∧ AllBare s'.gens) s₁) :
    WalkO q loose XP YP l.row.toRowW d [] (fun f vs => PySem.call f vs) := by
  intro w s₀ s₁ mg mb G Y fa o pm cd doc dV kV ho hd hcd hD hmg hg args vals as hpre hlay hrd hwl hlo
  obtain rfl : dV = .none := Dflts.none hD hdf
  obtain rfl : kV = .none := Dflts.noKw hD
  obtain ⟨a, vs, ns, rfl, rfl, hobj, hints, hlen⟩ := script_of hn hpre hwl
  refine enter_call (codeAny_mono (call w s₀ s₁ mg mb fa o pm cd doc a vs ns G Y ho (fd_plain hd) hcd hmg hobj hints hlen hg) fun r s' hq => ?_)
  obtain ⟨rfl, h2, h3, h4⟩ := hq
  exact ⟨.inl ⟨.bool true, .bool true, [], rfl, fun _ => rfl, .bool true, post_true l _, fun _ => ⟨List.Pairwise.nil, fun _ hm => (nomatch hm)⟩⟩, h2, h3, h4⟩
section
variable {prog : Program} {w : World} {A : Around} {E : Value → Shared → Prop} {s : Shared} {K : Frag}
def noObjs (h : Heap) : Heap := { h with objs := #[] }
def ledger (h : Heap) (L d : Addr) : List (Addr × Obj) := (List.range h.objs.size).filterMap fun a => if a = L ∨ a = d then none else (h.get? a).map fun o => (a, o)
end
end Att
namespace L2
open PySem PySem.Spec PyProof.Rows
theorem vals_ints : ∀ {vs : List Value} {ns : List Int}, IntsAre vs ns → Vals (ns.map V.int) vs
  | _, _, .nil => .nil
  | _, _, .cons n t h => .cons ⟨t, rfl⟩ (vals_ints h)
def Only (H : Hp) : Prop := ∀ b, H b = none ∨ ∃ o xs, H b = some (.frz o (.lst xs))
theorem law_call {P : Program} {w : World} {K : PySem.W.Frag} {mg mb : Str → Option Value} {CX : CXT} {k : Nat} {fa a : Addr} {fd : FuncData} {x : Str} {sp : Sp} {s₁ : Shared} {vs : List Value} {ns : List Int}
    (KX : K.In s₁.heap) (hns : s₁.heap.Ns mainGlobals mg) (hb : s₁.heap.Ns builtinsNs mb) (hbb : ∀ x : Str, x ≠ "__name__" → mb x = bootBuiltins x) (hlim : s₁.heap.NoLimit) (hg : s₁.gens = #[])
    (ha : s₁.heap.get? a = some { cls := .type "list", data := .seq vs.toArray }) (hi : IntsAre vs ns) (hl : ns.length ≤ sizeLine) (hr : Room k callerA)
    (F : ∀ base : Heap, K.In base → base.Ns mainGlobals mg → FnOk P w K mg base CX k fa fd [x] sp) (hbind : ∀ (s : Shared) (u : Value), BindsTo s fd ⟨[u], []⟩ [(x, u)])
    (hsp : ∀ H : Hp, Only H → SqL K H a (ns.map V.int) → sp [.ref a] H (fun v _ => v = .bl true) fun _ _ _ => False)
    (hCX : ∀ H e s', CX [] H s₁ (fun _ _ _ => False) e s' → False) :
    codeAny (model P w) callerA (.call (.ref fa) ⟨[.ref a], []⟩) (fun r s' => r = .ok (.ret (.bool true)) ∧ OldK s₁.heap s'.heap ∧ s'.os = s₁.os ∧ AllBare s'.gens) s₁ := by
  have rv := vals_ints hi
  have lenV := hi.length
  have core : ∀ H : Hp, Only H → SqL K H a (ns.map V.int) → HOk P w H s₁.heap → (∀ b, H b ≠ none → b = a) → (H a ≠ none → K.lookup a = none) →
      codeAny (model P w) callerA (.call (.ref fa) ⟨[.ref a], []⟩) (fun r s' => r = .ok (.ret (.bool true)) ∧ OldK s₁.heap s'.heap ∧ s'.os = s₁.os ∧ AllBare s'.gens) s₁ := by
    intro H hO hS hok hA hK
    have base_of : ∀ {b : Addr} {o : Obj}, s₁.heap.get? b = some o → H b = none → (hidT s₁.heap H).get? b = some o := fun e n => hidT_get e n
    have noA : ∀ {b : Addr} {o : Obj} {es : Array DictEntry} {ep : Nat}, s₁.heap.get? b = some o → o.data = .dict es ep → H b = none := fun {b o es ep} e d => by
      cases q : H b with
      | none => rfl
      | some u =>
        have e' : b = a := hA b (by rw [q]; simp)
        subst e'
        rw [ha] at e; cases e
        have d' : Data.seq vs.toArray _ = Data.dict es ep := d
        cases d'
    have nsK : ∀ {b : Addr} {m : Str → Option Value}, s₁.heap.Ns b m → (hidT s₁.heap H).Ns b m := fun {b m} ⟨o, es, ep, e, d, r⟩ => ⟨o, es, ep, base_of e (noA e d), d, r⟩
    have hKb : K.In (hidT s₁.heap H) := fun b o e => base_of (KX b o e) (by
      cases q : H b with
      | none => rfl
      | some u =>
        have e' : b = a := hA b (by rw [q]; simp)
        subst e'
        rw [hK (by rw [q]; simp)] at e; cases e)
    have hM : Mod K mg (hidT s₁.heap H) := ⟨hKb, nsK hns, ⟨mb, nsK hb, hbb⟩, let ⟨mc, h1, h2⟩ := hlim; ⟨mc, nsK h1, h2⟩⟩
    have e0 : Env0 P w K mg (hidT s₁.heap H) callerA [] s₁ H := ⟨rfl, hM, fun b o e => of_hidT e, Nat.le_of_eq (hidT_size _ _), trivial, fun b hb => absurd (show b ∈ ([] : List Addr) from hb) (by simp), hok, .of_eq hg⟩
    refine codeAny_mono ((F _ hKb (nsK hns)).run callerA [] s₁ H ⟨[.ref a], []⟩ [.ref a] [.ref a] _ _ hr e0 (hbind s₁ (.ref a)) (.cons rfl .nil) (hsp H hO hS)) fun r s' h => ?_
    cases r with
    | error e => exact (hCX H e s' h).elim
    | ok fl =>
      cases fl with
      | next => exact False.elim h
      | brk => exact False.elim h
      | cont => exact False.elim h
      | ret u =>
        obtain ⟨v, H', os, bare, un, hok', r', q⟩ := h
        have q' : v = .bl true := q
        subst q'
        obtain rfl : u = Value.bool true := r'
        refine ⟨rfl, OldK.of_keep fun b o e => ?_, os, bare⟩
        cases q : H b with
        | none => exact un.keep b o e q (by intro z; exact absurd (show b ∈ ([] : List Addr) from z) (by simp)) (by simp)
        | some u =>
          rcases hO b with z | ⟨ob, xs, z⟩
          · rw [q] at z; cases z
          · have z2 := un.frzs b ob _ z
            obtain ⟨e1, _⟩ := hok b _ z
            obtain ⟨e2, _⟩ := hok' b _ z2
            rw [e] at e1; cases e1
            exact e2
  cases hk : K.lookup a with
  | some o =>
    have e := KX a o hk
    rw [ha] at e
    cases e
    refine core (fun _ => none) (fun _ => .inl rfl) (.inr ⟨_, vs.toArray, _, hk, rfl, rfl, rfl, by rw [List.size_toArray, lenV]; exact hl, by simpa using rv⟩) (fun b u z => by have z' : (none : Option HO) = some u := z; cases z') (fun b z => absurd rfl z) fun z => absurd rfl z
  | none =>
    refine core (fun b => if b = a then some (.frz { cls := .type "list", data := .seq vs.toArray } (.lst (ns.map V.int))) else none) (fun b => ?_) (.inl (.inr ⟨{ cls := .type "list", data := .seq vs.toArray }, if_pos rfl⟩)) (fun b u z => ?_) (fun b z => ?_) fun _ => hk
    · by_cases hb : b = a
      · exact .inr ⟨_, _, if_pos hb⟩
      · exact .inl (if_neg hb)
    · by_cases hb : b = a
      · have z' := (if_pos hb).symm.trans z
        cases z'
        subst hb
        exact ⟨ha, by rw [List.length_map]; exact hl, vs, _, rv, ha⟩
      · have z' := (if_neg hb).symm.trans z
        cases z'
    · by_cases hb : b = a
      · exact hb
      · exact absurd (if_neg hb) z
end L2
namespace L2
open PySem PySem.Spec PyProof.Rows
abbrev KOf {K : PySem.W.Frag} {h : Heap} (_ : K.In h) : PySem.W.Frag := K
theorem walk_of {l : PySem.W.OpenLaw} {n k : Nat} {q : Program} {loose : List Str} {XP : (Str → Option Value) → Heap → Prop} {YP : World → Heap → Prop} {d : DefRec} {K : Params → PySem.W.Frag} {CX : World → CXT} {sp : World → Sp} {x : Str}
    (hn : l.most = some n) (hn2 : n ≤ sizeLine) (hdf : d.params.defaults = []) (hr : Room k callerA)
    (hY : ∀ (w : World) (h : Heap), YP w h → (K w.params).In h)
    (F : ∀ (w : World) (mg : Str → Option Value) (fa : Addr) (h : Heap), (K w.params).In h → h.Ns mainGlobals mg → mg d.name = some (.ref fa) →
      ∃ fd : FuncData, (∀ (s : Shared) (u : Value), BindsTo s fd ⟨[u], []⟩ [(x, u)]) ∧
        ∀ base : Heap, (K w.params).In base → base.Ns mainGlobals mg → FnOk l.prog w (K w.params) mg base (CX w) k fa fd [x] (sp w))
    (hsp : ∀ (w : World) (H : Hp) (a : Addr) (ns : List Int), ns.length ≤ n → Only H → SqL (K w.params) H a (ns.map V.int) → sp w [.ref a] H (fun v _ => v = .bl true) fun _ _ _ => False)
    (hCX : ∀ (w : World) (H : Hp) (s : Shared) (e : Value) (s' : Shared), CX w [] H s (fun _ _ _ => False) e s' → False) :
    PySem.W.WalkO q loose XP YP l.row.toRowW d [] (fun f vs => PySem.call f vs) := by
  refine Att.attach_call hn hdf fun w s₀ s₁ mg mb fa o pm cd doc a vs ns G Y ho hd hcd hmg hobj hints hlen hg => ?_
  have KX := hY w _ Y
  obtain ⟨fd, hb, hF⟩ := F w mg fa _ KX G.T.g hmg
  exact law_call KX G.T.g G.T.b G.T.builtins G.T.nolimit hg hobj hints (Nat.le_trans hlen hn2) hr hF hb (fun H hO hS => hsp w H a ns hlen hO hS) fun H e s' => hCX w H s₁ e s'
end L2
namespace L2
open PySem PySem.Spec PyProof.Rows
def inClass (s : Stmt) (j : Nat) : Stmt := match s with
  | .ClassDef _ _ _ body _ _ _ _ _ _ _ => body.getD j (.Pass ⟨0, 0, 0, 0⟩)
  | _ => .Pass ⟨0, 0, 0, 0⟩
def defArgs (s : Stmt) : Arguments := match s with
  | .FunctionDef _ a _ _ _ _ _ _ _ _ => a
  | _ => { posonlyargs := [], args := [], vararg := none, kwonlyargs := [], kw_defaults := [], kwarg := none, defaults := [] }
def defBody (s : Stmt) : List Stmt := match s with
  | .FunctionDef _ _ b _ _ _ _ _ _ _ => b
  | _ => []
def defScope (s : Stmt) : Scope := match s with
  | .FunctionDef _ _ _ _ _ _ sc _ _ _ => sc
  | _ => { kind := .function, names := [], isGenerator := false, isCoroutine := false }
abbrev CX0 : CXT := fun _ _ _ _ _ _ => False
abbrev E0 : XK := fun _ _ _ => False
theorem pass0 {X : Cx} : Passes CX0 X E0 := fun _ _ _ _ _ _ _ h => h.elim
structure Fun (K : PySem.W.Frag) (x qual : Str) (st : Stmt) (f : Addr) (fd : FuncData) : Prop where
  ex : ∃ (oc : Value) (od : Option Addr) (kV doc pm : Value) (an : Option Addr) (cdv ct : Value) (osl : Array (Option Value)),
    fd = PySem.W.fnOf x qual (defArgs st) (defBody st) (defScope st) .none kV doc pm an cdv ct ∧ K.lookup f = some ⟨oc, od, .func fd, osl⟩ ∧ PySem.W.codeIn K cdv qual = true
  kp : PySem.W.keepIn K (.ref f) = true
section
variable {P : Program} {w : World} {K : PySem.W.Frag} {mg : Str → Option Value} {base : Heap}
theorem Fun.ok {x qual : Str} {st : Stmt} {f : Addr} {fd : FuncData} {N ps : List Str} {k : Nat} {sp : Sp} (F : Fun K x qual st f fd) (S : FnScope N ps (defScope st)) (len : ∀ vs H Q E, sp vs H Q E → vs.length = ps.length)
    (hbody : ∀ (cdv : Value) (A : Around) (outer : List Env) (s : Shared) (H : Hp) (vs : List V) (Q : VK) (E : XK), Room k (A.deeper (envOfC qual (defScope st) s.heap.objs.size f cdv)) → sp vs H Q E →
      ∃ t, PSs (cxOf CX0 P w K mg base N qual (defScope st) f cdv A outer s H E).nox (defBody st) t ∧ t { nx := fun _ H' => Q .non H', rt := Q } (start N vs) H) : FnOk P w K mg base CX0 (k + 1) f fd ps sp := by
  obtain ⟨oc, od, kV, doc, pm, an, cdv, ct, osl, rfl, lk, hcd⟩ := F.ex
  refine fn_of lk hcd S len fun A outer s H vs Q E hr hsp => ?_
  obtain ⟨t, h, q⟩ := hbody cdv A outer s H vs Q E hr hsp
  exact ⟨t, h.nox, q⟩
theorem Fun.binds {x qual : Str} {st : Stmt} {f : Addr} {fd : FuncData} {ps : List Str} (F : Fun K x qual st f fd)
    (h : ∀ (kV doc pm : Value) (an : Option Addr) (cdv ct : Value) (us : List Value), us.length = ps.length → bindArgs (PySem.W.fnOf x qual (defArgs st) (defBody st) (defScope st) .none kV doc pm an cdv ct) ⟨us, []⟩ = pure (ps.zip us)) : Binds K fd ps [] := by
  obtain ⟨oc, od, kV, doc, pm, an, cdv, ct, osl, rfl, lk, hcd⟩ := F.ex
  exact .all (h kV doc pm an cdv ct)
theorem fun_mk {x qual : Str} {st : Stmt} {f : Addr} {oc : Value} {od an : Option Addr} {osl : Array (Option Value)} {kV doc pm cdv ct : Value} (l : K.lookup f = some ⟨oc, od, .func (PySem.W.fnOf x qual (defArgs st) (defBody st) (defScope st) .none kV doc pm an cdv ct), osl⟩)
    (c : PySem.W.codeIn K cdv qual = true) (k : PySem.W.keepIn K (.ref f) = true) : Fun K x qual st f (PySem.W.fnOf x qual (defArgs st) (defBody st) (defScope st) .none kV doc pm an cdv ct) := ⟨⟨oc, od, kV, doc, pm, an, cdv, ct, osl, rfl, l, c⟩, k⟩
end
theorem hu_of {A : Around} {k : Nat} (hr : Room k A) : A.units + 1 < cLine := Nat.lt_of_le_of_lt (Nat.add_le_add_left (by decide : 1 ≤ 64) _) hr.units
theorem small1000 {n : Nat} (h : n ≤ 1000) : n < sizeLine := Nat.lt_of_le_of_lt h (by decide)
section
variable {X : Cx}
theorem pv (i : Nat) {x : Str} {pos : Pos} (hN : X.N[i]? = some x := by rfl) (hv : Vis X.env.scope x := by first | exact Or.inl rfl | exact Or.inr (Or.inl rfl) | exact Or.inr (Or.inr rfl)) (hd : (x == ("__debug__" : Str)) = false := by decide)
    (hcd : (x == ("__classdict__" : Str)) = false := by decide) : PE X (.Name x pos) (tVar i) := pe_var hN hv hd hcd
end
theorem iteF {A B : Prop} (h : B) : if false = true then A else B := by
  rw [if_neg Bool.false_ne_true]
  exact h
theorem iteT {A B : Prop} (h : A) : if true = true then A else B := by
  rw [if_pos rfl]
  exact h
theorem ite2 {c A B : Prop} [Decidable c] (h1 : c → A) (h2 : ¬ c → B) : if c then A else B := by
  by_cases h : c
  · rw [if_pos h]
    exact h1 h
  · rw [if_neg h]
    exact h2 h
theorem iteNS {c A B : Prop} [Decidable c] (hc : c) (h : B) : if (!decide c) = true then A else B := by
  rw [decide_eq_true hc]
  exact iteF h
def Same (H H' : Hp) : Prop := ∀ b o, H b = some o → H' b = some o
theorem Same.refl (H : Hp) : Same H H := fun _ _ h => h
theorem Same.trans {H H1 H2 : Hp} (a : Same H H1) (b : Same H1 H2) : Same H H2 := fun c o h => b c o (a c o h)
theorem Same.free {H H' : Hp} (e : Same H H') {l : Addr} (h : H' l = Option.none) : H l = Option.none := by
  cases q : H l with
  | none => rfl
  | some o =>
    rw [e l o q] at h
    cases h
theorem Same.seq {K : PySem.W.Frag} {H H' : Hp} {a : Addr} {xs : List V} (e : Same H H') (h : SqL K H a xs) : SqL K H' a xs := by
  rcases h with (h | ⟨o, h⟩) | h
  · exact .inl (.inl (e _ _ h))
  · exact .inl (.inr ⟨o, e _ _ h⟩)
  · exact .inr h
section
variable {κ : Type} [DecidableEq κ]
end
end L2
set_option Elab.async false
set_option linter.all false
set_option maxRecDepth 100000
set_option maxHeartbeats 4000000
namespace L2
open PySem PySem.Spec PyProof.Rows
abbrev NoX : Value → Shared → Prop := fun _ _ => False
theorem noX {al : Type} {t : Sem al} {Q : al → Shared → Prop} {M : Model} {A : Around} {E : Value → Shared → Prop} {s : Shared} (h : wpAny M A t Q NoX s) : wpAny M A t Q E s :=
  wpAny_mono h (fun _ _ q => q) fun _ _ z => z.elim
def capSt (cap : List (Option Nat)) (σ : St) : St := cap.map fun o => match o with
  | none => none
  | some j => (σ[j]?).join
inductive Ext : St → St → Prop
  | nil : Ext [] []
  | skip {a b : St} {x : Option V} : Ext a b → Ext (none :: a) (x :: b)
  | keep {a b : St} {x : Option V} : Ext a b → Ext (x :: a) (x :: b)
theorem Ext.len {a b : St} (h : Ext a b) : a.length = b.length := by
  induction h with
  | nil => rfl
  | skip _ ih => simp [ih]
  | keep _ ih => simp [ih]
theorem Ext.get {a b : St} (h : Ext a b) : ∀ (i : Nat) v, a[i]? = some (some v) → b[i]? = some (some v) := by
  induction h with
  | nil => intro i v e; simp at e
  | skip _ ih =>
    intro i v e
    cases i with
    | zero => simp at e
    | succ i => simpa using ih i v (by simpa using e)
  | keep _ ih =>
    intro i v e
    cases i with
    | zero => simpa using e
    | succ i => simpa using ih i v (by simpa using e)
def Cx.block (X : Cx) (sc : Scope) (cl : List (Str × Addr)) (N : List Str) (s : Shared) (H : Hp) (C : Addr) (ex : List Addr) : Cx where
  prog := X.prog
  w := X.w
  K := X.K
  mg := X.mg
  base := X.base
  A := X.A
  N := N
  s₀ := s
  H₀ := H
  env := compEnvC sc cl C X.env
  outer := X.stack
  stack := X.stack
  ex := ex
  fn := fun _ => false
  calm := X.calm
  pn := []
  xe := NoX
theorem closure_ok {env : Env} : ∀ (names : List (Str × NameKind)) (cs : List (Str × Addr)), (∀ n, (n, NameKind.free) ∈ names → ∃ c, env.cells.lookup n = some c) →
    (∀ x c, cs.lookup x = some c → env.cells.lookup x = some c) →
    ∃ cl : List (Str × Addr), (forIn names cs fun (x : Str × NameKind) (r : List (Str × Addr)) => (if (x.2 == NameKind.free) = true then do let c ← cellOf env x.1; pure (ForInStep.yield ((x.1, c) :: r)) else pure (ForInStep.yield r)) : Sem (List (Str × Addr))) = pure cl ∧
      (∀ x c, cl.lookup x = some c → env.cells.lookup x = some c) ∧ (∀ n, (n, NameKind.free) ∈ names → ∃ c, cl.lookup n = some c) ∧ (∀ n c, cs.lookup n = some c → ∃ c, cl.lookup n = some c)
  | [], cs, _, hc => ⟨cs, rfl, hc, fun _ h => (nomatch h), fun n c e => ⟨c, e⟩⟩
  | (n, k) :: r, cs, h, hc => by
    by_cases hk : k = .free
    · subst hk
      obtain ⟨c, ec⟩ := h n List.mem_cons_self
      have hc' : ∀ x c', ((n, c) :: cs).lookup x = some c' → env.cells.lookup x = some c' := fun x c' e => by
        rw [List.lookup_cons] at e
        cases hx : x == n with
        | true => rw [hx] at e; cases e; rw [eq_of_beq hx]; exact ec
        | false => rw [hx] at e; exact hc x c' e
      obtain ⟨cl, e1, e2, e3, e4⟩ := closure_ok r ((n, c) :: cs) (fun m hm => h m (List.mem_cons_of_mem _ hm)) hc'
      refine ⟨cl, ?_, e2, fun m hm => ?_, fun m c' e => ?_⟩
      · rw [List.forIn_cons, ← e1]
        simp only [beq_self_eq_true, if_true, cellOf, ec]
        rfl
      · rcases List.mem_cons.mp hm with z | z
        · cases z
          exact e4 n c (by simp)
        · exact e3 m z
      · by_cases hm : m = n
        · subst hm; exact e4 m c (by simp)
        · exact e4 m c' (by rw [List.lookup_cons, beq_eq_false_iff_ne.mpr hm]; exact e)
    · have hb : (k == NameKind.free) = false := by simpa using hk
      obtain ⟨cl, e1, e2, e3, e4⟩ := closure_ok r cs (fun m hm => h m (List.mem_cons_of_mem _ hm)) hc
      refine ⟨cl, ?_, e2, fun m hm => ?_, e4⟩
      · rw [List.forIn_cons, ← e1]
        simp only [hb, Bool.false_eq_true, if_false]
        rfl
      · rcases List.mem_cons.mp hm with z | z
        · cases z; exact absurd rfl hk
        · exact e3 m z
theorem closure_of {sc : Scope} {env : Env} (h : ∀ n, (n, NameKind.free) ∈ sc.names → ∃ c, env.cells.lookup n = some c) :
    ∃ cl : List (Str × Addr), closureFor sc env = pure cl ∧ (∀ x c, cl.lookup x = some c → env.cells.lookup x = some c) ∧ (∀ n, (n, NameKind.free) ∈ sc.names → ∃ c, cl.lookup n = some c) := by
  obtain ⟨cl, e1, e2, e3, _⟩ := closure_ok (env := env) sc.names [] h (fun x c e => by simp at e)
  refine ⟨cl, ?_, e2, e3⟩
  unfold closureFor
  rw [← bind_pure (pure cl), ← e1]
theorem lookup_mem {names : List (Str × NameKind)} {x : Str} {k : NameKind} (h : names.lookup x = some k) : (x, k) ∈ names := by
  induction names with
  | nil => simp at h
  | cons p r ih =>
    obtain ⟨n, j⟩ := p
    rw [List.lookup_cons] at h
    cases hx : x == n with
    | true => rw [hx] at h; cases h; rw [eq_of_beq hx]; exact List.mem_cons_self
    | false => rw [hx] at h; exact List.mem_cons_of_mem _ (ih h)
theorem relabel_free {sc : Scope} {env : Env} {x : Str} {k : NameKind} (hk : k = .cell ∨ k = .free) (nc : ∀ y ∈ sc.names, y.2 ≠ .cell) (h : (relabel sc env).names.lookup x = some k) : (x, NameKind.free) ∈ sc.names := by
  have m := lookup_mem h
  obtain ⟨⟨n, j⟩, hm, e⟩ := List.mem_map.mp m
  have q : (if (j == NameKind.free && env.scope.kind == .function && env.kindOf n == some .cell) = true then (n, NameKind.cell) else (n, j)) = (x, k) := e
  split at q
  · rename_i c
    rw [Bool.and_eq_true, Bool.and_eq_true] at c
    have j' : j = .free := by simpa using c.1.1
    cases q
    rw [j'] at hm
    exact hm
  · cases q
    rcases hk with z | z
    · exact absurd z (nc _ hm)
    · rw [z] at hm; exact hm
theorem lookup_relabel_free {sc : Scope} {env : Env} {x : Str} : ∀ {names : List (Str × NameKind)}, names.lookup x = some .free →
    (names.map fun (n, k) => if (k == NameKind.free && env.scope.kind == .function && env.kindOf n == some .cell) then (n, NameKind.cell) else (n, k)).lookup x = some .cell ∨
    (names.map fun (n, k) => if (k == NameKind.free && env.scope.kind == .function && env.kindOf n == some .cell) then (n, NameKind.cell) else (n, k)).lookup x = some .free
  | [], h => by simp at h
  | (n, k) :: r, h => by
    have ih := @lookup_relabel_free sc env x r
    rw [List.lookup_cons] at h
    by_cases c : (k == NameKind.free && env.scope.kind == .function && env.kindOf n == some .cell) = true
    · rw [List.map_cons]
      simp only [c, if_true, List.lookup_cons]
      cases hx : x == n with
      | true => exact .inl rfl
      | false => rw [hx] at h; exact ih h
    · rw [List.map_cons]
      have c' := Bool.eq_false_iff.mpr c
      simp only [c', Bool.false_eq_true, if_false, List.lookup_cons]
      cases hx : x == n with
      | true => rw [hx] at h; cases h; exact .inr rfl
      | false => rw [hx] at h; exact ih h
theorem comp_loop {P : Program} {w : World} {A : Around} {R : Result → Shared → Prop} {s : Shared} {elt tg iter : Expr} {ifs : List Expr} {sc : Scope} {pos : Pos} {it acc : Value} {env : Env} (J : Nat → Shared → Prop)
    (turn : ∀ n s, J n s → wpAny (model P w) A (pyNext it) (fun r s1 => match r with
      | none => R (.ok .next) s1
      | some v => wpAny (model P w) A (letOwnedTupleGo tg it v) (fun _ s2 => wpAny (model P w) A (assign tg env v) (fun _ s3 =>
          wpAny (model P w) A (forIn ifs true fun c r => if r = true then do let ok ← isTrue c env (eval c env); pure (ForInStep.yield ok) else pure (ForInStep.yield r)) (fun ok s4 =>
            if ok = true then wpAny (model P w) A (eval elt env) (fun x s5 => wpAny (model P w) A (call (.builtin "list.append") [acc, x]) (fun _ s6 => ∃ m, m < n ∧ J m s6) NoX s5) NoX s4
            else ∃ m, m < n ∧ J m s4) NoX s3) NoX s2) NoX s1) NoX s) (n : Nat) (h : J n s) :
    codeAny (model P w) A (.compLoop (.ListComp elt [⟨tg, iter, ifs, 0⟩] sc pos) 0 it acc env) R s := by
  refine codeAny_loop rfl J (fun n s hJ => ?_) n h
  refine wpAny_noted ?_
  rw [compTurn_list]
  refine wpAny_bind (wpAny_standAt (wpAny_bind (noX (thn (turn n s hJ) fun r s1 h1 => ?_))))
  cases r with
  | none => exact wpAny_pure h1
  | some v =>
    refine wpAny_bind (noX (thn h1 fun _ s2 h2 => ?_))
    refine wpAny_bind (noX (thn h2 fun _ s3 h3 => ?_))
    refine wpAny_bind (noX (thn h3 fun ok s4 h4 => ?_))
    cases ok with
    | false => exact wpAny_pure ⟨rfl, h4⟩
    | true => exact wpAny_bind (wpAny_bind (noX (thn h4 fun x s5 h5 => wpAny_bind (noX (thn h5 fun _ s6 h6 => wpAny_pure (wpAny_pure ⟨rfl, h6⟩))))))
def PTs (X : Cx) (ifs : List Expr) (t : TT) : Prop :=
  ∀ (pins : List (Addr × Obj)) (s : Shared) (σ : St) (H : Hp) (Q : Bool → Hp → Prop), Inv X pins σ H s → t σ H Q →
    wpAny (model X.prog X.w) X.A (forIn ifs true fun c r => if r = true then do let ok ← isTrue c X.env (eval c X.env); pure (ForInStep.yield ok) else pure (ForInStep.yield r)) (TP X pins σ Q) X.xe s
def tYes : TT := fun _ H Q => Q true H
theorem pts_nil {X : Cx} : PTs X [] tYes := fun _ _ _ H _ I h => wpAny_tests_nil ⟨H, I, h⟩
def tComp (cap : List (Option Nat)) (wi : TI) (g : TG) (tt : TT) (te : TE) : TE := fun σ H Q => wi σ H fun J H1 => ∀ acc, H1 acc = none →
  ∃ W : Nat → Nat → Hp → Prop, (∃ m, W 0 m (upd H1 acc (.lst []))) ∧ ∀ i m H2, W i m H2 →
    (J.stop i H2 ∧ Q (.ref acc) H2) ∨ (J.go i H2 ∧ ∃ N : Hp → Prop, (∀ H', N H' → ∃ m', m' < m ∧ W (i + 1) m' H') ∧ ∀ x H3, J.yld i H2 x H3 → g x (capSt cap σ) H3 fun σ2 H4 => Ext (capSt cap σ) σ2 ∧ tt σ2 H4 fun b H5 =>
      if b = true then te σ2 H5 fun y H6 => ∃ zs, H6 acc = some (.lst zs) ∧ zs.length < sizeLine ∧ N (upd H6 acc (.lst (zs ++ [y])))
      else N H5)
theorem HOk.but {P : Program} {w : World} {H : Hp} {h h' : Heap} {C : Addr} (x : HOk P w H h) (n : H C = none) (sb : Heap.SameBut C h h') : HOk P w H h' := fun a o e =>
  (x a o e).stay (fun b u hb q => (sb.2 b (fun z => by
    subst z
    rcases hb with z | z
    · subst z; rw [n] at e; cases e
    · rw [n] at z; cases z)).trans q) (fun _ q => q) fun _ _ q => q
theorem Un.but {fs ex : List Addr} {H H' : Hp} {h h1 h2 : Heap} {C : Addr} (u : Un fs ex H H' h h1) (lt : h.objs.size ≤ C) (sb : Heap.SameBut C h1 h2) : Un fs ex H H' h h2 := by
  have ne : ∀ b o, h.get? b = some o → b ≠ C := fun b o e => Nat.ne_of_lt (Nat.lt_of_lt_of_le (Heap.lt_size e) lt)
  refine ⟨fun b o e n hb hx => (sb.2 b (ne b o e)).trans (u.keep b o e n hb hx), fun b o e n hb hx => ?_, u.free, fun b o e hx => ?_, u.tups, u.frzs, u.tbls⟩
  · obtain ⟨sl, q⟩ := u.slot b o e n hb hx
    exact ⟨sl, (sb.2 b (ne b o e)).trans q⟩
  · obtain ⟨o', q⟩ := u.there b o e hx
    exact ⟨o', (sb.2 b (ne b o e)).trans q⟩
section
variable {X : Cx}
theorem block_ok {pins : List (Addr × Obj)} {σ : St} {H : Hp} {s : Shared} {sc : Scope} {cl : List (Str × Addr)} {N : List Str} {C : Addr} {fp : List Addr} (I : Inv X pins σ H s) (hk : sc.kind = .function) (nc : ∀ y ∈ sc.names, y.2 ≠ .cell)
    (hC : s.heap.objs.size ≤ C) (hf : ∀ b ∈ fp, FpOk X pins H b) (hfo : ∀ b ∈ fp, ∃ o, s.heap.get? b = some o) (c1 : ∀ x c, cl.lookup x = some c → X.env.cells.lookup x = some c) (c2 : ∀ n, (n, NameKind.free) ∈ sc.names → ∃ c, cl.lookup n = some c) :
    (X.block sc cl N s H C fp).Ok where
  mod := I.ok.mod
  kind := hk
  glob := I.ok.glob
  blt := I.ok.blt
  above := hC
  inj := fun x y c e e' => I.ok.inj x y c (c1 x c e) (c1 y c e')
  has := fun x h => c2 x (h.elim (relabel_free (.inl rfl) nc) (relabel_free (.inr rfl) nc))
  cab := fun x c e => (nomatch e)
  hd := I.ok.hd
  frames := I.ok.frames
  stk := .inl rfl
  exf := fun b hb => ⟨fun z => by
    obtain ⟨o, e⟩ := hfo b hb
    have lt := Heap.lt_size e
    rw [z] at lt
    exact absurd (Nat.lt_of_lt_of_le lt hC) (Nat.lt_irrefl _), fun x c e => (hf b hb).2.2.2.2.1 x c (c1 x c e)⟩
  bs := I.bs
  bsz := Nat.le_trans I.ok.bsz I.sz
  noex := fun b o e hb => by
    rcases (hf b hb).2.2.2.1 with z | z
    · exact I.ok.noex b o e z
    · exact absurd (Nat.lt_of_lt_of_le (Heap.lt_size (I.ok.bs b o e).1) z) (Nat.lt_irrefl _)
  exfs := fun b hb hs => by
    rcases List.mem_cons.mp (I.stkSub b hs) with z | z
    · exact (hf b hb).2.1 z
    · exact (hf b hb).2.2.1 z
  funs := I.stack
  frf := I.stkFree
theorem pe_comp {elt tg iter : Expr} {ifs : List Expr} {sc : Scope} {pos : Pos} {wi : TI} {g : TG} {tt : TT} {te : TE} (N : List Str) (cap : List (Option Nat)) (hc : X.calm = true) (hi : PI X tg iter wi)
    (hg : ∀ cl s H C ex, PG (X.block sc cl N s H C ex) tg g) (ht : ∀ cl s H C ex, PTs (X.block sc cl N s H C ex) ifs tt) (he : ∀ cl s H C ex, PE (X.block sc cl N s H C ex) elt te)
    (hk : sc.kind = .function) (nc : ∀ y ∈ sc.names, y.2 ≠ .cell) (hnames : ∀ y ∈ sc.names, y.2 = .local → sc.names.lookup y.1 = some .local)
    (hfree : ∀ n, (n, NameKind.free) ∈ sc.names → X.env.kindOf n = some .cell)
    (hcap : ∀ (i j : Nat), cap[i]? = some (some j) → ∃ x, N[i]? = some x ∧ X.N[j]? = some x ∧ sc.names.lookup x = some .free) (hlen : cap.length = N.length)
    (hs : ∀ x, foldedSetIterable iter X.env x = pure x := by intro _; rfl) : PE X (.ListComp elt [⟨tg, iter, ifs, 0⟩] sc pos) (tComp cap wi g tt te) := by
  intro pins s σ H Q I h
  obtain ⟨cl, hclos, c1, c2⟩ := closure_of (sc := sc) (env := X.env) fun n hn => I.ok.has n (.inl (hfree n hn))
  rw [eval_ListComp]
  refine wpAny_comprehension_free (use := none) rfl hs hclos hk hnames ?_
  refine thn (hi pins s σ H _ I h) fun v s1 h1 => thn h1 fun itv s2 h2 => ?_
  obtain ⟨it, fp, tn, J, H2, e, I2, T, st2, f2, q2⟩ := h2
  subst e
  have hfr : H2 s2.heap.objs.size = none := I2.fresh
  obtain ⟨W, ⟨m0, w0⟩, turn⟩ := q2 s2.heap.objs.size hfr
  have I3 := I2.lnew (ys := []) (its := []) (t' := s2.toks) .nil (Nat.zero_le _)
  have hacc : H2 s2.heap.objs.size = none := hfr
  refine wpAny_newObj_type (wpAny_newFunctionEnv nc (by intro y hy; simp at hy) (fun h4 hns hsb => ?_) hk)
  generalize hs3 : ({ s2 with heap := s2.heap.push { cls := .type "list", data := .seq ([] : List Value).toArray } } : Shared) = s3 at hns hsb I3 ⊢
  have hheap : s3.heap = s2.heap.push { cls := .type "list", data := .seq ([] : List Value).toArray } := by rw [← hs3]
  generalize hH3 : upd H2 s2.heap.objs.size (.lst []) = H3 at I3 w0
  have up2 : ∀ b o, s2.heap.get? b = some o → s3.heap.get? b = some o := fun b o q => by rw [hheap]; exact Heap.get?_push_of_some _ q
  have neA : ∀ b ∈ fp, b ≠ s2.heap.objs.size := fun b hb => by
    obtain ⟨o, q, _⟩ := T.obj _ _ st2 b hb
    exact Nat.ne_of_lt (Heap.lt_size q)
  have f3 : ∀ b ∈ fp, FpOk X pins H3 b := fun b hb => ⟨by rw [← hH3, upd_ne (neA b hb)]; exact (f2 b hb).1, (f2 b hb).2⟩
  have o3 : ∀ b ∈ fp, ∃ o, s3.heap.get? b = some o := fun b hb => by
    obtain ⟨o, q, _⟩ := T.obj _ _ st2 b hb
    exact ⟨o, up2 b o q⟩
  have ok' := block_ok (N := N) (C := s3.heap.objs.size) I3 hk nc (Nat.le_refl _) f3 o3 c1 c2
  generalize hC : s3.heap.objs.size = C at hns hsb ok' ⊢
  have ltC : ∀ b o, s3.heap.get? b = some o → b ≠ C := fun b o q => by rw [← hC]; exact Nat.ne_of_lt (Heap.lt_size q)
  have up4 : ∀ b o, s3.heap.get? b = some o → h4.get? b = some o := fun b o q => hsb.extBut b o (ltC b o q) (Heap.get?_push_of_some _ q)
  have st4 : tn 0 h4 := T.keep _ _ _ st2 fun b hb o q => up4 b o (up2 b o q)
  have I4 : Inv (X.block sc cl N s3 H3 C fp) [] (capSt cap σ) H3 { s3 with heap := h4, toks := s3.toks + ([] : List (Str × Value)).length } := by
    refine ⟨ok', rfl, I3.bare, Un.kept up4, ⟨_, hns, fun i x v e1 e2 e3 => ?_⟩, fun x c q => ?_, ?_, fun x c q => I3.freeC x c (c1 x c q), fun p hp => (nomatch hp), I3.hok.kept up4, ?_⟩
    · have ee : ∃ j, cap[i]? = some (some j) ∧ σ[j]? = some (some v) := by
        unfold capSt at e2
        rw [List.getElem?_map] at e2
        cases q : cap[i]? with
        | none => rw [q] at e2; cases e2
        | some o =>
          rw [q] at e2
          cases o with
          | none => cases e2
          | some j =>
            refine ⟨j, rfl, ?_⟩
            have e2' : some ((σ[j]?).join) = some (some v) := e2
            cases z : σ[j]? with
            | none => rw [z] at e2'; cases e2'
            | some o' =>
              rw [z] at e2'
              have e2'' : o' = some v := Option.some.inj e2'
              rw [e2'']
      obtain ⟨j, ej, es⟩ := ee
      obtain ⟨x', n1, n2, n3⟩ := hcap i j ej
      have e1' : N[i]? = some x := e1
      rw [n1] at e1'
      cases e1'
      have hfr' : (x, NameKind.free) ∈ sc.names := lookup_mem n3
      have kc := hfree x hfr'
      obtain ⟨m, _, hl⟩ := I3.loc
      obtain ⟨u, r, l⟩ := hl j x v n2 es (.inr (.inl kc))
      refine ⟨u, r, ?_⟩
      rcases l with ⟨l, _⟩ | ⟨_, c, ec, z⟩
      · rw [kc] at l; cases l
      · obtain ⟨c', ec'⟩ := c2 x hfr'
        have := c1 x c' ec'
        rw [ec] at this
        cases this
        obtain ⟨oc, q1, q2⟩ := z
        exact .inr ⟨lookup_relabel_free (sc := sc) n3, c, ec', oc, up4 _ _ q1, q2⟩
    · obtain ⟨v, oc, q1, q2⟩ := I3.cell x c (c1 x c q)
      exact ⟨v, oc, up4 _ _ q1, q2⟩
    · exact I3.hok.fresh (by rw [hC]; exact Nat.le_refl _)
    · show (capSt cap σ).length = N.length
      unfold capSt
      rw [List.length_map, hlen]
  have loop : codeAny (model X.prog X.w) X.A (.compLoop (.ListComp elt [⟨tg, iter, ifs, 0⟩] sc pos) 0 (.ref it) (.ref s2.heap.objs.size) (compEnvC sc cl C X.env)) (compPost (model X.prog X.w) X.A X.xe none (EP X pins σ Q) (.ref s2.heap.objs.size) C)
      { s3 with heap := h4, toks := s3.toks + ([] : List (Str × Value)).length } := by
    have stat : ∀ {H' : Hp}, (∀ b ∈ fp, H' b = none) → ∀ b ∈ fp, FpOk (X.block sc cl N s3 H3 C fp) [] H' b := fun hn b hb =>
      ⟨hn b hb, (ok'.exf b hb).1, ok'.exfs b hb, .inl hb, (ok'.exf b hb).2, fun p hp => (nomatch hp)⟩
    refine comp_loop (fun n s' => ∃ i H', Inv (X.block sc cl N s3 H3 C fp) [] (capSt cap σ) H' s' ∧ tn i s'.heap ∧ (∀ b ∈ fp, H' b = none) ∧ W i n H') ?_ m0 ⟨0, H3, I4, st4, fun b hb => (f3 b hb).1, w0⟩
    rintro n s5 ⟨i, H5, I5, st5, fr5, w5⟩
    rcases turn i n H5 w5 with ⟨stop, qn⟩ | ⟨go, N', hN', step⟩
    · refine thn (T.done (X.block sc cl N s3 H3 C fp) rfl rfl rfl hc i [] s5 _ H5 NoX I5 (stat fr5) st5 stop) fun r s6 ⟨hr, I6⟩ => ?_
      subst hr
      obtain ⟨m, hm, _⟩ := I6.loc
      refine ⟨m, hm, fun h' sb => ⟨.ref s2.heap.objs.size, H5, ?_, rfl, qn⟩⟩
      refine I3.call' (s' := { s6 with heap := h' }) (ch := fp) I6.os (I6.base.but (by rw [← hC]; exact Nat.le_refl _) sb) (I6.hok.but I6.free sb) I6.bare fun b hb => ?_
      obtain ⟨g0, g1, g2, g3, g4, g5⟩ := f3 b hb
      exact ⟨g3, g1, g4, g5⟩
    · refine thn (T.item (X.block sc cl N s3 H3 C fp) rfl rfl rfl hc i [] s5 _ H5 NoX I5 (stat fr5) st5 go) fun r s6 ⟨u, hr, h6⟩ => ?_
      subst hr
      refine thn h6 fun _ s7 ⟨x, H7, I7, r7, y7, st7, fr7⟩ => ?_
      have I7' := I7.pinned (stat fr7) (T.obj _ _ st7)
      have again : ∀ {σ8 : St} {H8 : Hp} {s8 : Shared}, Inv (X.block sc cl N s3 H3 C fp) ([] ++ pinsAt fp s7.heap) σ8 H8 s8 → Ext (capSt cap σ) σ8 → N' H8 →
          ∃ m, m < n ∧ ∃ i H', Inv (X.block sc cl N s3 H3 C fp) [] (capSt cap σ) H' s8 ∧ tn i s8.heap ∧ (∀ b ∈ fp, H' b = none) ∧ W i m H' := fun {σ8 H8 s8} I8 ex n8 => by
        obtain ⟨m', hm, w8⟩ := hN' H8 n8
        have I8' := I8.unpinned.weak ex.len ex.get
        refine ⟨m', hm, i + 1, H8, I8', T.keep _ _ _ st7 fun b hb o q => (I8.pin (b, o) (List.mem_append_right _ (List.mem_append_right _ (mem_pinsAt hb q)))).1, fun b hb => ?_, w8⟩
        obtain ⟨o, q, d⟩ := T.obj _ _ st7 b hb
        exact (I8.pin (b, o) (List.mem_append_right _ (List.mem_append_right _ (mem_pinsAt hb q)))).2.1
      refine thn (hg cl s3 H3 C fp _ s7 _ H7 x u _ I7' r7 (step x H7 y7)) fun _ s8 ⟨σ8, H8, I8, ex8, q8⟩ => ?_
      refine thn (ht cl s3 H3 C fp _ s8 σ8 H8 _ I8 q8) fun b s9 ⟨H9, I9, q9⟩ => ?_
      cases b with
      | false => exact again I9 ex8 q9
      | true =>
        rw [if_pos rfl] at q9 ⊢
        refine thn (he cl s3 H3 C fp _ s9 σ8 H9 _ I9 q9) fun yv s10 ⟨y, H10, I10, r10, zs, e10, l10, q10⟩ => ?_
        refine thn (mt_append (X := X.block sc cl N s3 H3 C fp) _ s10 σ8 H10 (.ref s2.heap.objs.size) [y] (.ref s2.heap.objs.size) [yv] (fun _ H' => N' H') I10 rfl (.cons r10 .nil) ⟨_, zs, y, rfl, rfl, e10, l10, q10⟩) fun _ s11 ⟨_, H11, I11, _, q11⟩ => ?_
        exact again I11 ex8 q11
  exact codeAny_compStart_list loop (T.self X.A 0 _ _ _ st4 loop)
end
theorem comp_range {lo : Int} {n : Nat} {acc : Addr} {g : TG} {tt : TT} {te : TE} {σ : St} {H : Hp} {Q : VK} (Pv : Nat → Hp → Prop) (h0 : Pv 0 (upd H acc (.lst [])))
    (hs : ∀ i H, i < n → Pv i H → g (.int (lo + i)) σ H fun σ2 H4 => Ext σ σ2 ∧ tt σ2 H4 fun b H5 =>
      if b = true then te σ2 H5 fun y H6 => ∃ zs, H6 acc = some (.lst zs) ∧ zs.length < sizeLine ∧ Pv (i + 1) (upd H6 acc (.lst (zs ++ [y]))) else Pv (i + 1) H5) (hd : ∀ H, Pv n H → Q (.ref acc) H) :
    ∃ W : Nat → Nat → Hp → Prop, (∃ m, W 0 m (upd H acc (.lst []))) ∧ ∀ i m H2, W i m H2 →
      ((Itr lo n).stop i H2 ∧ Q (.ref acc) H2) ∨ ((Itr lo n).go i H2 ∧ ∃ N : Hp → Prop, (∀ H', N H' → ∃ m', m' < m ∧ W (i + 1) m' H') ∧ ∀ x H3, (Itr lo n).yld i H2 x H3 → g x σ H3 fun σ2 H4 => Ext σ σ2 ∧ tt σ2 H4 fun b H5 =>
        if b = true then te σ2 H5 fun y H6 => ∃ zs, H6 acc = some (.lst zs) ∧ zs.length < sizeLine ∧ N (upd H6 acc (.lst (zs ++ [y])))
        else N H5) := by
  refine ⟨fun i m H => m = n - i ∧ i ≤ n ∧ Pv i H, ⟨n, by simp, Nat.zero_le _, h0⟩, ?_⟩
  rintro i m H2 ⟨rfl, hi, p⟩
  by_cases hlt : i < n
  · refine .inr ⟨hlt, Pv (i + 1), fun H' p' => ⟨n - (i + 1), by omega, rfl, hlt, p'⟩, fun x H' y => ?_⟩
    obtain ⟨e, y⟩ := y
    subst e y
    exact hs i _ hlt p
  · have e : i = n := by omega
    subst e
    exact .inl ⟨Nat.le_refl _, hd H2 p⟩
def compCk (sc : Scope) (env : Env) (XN N : List Str) (cap : List (Option Nat)) : Bool :=
  (sc.kind == .function) && (sc.names.all fun y => y.2 != .cell) && (sc.names.all fun y => y.2 != .local || sc.names.lookup y.1 == some .local) &&
  (sc.names.all fun y => y.2 != .free || env.kindOf y.1 == some .cell) &&
  ((List.range cap.length).all fun i => match cap[i]? with
    | some (some j) => (match N[i]? with | some x => XN[j]? == some x && sc.names.lookup x == some .free | none => false)
    | _ => true) && (cap.length == N.length)
theorem pe_compB {X : Cx} {elt tg iter : Expr} {ifs : List Expr} {sc : Scope} {pos : Pos} {wi : TI} {g : TG} {tt : TT} {te : TE} (N : List Str) (cap : List (Option Nat)) (hc : X.calm = true) (hi : PI X tg iter wi)
    (hg : ∀ cl s H C ex, PG (X.block sc cl N s H C ex) tg g) (ht : ∀ cl s H C ex, PTs (X.block sc cl N s H C ex) ifs tt) (he : ∀ cl s H C ex, PE (X.block sc cl N s H C ex) elt te)
    (ck : compCk sc X.env X.N N cap = true) (hs : ∀ x, foldedSetIterable iter X.env x = pure x := by intro _; rfl) : PE X (.ListComp elt [⟨tg, iter, ifs, 0⟩] sc pos) (tComp cap wi g tt te) := by
  unfold compCk at ck
  simp only [Bool.and_eq_true] at ck
  obtain ⟨⟨⟨⟨⟨k1, k2⟩, k3⟩, k4⟩, k5⟩, k6⟩ := ck
  refine pe_comp N cap hc hi hg ht he (by simpa using k1) (fun y hy => ?_) (fun y hy z => ?_) (fun n hn => ?_) (fun i j e => ?_) (by simpa using k6) hs
  · have := List.all_eq_true.mp k2 y hy
    simpa using this
  · have := List.all_eq_true.mp k3 y hy
    rw [z] at this
    simpa using this
  · have := List.all_eq_true.mp k4 _ hn
    simpa using this
  · have hi : i < cap.length := (List.getElem?_eq_some_iff.mp e).1
    have := List.all_eq_true.mp k5 i (List.mem_range.mpr hi)
    rw [e] at this
    dsimp only at this
    cases q : N[i]? with
    | none => rw [q] at this; cases this
    | some x =>
      rw [q] at this
      dsimp only at this
      rw [Bool.and_eq_true] at this
      exact ⟨x, rfl, by simpa using this.1, by simpa using this.2⟩
end L2
set_option Elab.async false
set_option linter.all false
set_option maxRecDepth 100000
set_option maxHeartbeats 4000000
namespace L2
open PySem PySem.Spec PyProof.Rows
section
variable {prog : Program} {w : World} {A : Around} {E : Value → Shared → Prop} {s : Shared}
end
section
variable {X : Cx} {pins : List (Addr × Obj)} {σ : St} {H : Hp} {s : Shared} {h' : Heap}
end
def Ite (K : PySem.W.Frag) (a : Addr) : It :=
  ⟨fun i H => ∃ xs x, SqT K H a xs ∧ xs[i]? = some x, fun i H x H' => ∃ T y, H T = none ∧ x = .ref T ∧ H' = upd H T (.tup [.int i, y]) ∧ ∀ xs, SqT K H a xs → xs[i]? = some y, fun i H => ∃ xs, SqT K H a xs ∧ xs.length ≤ i⟩
def iEnum (K : PySem.W.Frag) (ta : TA) : TI := fun σ H R => ta σ H fun vs H1 => ∃ a, vs = [.ref a] ∧ (∃ xs, SqT K H1 a xs) ∧ R (Ite K a) H1
end L2
set_option Elab.async false
set_option linter.all false
set_option maxRecDepth 100000
set_option maxHeartbeats 4000000
namespace L2
open PySem PySem.Spec PyProof.Rows
section
variable {X : Cx}
def rCatU (K : PySem.W.Frag) : R2 := fun x y H Q => ∃ a b xs ys, x = .ref a ∧ y = .ref b ∧ SqT K H a xs ∧ SqT K H b ys ∧ xs.length + ys.length ≤ sizeLine ∧
  ∀ p H', Same H H' → SqT K H' p (xs ++ ys) → Q (.ref p) H'
theorem same_upd {H : Hp} {p : Addr} {o : HO} (h : H p = none) : Same H (upd H p o) := fun b u q => by rw [upd_ne (ne_of_none q h)]; exact q
def rIsi (K : PySem.W.Frag) : List V → Hp → VK → Prop := fun xs H Q => ∃ x T t b, xs = [x, .ty T] ∧ TyOf K H x t ∧ PySem.W.kitOne K t (.type T) = some b ∧ Q (.bl b) H
theorem call_isi : CallR X (.builtin "isinstance") (rIsi X.K) := by
  intro pins s σ H xs us Q I r h
  obtain ⟨x, T, t, b, rfl, ty, e, q⟩ := h
  obtain ⟨u, w', rfl, ru, rw'⟩ := vals2 r
  cases rw'
  exact isinst_ok I ru ty e fun tk => ⟨.bl b, H, I.tok tk, rfl, q⟩
def rSlS : V → Option Int → Option Int → Hp → VK → Prop := fun x lo hi H Q => ∃ z, x = .str z ∧ z.length ≤ sizeLine ∧ ((Txt.slice z lo hi).length ≤ z.length → Q (.str (Txt.slice z lo hi)) H)
def rEqS (neg : Bool) : R2 := fun x y H Q => ∃ (p r : Addr) (xs ys : List Str), x = .ref p ∧ y = .ref r ∧ H p = some (.lst (xs.map V.str)) ∧ H r = some (.lst (ys.map V.str)) ∧ Q (.bl (if neg then !decide (xs = ys) else decide (xs = ys))) H
def rSortD : List V → Hp → VK → Prop := fun xs H Q => ∃ (d : Addr) (kvs : List (Key × V)) (ks : List Str), xs = [.ref d] ∧ H d = some (.dK kvs) ∧ kvs.map (·.1) = ks.map Sum.inr ∧ ks.length < 64 ∧
  ∀ (l : Addr) (ss : List Str), H l = none → ss.Perm ks → ss.Pairwise (fun a b => ltCps b.cps.toList a.cps.toList = false) → Q (.ref l) (upd H l (.lst (ss.map V.str)))
end
end L2
set_option Elab.async false
set_option linter.all false
set_option maxRecDepth 100000
set_option maxHeartbeats 4000000
namespace L2
open PySem PySem.Spec PyProof.Rows
structure FnB (P : Program) (w : World) (K : PySem.W.Frag) (mg : Str → Option Value) (base : Heap) (k : Nat) (x : Str) (f : Addr) (fd : FuncData) (ps : List Str) (sp : Sp) : Prop where
  ok : FnOk P w K mg base CX0 k f fd ps sp
  bd : Binds K fd ps []
  kp : PySem.W.keepIn K (.ref f) = true
  gl : mg x = some (.ref f)
theorem FnB.up {P : Program} {w : World} {K : PySem.W.Frag} {mg : Str → Option Value} {base : Heap} {j k : Nat} {x : Str} {f : Addr} {fd : FuncData} {ps : List Str} {sp : Sp} (F : FnB P w K mg base j x f fd ps sp) (h : j ≤ k) : FnB P w K mg base k x f fd ps sp :=
  ⟨F.ok.mono h, F.bd, F.kp, F.gl⟩
def Tk (H H' : Hp) : Prop := ∀ b xs, H b = some (.tup xs) → H' b = some (.tup xs)
theorem Tk.trans {H H1 H2 : Hp} (a : Tk H H1) (b : Tk H1 H2) : Tk H H2 := fun c xs h => b c xs (a c xs h)
theorem Same.tk {H H' : Hp} (h : Same H H') : Tk H H' := fun b xs e => h b _ e
theorem Tk.lst {H : Hp} {p : Addr} {xs : List V} {o : HO} (h : H p = some (.lst xs)) : Tk H (upd H p o) := fun b ys e => by
  rw [upd_ne (fun z => by subst z; rw [h] at e; cases e)]; exact e
section
variable {X : Cx}
def rCatV : R2 := fun x y H Q => ∃ a b xs ys, x = .ref a ∧ y = .ref b ∧ H a = some (.tup xs) ∧ H b = some (.tup ys) ∧ xs.length + ys.length ≤ sizeLine ∧
  ∀ p H', Same H H' → H' p = some (.tup (xs ++ ys)) → Q (.ref p) H'
theorem op_catV : OpR X (binaryOp .Add) rCatV := by
  intro pins s σ H x y v u Q I rx ry h
  obtain ⟨a, b, xs, ys, rfl, rfl, ha, hb, hz, q⟩ := h
  by_cases hx : xs = []
  · subst hx
    cases rx
    cases ry
    obtain ⟨its, r1, p1, _⟩ := I.tuple (SqT.of ha)
    obtain ⟨its2, r2, p2, _⟩ := I.tuple (SqT.of hb)
    have e0 : its = [] := r1.nil_iff.mpr rfl
    subst e0
    obtain ⟨⟨cls, dd, data, sl⟩, ho, hc, n, hd⟩ := id p1
    obtain ⟨⟨cls2, dd2, data2, sl2⟩, ho2, hc2, n2, hd2⟩ := id p2
    simp only at hc hd hc2 hd2
    subst hc hd hc2 hd2
    exact concat_meets ⟨_, ho, rfl⟩ ⟨_, ho2, rfl⟩ noFill_tuple_add seq_tuple_add PySem.F.slot_tuple_add PySem.F.entry_tuple_add (PySem.F.args_tuple_add_2 _ _) (tuple_addW0 a b _ _ n n2 dd dd2 sl sl2 rfl) ⟨ho, ho2, ⟨.ref b, H, I, rfl, q b H (.refl H) hb⟩⟩
  · refine op_catT pins s σ H (.ref a) (.ref b) v u Q I rx ry ⟨a, b, xs, ys, rfl, rfl, SqT.of ha, SqT.of hb, hx, hz, fun e => ?_, fun e p hp => ?_⟩
    · subst e
      exact q a H (.refl H) (by rw [List.append_nil]; exact ha)
    · exact q p _ (same_upd hp) upd_same
def rSlV : V → Option Int → Option Int → Hp → VK → Prop := fun x lo hi H Q => ∃ a xs, x = .ref a ∧ H a = some (.tup xs) ∧
  ¬ (HT.sIx xs.length 0 lo = 0 ∧ HT.sIx xs.length xs.length hi = xs.length) ∧ ∀ p H', Same H H' → H' p = some (.tup (cutV xs lo hi)) → Q (.ref p) H'
theorem sl_tupV : SlR X rSlV := by
  intro pins s σ H x v vl vu lo hi sl Q I rx hs pl pu h
  obtain ⟨a, xs, rfl, ha, hw, q⟩ := h
  exact sl_tup pins s σ H (.ref a) v vl vu lo hi sl Q I rx hs pl pu ⟨a, xs, rfl, SqT.of ha, hw, fun p hp => q p _ (same_upd hp) upd_same⟩
end
inductive Atom where
  | name (x : Str) | num (n : Int) | gap (g : Str)
inductive Bin where
  | add | sub | mul | thn
def Bin.s : Bin → Str
  | .add => "add" | .sub => "sub" | .mul => "mul" | .thn => "then"
inductive Tr where
  | num (n : Int) | name (x : Str) | ask (x : Str) | stop (x : Str) | gap (g : Str) (as : List Atom)
  | say (a : Tr) | bin (o : Bin) (a b : Tr) | ite (a b c : Tr) | lett (x : Str) (a b : Tr)
def AtRep (H : Hp) : Atom → V → Prop
  | .name x, v => ∃ a, v = .ref a ∧ H a = some (.tup [.str "name", .str x])
  | .num n, v => ∃ a, v = .ref a ∧ H a = some (.tup [.str "num", .int n])
  | .gap g, v => ∃ a b, v = .ref a ∧ H a = some (.tup [.str "gap", .str g, .ref b]) ∧ H b = some (.tup [])
def Rep (H : Hp) : Tr → V → Prop
  | .num n, v => ∃ a, v = .ref a ∧ H a = some (.tup [.str "num", .int n])
  | .name x, v => ∃ a, v = .ref a ∧ H a = some (.tup [.str "name", .str x])
  | .ask x, v => ∃ a, v = .ref a ∧ H a = some (.tup [.str "ask", .str x])
  | .stop x, v => ∃ a, v = .ref a ∧ H a = some (.tup [.str "stop", .str x])
  | .gap g as, v => ∃ a b us, v = .ref a ∧ H a = some (.tup [.str "gap", .str g, .ref b]) ∧ H b = some (.tup us) ∧ us.length ≤ 1000 ∧ Paired (AtRep H) as us
  | .say t, v => ∃ a u, v = .ref a ∧ H a = some (.tup [.str "say", u]) ∧ Rep H t u
  | .bin o s t, v => ∃ a u w, v = .ref a ∧ H a = some (.tup [.str o.s, u, w]) ∧ Rep H s u ∧ Rep H t w
  | .ite r s t, v => ∃ a u w z, v = .ref a ∧ H a = some (.tup [.str "if", u, w, z]) ∧ Rep H r u ∧ Rep H s w ∧ Rep H t z
  | .lett x s t, v => ∃ a u w, v = .ref a ∧ H a = some (.tup [.str "let", .str x, u, w]) ∧ Rep H s u ∧ Rep H t w
theorem AtRep.mono {H H' : Hp} (k : Tk H H') : ∀ {t : Atom} {v : V}, AtRep H t v → AtRep H' t v
  | .name _, _, ⟨a, e, h⟩ => ⟨a, e, k _ _ h⟩
  | .num _, _, ⟨a, e, h⟩ => ⟨a, e, k _ _ h⟩
  | .gap _, _, ⟨a, b, e, h, h'⟩ => ⟨a, b, e, k _ _ h, k _ _ h'⟩
theorem Rep.mono {H H' : Hp} (k : Tk H H') : ∀ {t : Tr} {v : V}, Rep H t v → Rep H' t v
  | .num _, _, ⟨a, e, h⟩ => ⟨a, e, k _ _ h⟩
  | .name _, _, ⟨a, e, h⟩ => ⟨a, e, k _ _ h⟩
  | .ask _, _, ⟨a, e, h⟩ => ⟨a, e, k _ _ h⟩
  | .stop _, _, ⟨a, e, h⟩ => ⟨a, e, k _ _ h⟩
  | .gap _ _, _, ⟨a, b, us, e, h, h', n, p⟩ => ⟨a, b, us, e, k _ _ h, k _ _ h', n, Paired.mapP p fun _ _ z => z.mono k⟩
  | .say _, _, ⟨a, u, e, h, r⟩ => ⟨a, u, e, k _ _ h, r.mono k⟩
  | .bin _ _ _, _, ⟨a, u, w, e, h, r, s⟩ => ⟨a, u, w, e, k _ _ h, r.mono k, s.mono k⟩
  | .ite _ _ _, _, ⟨a, u, w, z, e, h, r, s, t⟩ => ⟨a, u, w, z, e, k _ _ h, r.mono k, s.mono k, t.mono k⟩
  | .lett _ _ _, _, ⟨a, u, w, e, h, r, s⟩ => ⟨a, u, w, e, k _ _ h, r.mono k, s.mono k⟩
inductive Kd where
  | num | name | ask | stop | gap | say | add | sub | mul | thn | ite | lett
  deriving DecidableEq
def Kd.s : Kd → Str
  | .num => "num" | .name => "name" | .ask => "ask" | .stop => "stop" | .gap => "gap"
  | .say => "say" | .add => "add" | .sub => "sub" | .mul => "mul" | .thn => "then" | .ite => "if" | .lett => "let"
def Kd.leaf : Kd → Bool
  | .num => true | .name => true | .ask => true | .stop => true | .gap => true
  | _ => false
theorem Kd.inj {a b : Kd} (h : a.s = b.s) : a = b := by
  revert h
  cases a <;> cases b <;> first | (intro _; rfl) | (intro h; exact absurd h (by decide +kernel))
theorem Kd.eq_iff {a b : Kd} : (V.str a.s = V.str b.s) ↔ a = b := ⟨fun h => Kd.inj (V.str.inj h), fun h => by rw [h]⟩
def Bin.kd : Bin → Kd
  | .add => .add | .sub => .sub | .mul => .mul | .thn => .thn
def Tr.kd : Tr → Kd
  | .num _ => .num | .name _ => .name | .ask _ => .ask | .stop _ => .stop | .gap _ _ => .gap
  | .say _ => .say | .bin o _ _ => o.kd | .ite _ _ _ => .ite | .lett _ _ _ => .lett
def Tr.sign (t : Tr) : Str := t.kd.s
theorem Bin.kd_s (o : Bin) : o.kd.s = o.s := by cases o <;> rfl
def Tr.parts : Tr → List Tr
  | .say a => [a] | .bin _ a b => [a, b] | .ite a b c => [a, b, c] | .lett _ a b => [a, b]
  | _ => []
def Tr.head : Tr → Nat
  | .gap _ _ => 3 | .say _ => 1 | .bin _ _ _ => 1 | .ite _ _ _ => 1
  | _ => 2
theorem Rep.all {H : Hp} : ∀ {t : Tr} {v : V}, Rep H t v → ∃ a hs us, v = .ref a ∧ H a = some (.tup (.str t.sign :: hs ++ us)) ∧ hs.length + 1 = t.head ∧ Paired (Rep H) t.parts us
  | .num n, _, ⟨a, e, h⟩ => ⟨a, [.int n], [], e, h, rfl, .nil⟩
  | .name x, _, ⟨a, e, h⟩ => ⟨a, [.str x], [], e, h, rfl, .nil⟩
  | .ask x, _, ⟨a, e, h⟩ => ⟨a, [.str x], [], e, h, rfl, .nil⟩
  | .stop x, _, ⟨a, e, h⟩ => ⟨a, [.str x], [], e, h, rfl, .nil⟩
  | .gap g _, _, ⟨a, b, us, e, h, h', _, p⟩ => ⟨a, [.str g, .ref b], [], e, h, rfl, .nil⟩
  | .say _, _, ⟨a, u, e, h, r⟩ => ⟨a, [], [u], e, h, rfl, .cons r .nil⟩
  | .bin o _ _, _, ⟨a, u, w, e, h, r, s⟩ => ⟨a, [], [u, w], e, (by show _ = some (HO.tup [V.str o.kd.s, u, w]); rw [Bin.kd_s]; exact h), rfl, .cons r (.cons s .nil)⟩
  | .ite _ _ _, _, ⟨a, u, w, z, e, h, r, s, t⟩ => ⟨a, [], [u, w, z], e, h, rfl, .cons r (.cons s (.cons t .nil))⟩
  | .lett x _ _, _, ⟨a, u, w, e, h, r, s⟩ => ⟨a, [.str x], [u, w], e, h, rfl, .cons r (.cons s .nil)⟩
def Tr.size : Tr → Nat
  | .say a => a.size + 1 | .bin _ a b => a.size + b.size + 1 | .ite a b c => a.size + b.size + c.size + 1 | .lett _ a b => a.size + b.size + 1
  | _ => 1
theorem paired_get {α : Type} {F : α → V → Prop} : ∀ {as : List α} {us : List V} {i : Nat} {u : V}, Paired F as us → us[i]? = some u → ∃ a, as[i]? = some a ∧ F a u
  | _, _, _, _, .nil, e => by simp at e
  | _, _, 0, _, .cons r _, e => by simp at e; subst e; exact ⟨_, rfl, r⟩
  | _, _, i + 1, u, .cons _ t, e => by
    obtain ⟨a, h1, h2⟩ := paired_get (i := i) (u := u) t (by simpa using e)
    exact ⟨a, by simpa using h1, h2⟩
theorem same_set {H H' : Hp} {p : Addr} {o : HO} (g : Same H H') (h : H p = none) : Same H (upd H' p o) := fun b u q => by rw [upd_ne (ne_of_none q h)]; exact g b u q
theorem take_next {α : Type} {as : List α} {i : Nat} {a : α} (h : as[i]? = some a) : as.take (i + 1) = as.take i ++ [a] := by
  rw [List.take_add_one, h]; rfl
def Atom.names : Atom → List Str
  | .name x => [x]
  | _ => []
def Tr.names : Tr → List Str
  | .name x => [x]
  | .gap _ as => as.flatMap Atom.names
  | _ => []
theorem iteY {c : Prop} [Decidable c] {A B : Prop} (hc : c) (h : A) : if decide c = true then A else B := by rw [if_pos (decide_eq_true hc)]; exact h
theorem iteN {c : Prop} [Decidable c] {A B : Prop} (hc : ¬ c) (h : B) : if decide c = true then A else B := by rw [if_neg (by rw [decide_eq_false hc]; exact Bool.false_ne_true)]; exact h
theorem line1000 {n : Nat} (h : n ≤ 1000) : n ≤ sizeLine := Nat.le_of_lt (small1000 h)
def constVs : List Expr → Option (List V)
  | [] => some []
  | .Constant (.str x) _ _ :: r => (constVs r).map fun l => V.str x :: l
  | .Constant (.int i) _ _ :: r => (constVs r).map fun l => V.int i :: l
  | _ => none
def tRow (vs : List V) : TA := fun _ H Q => Q vs H
theorem pa_row {X : Cx} : ∀ {es : List Expr} (vs : List V), constVs es = some vs → PA X es (tRow vs)
  | [], vs, h => by cases h; exact pa_nil
  | .Constant (.str x) j p :: r, vs, h => by
    obtain ⟨l, hl, e⟩ := Option.map_eq_some_iff.mp (show (constVs r).map (fun l => V.str x :: l) = some vs from h)
    subst e
    exact pa_cons pe_str (pa_row l hl)
  | .Constant (.int x) j p :: r, vs, h => by
    obtain ⟨l, hl, e⟩ := Option.map_eq_some_iff.mp (show (constVs r).map (fun l => V.int x :: l) = some vs from h)
    subst e
    exact pa_cons pe_int (pa_row l hl)
def rowT : Expr → Option (List V)
  | .Tuple es _ _ => constVs es
  | _ => none
def rowL : Expr → Option (List V)
  | .List es _ => constVs es
  | _ => none
theorem pe_tupR {X : Cx} {e : Expr} (vs : List V) (h : rowT e = some vs) : PE X e (tTup (tRow vs)) := by
  unfold rowT at h
  split at h
  · exact pe_tup (pa_row vs h)
  · cases h
theorem pe_lstR {X : Cx} {e : Expr} (vs : List V) (h : rowL e = some vs) : PE X e (tLst (tRow vs)) := by
  unfold rowL at h
  split at h
  · exact pe_lst (pa_row vs h)
  · cases h
end L2
set_option Elab.async false
set_option linter.all false
set_option maxRecDepth 100000
set_option maxHeartbeats 4000000
namespace L2
open PySem
abbrev DRow := Str × (Str ⊕ Int)
abbrev En := Str → Int
abbrev Res := List DRow × (Int ⊕ Str)
def askR (x : Str) : DRow := ("ask", .inl x)
def sayR (n : Int) : DRow := ("say", .inr n)
def Bin.op : Bin → Int → Int → Int
  | .add, m, n => (m + n) % 10 ^ 30
  | .sub, m, n => (m - n) % 10 ^ 30
  | .mul, m, n => (m * n) % 10 ^ 30
  | .thn, _, n => n
def En.set (e : En) (x : Str) (n : Int) : En := fun y => if y = x then n else e y
def pre (D : List DRow) (o : Option Res) : Option Res := o.map fun q => (D ++ q.1, q.2)
def seqR (r : Option Res) (k : Int → Option Res) : Option Res := r.bind fun r => match r.2 with
  | .inr w => some (r.1, .inr w)
  | .inl n => pre r.1 (k n)
def ev (a : En) : Tr → En → Option Res
  | .num n, _ => some ([], .inl n)
  | .name x, e => some ([], .inl (e x))
  | .ask x, _ => some ([askR x], .inl (a x))
  | .stop x, _ => some ([], .inr x)
  | .gap _ _, _ => none
  | .say t, e => seqR (ev a t e) fun n => some ([sayR n], .inl n)
  | .bin o s t, e => seqR (ev a s e) fun m => seqR (ev a t e) fun n => some ([], .inl (o.op m n))
  | .ite c s t, e => seqR (ev a c e) fun n => if n = 0 then ev a t e else ev a s e
  | .lett x s t, e => seqR (ev a s e) fun n => ev a t (e.set x n)
theorem pre_nil (o : Option Res) : pre [] o = o := by
  cases o <;> simp [pre]
theorem pre_pre (D D' : List DRow) (o : Option Res) : pre D (pre D' o) = pre (D ++ D') o := by
  cases o <;> simp [pre]
theorem seq_one (D : List DRow) (n : Int) (k : Int → Option Res) : seqR (some (D, .inl n)) k = pre D (k n) := rfl
theorem seq_pre (D : List DRow) (r : Option Res) (k : Int → Option Res) : seqR (pre D r) k = pre D (seqR r k) := by
  cases r with
  | none => rfl
  | some r =>
    obtain ⟨d, n | w⟩ := r
    · show pre (D ++ d) (k n) = pre D (pre d (k n))
      rw [pre_pre]
    · rfl
theorem seq_assoc (r : Option Res) (f g : Int → Option Res) : seqR (seqR r f) g = seqR r fun n => seqR (f n) g := by
  cases r with
  | none => rfl
  | some r =>
    obtain ⟨d, n | w⟩ := r
    · show seqR (pre d (f n)) g = pre d (seqR (f n) g)
      rw [seq_pre]
    · rfl
def aft (a : En) (t : Tr) (e : En) (E : List Int) : Option (Option Res × List Int) :=
  match t with
  | .say _ => match E with
    | n :: E => some (some ([sayR n], .inl n), E)
    | _ => none
  | .bin .thn _ t => match E with
    | _ :: E => some (ev a t e, E)
    | _ => none
  | .bin o _ _ => match E with
    | n :: m :: E => some (some ([], .inl (o.op m n)), E)
    | _ => none
  | .ite _ s t => match E with
    | n :: E => some (if n = 0 then ev a t e else ev a s e, E)
    | _ => none
  | .lett x _ t => match E with
    | n :: E => some (ev a t (e.set x n), E)
    | _ => none
  | _ => none
abbrev Item := Tr × En × Bool
def cont (a : En) : List Item → List Int → Option Res
  | [], [] => none
  | [], n :: _ => some ([], .inl n)
  | (t, e, false) :: W, E => seqR (ev a t e) fun n => cont a W (n :: E)
  | (t, e, true) :: W, E => (aft a t e E).bind fun p => seqR p.1 fun n => cont a W (n :: p.2)
section
variable {a e : En} {W : List Item} {E : List Int}
theorem cont_run (t : Tr) : cont a ((t, e, false) :: W) E = seqR (ev a t e) fun n => cont a W (n :: E) := rfl
theorem cont_rest (t : Tr) : cont a ((t, e, true) :: W) E = (aft a t e E).bind fun p => seqR p.1 fun n => cont a W (n :: p.2) := rfl
theorem cont_num (n : Int) : cont a ((.num n, e, false) :: W) E = cont a W (n :: E) := by rw [cont_run, ev, seq_one, pre_nil]
theorem cont_name (x : Str) : cont a ((.name x, e, false) :: W) E = cont a W (e x :: E) := by rw [cont_run, ev, seq_one, pre_nil]
theorem cont_ask (x : Str) : cont a ((.ask x, e, false) :: W) E = pre [askR x] (cont a W (a x :: E)) := by rw [cont_run, ev, seq_one]
theorem cont_stop (x : Str) : cont a ((.stop x, e, false) :: W) E = some ([], .inr x) := rfl
theorem cont_say (t : Tr) : cont a ((.say t, e, false) :: W) E = cont a ((t, e, false) :: (.say t, e, true) :: W) E := by
  rw [cont_run, cont_run, ev, seq_assoc]
  rfl
theorem cont_thn (s t : Tr) : cont a ((.bin .thn s t, e, false) :: W) E = cont a ((s, e, false) :: (.bin .thn s t, e, true) :: W) E := by
  rw [cont_run, cont_run, ev, seq_assoc]
  congr 1
  funext m
  rw [cont_rest]
  show _ = seqR (ev a t e) _
  rw [seq_assoc]
  congr 1
  funext n
  rw [seq_one, pre_nil]
  rfl
theorem cont_bin {o : Bin} (h : o ≠ .thn) (s t : Tr) : cont a ((.bin o s t, e, false) :: W) E = cont a ((s, e, false) :: (t, e, false) :: (.bin o s t, e, true) :: W) E := by
  rw [cont_run, cont_run, ev, seq_assoc]
  congr 1
  funext m
  rw [seq_assoc, cont_run]
  congr 1
  funext n
  rw [cont_rest]
  cases o with
  | thn => exact absurd rfl h
  | _ => rfl
theorem cont_ite (c s t : Tr) : cont a ((.ite c s t, e, false) :: W) E = cont a ((c, e, false) :: (.ite c s t, e, true) :: W) E := by
  rw [cont_run, cont_run, ev, seq_assoc]
  rfl
theorem cont_let (x : Str) (s t : Tr) : cont a ((.lett x s t, e, false) :: W) E = cont a ((s, e, false) :: (.lett x s t, e, true) :: W) E := by
  rw [cont_run, cont_run, ev, seq_assoc]
  rfl
theorem go_say (t : Tr) (n : Int) : cont a ((.say t, e, true) :: W) (n :: E) = pre [sayR n] (cont a W (n :: E)) := rfl
theorem go_thn (s t : Tr) (n : Int) : cont a ((.bin .thn s t, e, true) :: W) (n :: E) = cont a ((t, e, false) :: W) E := rfl
theorem go_ite (c s t : Tr) (n : Int) : cont a ((.ite c s t, e, true) :: W) (n :: E) = cont a ((if n = 0 then t else s, e, false) :: W) E := by
  rw [cont_rest, cont_run]
  show seqR (if n = 0 then ev a t e else ev a s e) _ = _
  by_cases h : n = 0
  · rw [if_pos h, if_pos h]
  · rw [if_neg h, if_neg h]
theorem go_let (x : Str) (s t : Tr) (n : Int) : cont a ((.lett x s t, e, true) :: W) (n :: E) = cont a ((t, e.set x n, false) :: W) E := rfl
theorem go_bin {o : Bin} (h : o ≠ .thn) (s t : Tr) (n m : Int) : cont a ((.bin o s t, e, true) :: W) (n :: m :: E) = cont a W (o.op m n :: E) := by
  rw [cont_rest]
  cases o with
  | thn => exact absurd rfl h
  | _ =>
    show pre [] (cont a W _) = _
    rw [pre_nil]
theorem rest_ends {t : Tr} {r : Res} (h : cont a ((t, e, true) :: W) E = some r) : ∃ n E', E = n :: E' ∧ (∀ o s u, t = .bin o s u → o ≠ .thn → ∃ m E'', E' = m :: E'') ∧ (∀ n, t ≠ .num n) ∧ (∀ n, t ≠ .name n) ∧ (∀ n, t ≠ .ask n) ∧ (∀ n, t ≠ .stop n) ∧ ∀ g as, t ≠ .gap g as := by
  rw [cont_rest] at h
  cases E with
  | nil =>
    cases t with
    | bin o s u => cases o <;> simp [aft] at h
    | _ => simp [aft] at h
  | cons n E' =>
    cases t with
    | bin o s u =>
      refine ⟨n, E', rfl, fun o' s' u' e' ho => ?_, by simp, by simp, by simp, by simp, by simp⟩
      cases e'
      cases E' with
      | cons m E'' => exact ⟨m, E'', rfl⟩
      | nil => cases o <;> first | exact absurd rfl ho | (simp [aft] at h)
    | say t => exact ⟨n, E', rfl, by simp, by simp, by simp, by simp, by simp, by simp⟩
    | ite c s t => exact ⟨n, E', rfl, by simp, by simp, by simp, by simp, by simp, by simp⟩
    | lett c s t => exact ⟨n, E', rfl, by simp, by simp, by simp, by simp, by simp, by simp⟩
    | _ => simp [aft] at h
end
def wtR : Tr → Nat
  | .bin .thn _ t => 2 * t.size + 1
  | .ite _ s t => 2 * s.size + 2 * t.size + 1
  | .lett _ _ t => 2 * t.size + 1
  | _ => 1
def wtI : Item → Nat
  | (t, _, false) => 2 * t.size
  | (t, _, true) => wtR t
def wt (W : List Item) : Nat := (W.map wtI).sum
theorem wt_cons (i : Item) (W : List Item) : wt (i :: W) = wtI i + wt W := by simp [wt]
theorem wt_len : ∀ W : List Item, W.length ≤ wt W
  | [] => Nat.le_refl _
  | i :: W => by
    rw [wt_cons, List.length_cons]
    have := wt_len W
    have : 1 ≤ wtI i := by
      obtain ⟨t, e, b⟩ := i
      cases b with
      | false => show 1 ≤ 2 * t.size; cases t <;> simp [Tr.size] <;> omega
      | true => show 1 ≤ wtR t; cases t with
        | bin o s t => cases o <;> simp [wtR]
        | _ => simp [wtR]
    omega
end L2
set_option Elab.async false
set_option linter.all false
set_option maxRecDepth 100000
set_option maxHeartbeats 4000000
namespace L2
open PySem PySem.Spec PyProof.Rows
def tOrT (K : PySem.W.Frag) (ta tb : TE) : TE := fun σ H Q => ta σ H fun x H1 => ∃ k, TruV K x H1 k ∧ if k = true then Q x H1 else tb σ H1 Q
theorem pe_orV {X : Cx} {a b : Expr} {rest : List Expr} {pos : Pos} {ta tb : TE} (ha : PE X a ta) (hb : PE X (.BoolOp .Or (b :: rest) pos) tb) : PE X (.BoolOp .Or (a :: b :: rest) pos) (tOrT X.K ta tb) := by
  intro pins s σ H Q I h
  refine BoolOp_or (thn (ha pins s σ H _ I h) fun v s1 ⟨x, H1, I1, r1, k, e1, q1⟩ => ?_)
  refine thn (tru_ok pins s1 σ H1 x v (fun c H2 => if c = true then Q x H2 else tb σ H2 Q) I1 r1 ⟨k, e1, q1⟩) fun c s2 ⟨H2, I2, q2⟩ => ?_
  cases c with
  | true => exact ⟨x, H2, I2, r1, q2⟩
  | false => exact hb pins s2 σ H2 Q I2 q2
theorem call_dictD {X : Cx} : CallR X (.type "dict") (fun xs H Q => ∃ a kvs, xs = [V.ref a] ∧ H a = some (.dK kvs) ∧ ∀ p, H p = none → Q (.ref p) (upd H p (.dK kvs))) := by
  intro pins s σ H xs us Q I r h
  obtain ⟨a, kvs, rfl, ha, q⟩ := h
  obtain ⟨u, rfl, ru⟩ := vals1 r
  cases ru
  exact d_copyOf I (.inl ha) fun p s' hp I' => ⟨.ref p, _, I', rfl, q p hp⟩
def eqDk (ka kb : List (Key × V)) : Bool := ka.length == kb.length && ka.all fun p => match valV kb p.1 with
  | none => false
  | some y => eqV p.2 y
theorem hits_of {A : Around} {s : Shared} {kb : List (Key × V)} {vb : List (Key × Value)} (rb : KV kb vb) (fb : ∀ p ∈ kb, flatV p.2 = true) : ∀ {ka : List (Key × V)} {va : List (Key × Value)}, KV ka va → (∀ p ∈ ka, flatV p.2 = true) →
    PySem.W.KeqHits A s vb va (ka.all fun p => match valV kb p.1 with | none => false | some y => eqV p.2 y)
  | [], _, r, _ => by
    cases r
    exact .nil
  | (k, x) :: ka, _, r, f => by
    cases r with
    | @cons _ q _ qs h t =>
      obtain ⟨k', v⟩ := q
      obtain ⟨hk, hv⟩ := h
      dsimp only at hk hv
      subst hk
      have ih := hits_of (A := A) (s := s) rb fb t fun p hp => f p (List.mem_cons_of_mem _ hp)
      have ro := rb.val k
      rw [List.all_cons]
      dsimp only
      cases e : valV kb k with
      | none =>
        rw [e] at ro
        have e2 : valueAt vb k = none := by
          cases e3 : valueAt vb k with
          | none => rfl
          | some z => rw [e3] at ro; exact (show False from ro).elim
        exact .miss e2
      | some y =>
        rw [e] at ro
        cases e3 : valueAt vb k with
        | none => rw [e3] at ro; exact (show False from ro).elim
        | some z =>
          rw [e3] at ro
          refine .hit e3 (eqAt_V hv ro (f _ List.mem_cons_self) ?_) ih
          obtain ⟨p, hp, ep⟩ := Option.map_eq_some_iff.mp (show (kb.find? fun kv => decide (kv.1 = k)).map (·.2) = some y from e)
          rw [← ep]
          exact fb p (List.mem_of_find?_eq_some hp)
def rEqDk (neg : Bool) : R2 := fun x y H Q => ∃ (a b : Addr) (ka kb : List (Key × V)), x = .ref a ∧ y = .ref b ∧ H a = some (.dK ka) ∧ H b = some (.dK kb) ∧ (∀ p ∈ ka, flatV p.2 = true) ∧ (∀ p ∈ kb, flatV p.2 = true) ∧
  Q (.bl (if neg then !eqDk ka kb else eqDk ka kb)) H
theorem bits100 {k : Int} (h : k.natAbs < 2 ^ 100) : Builtin.Int.intBits k ≤ 100 := by
  unfold Builtin.Int.intBits
  split
  · exact Nat.zero_le _
  · have : k.natAbs.log2 < 100 := by
      rcases Nat.eq_zero_or_pos k.natAbs with h0 | hp
      · rw [h0]; decide
      · exact (Nat.log2_lt (Nat.ne_of_gt hp)).mpr h
    omega
def CMulB (i j : Int) : Prop := i.natAbs < 2 ^ 100 ∧ j.natAbs < 2 ^ 100
theorem op_mulB {X : Cx} : OpR X (binaryOp .Mult) (rI CMulB fun i j => .int (i * j)) := opI fun _ _ _ _ _ _ _ hc q => mul_int q (IntMulOk.of_le (bits100 hc.1) (bits100 hc.2) (by decide))
structure FunD (K : PySem.W.Frag) (x qual : Str) (st : Stmt) (f : Addr) (fd : FuncData) (dvs : List Value) : Prop where
  ex : ∃ (oc : Value) (od : Option Addr) (kV doc pm : Value) (an : Option Addr) (cdv ct : Value) (osl : Array (Option Value)) (dt : Addr) (o : Obj) (n : Nat),
    fd = PySem.W.fnOf x qual (defArgs st) (defBody st) (defScope st) (.ref dt) kV doc pm an cdv ct ∧ K.lookup f = some ⟨oc, od, .func fd, osl⟩ ∧ PySem.W.codeIn K cdv qual = true ∧ K.lookup dt = some o ∧ o.data = .seq dvs.toArray n
  kp : PySem.W.keepIn K (.ref f) = true
section
variable {P : Program} {w : World} {K : PySem.W.Frag} {mg : Str → Option Value} {base : Heap}
theorem FunD.ok {x qual : Str} {st : Stmt} {f : Addr} {fd : FuncData} {dvs : List Value} {N ps : List Str} {k : Nat} {sp : Sp} (F : FunD K x qual st f fd dvs) (S : FnScope N ps (defScope st)) (len : ∀ vs H Q E, sp vs H Q E → vs.length = ps.length)
    (hbody : ∀ (cdv : Value) (A : Around) (outer : List Env) (s : Shared) (H : Hp) (vs : List V) (Q : VK) (E : XK), Room k (A.deeper (envOfC qual (defScope st) s.heap.objs.size f cdv)) → sp vs H Q E →
      ∃ t, PSs (cxOf CX0 P w K mg base N qual (defScope st) f cdv A outer s H E).nox (defBody st) t ∧ t { nx := fun _ H' => Q .non H', rt := Q } (start N vs) H) : FnOk P w K mg base CX0 (k + 1) f fd ps sp := by
  obtain ⟨oc, od, kV, doc, pm, an, cdv, ct, osl, dt, o, n, rfl, lk, hcd, _⟩ := F.ex
  refine fn_of lk hcd S len fun A outer s H vs Q E hr hsp => ?_
  obtain ⟨t, h, q⟩ := hbody cdv A outer s H vs Q E hr hsp
  exact ⟨t, h.nox, q⟩
theorem funD_mk {x qual : Str} {st : Stmt} {f dt : Addr} {oc : Value} {od an : Option Addr} {osl : Array (Option Value)} {kV doc pm cdv ct : Value} {o : Obj} {dvs : List Value} {n : Nat} (l : K.lookup f = some ⟨oc, od, .func (PySem.W.fnOf x qual (defArgs st) (defBody st) (defScope st) (.ref dt) kV doc pm an cdv ct), osl⟩)
    (c : PySem.W.codeIn K cdv qual = true) (k : PySem.W.keepIn K (.ref f) = true) (ld : K.lookup dt = some o) (hd : o.data = .seq dvs.toArray n) : FunD K x qual st f (PySem.W.fnOf x qual (defArgs st) (defBody st) (defScope st) (.ref dt) kV doc pm an cdv ct) dvs :=
  ⟨⟨oc, od, kV, doc, pm, an, cdv, ct, osl, dt, o, n, rfl, l, c, ld, hd⟩, k⟩
structure FnD (P : Program) (w : World) (K : PySem.W.Frag) (mg : Str → Option Value) (base : Heap) (k : Nat) (x : Str) (f : Addr) (fd : FuncData) (ps : List Str) (sp : Sp) : Prop where
  ok : FnOk P w K mg base CX0 k f fd ps sp
  bd0 : Binds K fd ps []
  bd1 : Binds K fd ps [.none]
  bd2 : Binds K fd ps [.none, .none]
  kp : PySem.W.keepIn K (.ref f) = true
  gl : mg x = some (.ref f)
theorem FnD.up {j k : Nat} {x : Str} {f : Addr} {fd : FuncData} {ps : List Str} {sp : Sp} (F : FnD P w K mg base j x f fd ps sp) (h : j ≤ k) : FnD P w K mg base k x f fd ps sp := ⟨F.ok.mono h, F.bd0, F.bd1, F.bd2, F.kp, F.gl⟩
structure FnM (P : Program) (w : World) (K : PySem.W.Frag) (mg : Str → Option Value) (base : Heap) (k : Nat) (C : Addr) (m : Str) (f : Addr) (fd : FuncData) (ps : List Str) (sp : Sp) : Prop where
  ok : FnOk P w K mg base CX0 k f fd ps sp
  bd : Binds K fd ps []
  mt : Meth K C m f
theorem FnM.up {j k : Nat} {C : Addr} {m : Str} {f : Addr} {fd : FuncData} {ps : List Str} {sp : Sp} (F : FnM P w K mg base j C m f fd ps sp) (h : j ≤ k) : FnM P w K mg base k C m f fd ps sp := ⟨F.ok.mono h, F.bd, F.mt⟩
end
end L2
set_option Elab.async false
set_option linter.all false
set_option maxRecDepth 100000
set_option maxHeartbeats 4000000
namespace L2
open PySem PySem.Spec PyProof.Rows
theorem rv_owner : Manifest.owners.lookup (String.ofList ['d', 'e', 's', 'r', 'e', 'v', 'e', 'r'].reverse) = some Manifest.sig_reversed := by kernel_rfl
theorem rv_next : Slot "reversed" "__next__" "reversed.__next__" := .of (owner := "reversed") (n := "__next__") (by rw [typeLookup_type, builtinLookup_eq_fast]; kernel_rfl) (by decide +kernel) (by decide +kernel) (by decide +kernel) (by first | exact .inl (by decide +kernel) | exact .inr (by decide +kernel)) (by rw [isSubtype_type]; kernel_rfl)
theorem rv_next_entry : entryFor table "reversed.__next__" = some Builtin.«reversed.__next__» := entryFor_of_tree (by kernel_rfl)
theorem rv_next_args (a : Value) : argsOk "reversed.__next__" ⟨[a], []⟩ := by unfold argsOk; rw [signature?_of (id := "reversed.__next__") (n := ['_', '_', 't', 'x', 'e', 'n', '_', '_']) (o := ['d', 'e', 's', 'r', 'e', 'v', 'e', 'r']) (by kernel_rfl) rv_owner]; kernel_rfl
theorem rv_iter : Slot "reversed" "__iter__" "reversed.__iter__" := .of (owner := "reversed") (n := "__iter__") (by rw [typeLookup_type, builtinLookup_eq_fast]; kernel_rfl) (by decide +kernel) (by decide +kernel) (by decide +kernel) (by first | exact .inl (by decide +kernel) | exact .inr (by decide +kernel)) (by rw [isSubtype_type]; kernel_rfl)
theorem rv_iter_args (a : Value) : argsOk "reversed.__iter__" ⟨[a], []⟩ := by unfold argsOk; rw [signature?_of (id := "reversed.__iter__") (n := ['_', '_', 'r', 'e', 't', 'i', '_', '_']) (o := ['d', 'e', 's', 'r', 'e', 'v', 'e', 'r']) (by kernel_rfl) rv_owner]; kernel_rfl
theorem rv_iter_entry : entryFor table "reversed.__iter__" = some Builtin.«dict_keyiterator.__iter__» := entryFor_alias (id' := "dict_keyiterator.__iter__") (by kernel_rfl) (by first | rfl | decide +kernel | (unfold String.splitOn; simp +decide [String.splitOnAux])) (by decide +kernel) (by kernel_rfl)
theorem rv_init : Slot "reversed" "__init__" "object.__init__" := .of (owner := "object") (n := "__init__") (by rw [typeLookup_type, builtinLookup_eq_fast]; kernel_rfl) (by decide +kernel) (by decide +kernel) (by decide +kernel) (by first | exact .inl (by decide +kernel) | exact .inr (by decide +kernel)) (by rw [isSubtype_type]; kernel_rfl)
theorem rv_called : TypeCalled "reversed" "reversed.__new__" "object.__init__" := ⟨by decide +kernel, F.create_reversed, ⟨_, _, F.mro_reversed⟩, F.made_reversed, F.plain_reversed_new, F.sub_reversed_self, rv_init⟩
theorem tup_no_rev : typeLookup (.type "tuple") "__reversed__" = pure none := by rw [typeLookup_type, builtinLookup_eq_fast]; kernel_rfl
def rvObj (l : Addr) (i : Int) : Obj := { cls := .type "reversed", data := .fields #[.ref l, rawInt i] }
theorem meets_revT (l : Addr) (items : Array Value) (hz : (items.size : Int) < 2 ^ 63) :
    Meets (Builtin.«reversed.__new__» ⟨[.type "reversed", .ref l], []⟩) (fun _ R s => IsTup s.heap l items ∧ R (.ok (.ret (.ref s.heap.objs.size))) { s with heap := s.heap.push (rvObj l ((items.size : Int) - 1)), toks := s.toks + 1 + 1 }) :=
  .of_wp fun prog w A R s h => by
    obtain ⟨ht, h⟩ := h
    unfold Builtin.«reversed.__new__»
    refine wpAny_bind (wpAny_of_eq (newClass_reversed _) ?_); dsimp only
    refine wpAny_bind (wpAny_of_eq (a := ()) (by first | rfl | kernel_rfl) ?_); refine wpAny_bind (wpAny_of_eq (a := ()) (by first | rfl | kernel_rfl) ?_); try dsimp only
    refine wpAny_bind (wpAny_specialOf ht.typeIs tup_no_rev ?_); dsimp only
    refine wpAny_bind ?_; show wpAny _ _ (isInstance (.ref l) (.type "dict") >>= _) _ _ s; refine wpAny_bind (wpAny_isInstance ht.typeIs F.sub_tuple_dict ?_)
    show wpAny _ _ (specialOf (.ref l) "__getitem__" >>= _) _ _ s; refine wpAny_bind (wpAny_specialOf ht.typeIs slot_tuple_getitem.lookup ?_)
    dsimp only; rw [if_pos (by decide)]; refine wpAny_pure ?_
    show wpAny _ _ (call (.builtin "len") [.ref l] >>= _) _ _ s; refine wpAny_bind (len_tuple ht hz ?_)
    refine wpAny_bind (wpAny_of_eq (a := some (items.size : Int)) rfl ?_); dsimp only
    refine wpAny_bind ?_; unfold Builtin.SmallTypes.newRecord; dsimp only; refine wpAny_newObj_type ?_ (by size_fits); exact wpAny_pure ⟨_, rfl, h⟩
section
variable {prog : Program} {w : World} {A : Around} {E : Value → Shared → Prop} {s : Shared}
theorem call_revT {l : Addr} {items : Array Value} {Q : Value → Shared → Prop} (ht : IsTup s.heap l items) (hz : (items.size : Int) < 2 ^ 63) (h : Q (.ref s.heap.objs.size) { s with heap := s.heap.push (rvObj l ((items.size : Int) - 1)), toks := s.toks + 1 + 1 }) :
    wpAny (model prog w) A (call (.type "reversed") [.ref l]) Q E s := by
  refine callType_new rv_called (by decide) (F.typeCall_reversed_1 _) (F.newCall_reversed_1 _) (fun obj => F.args_object_init_2 obj _) F.entry_reversed_new (meets_revT l items hz) ⟨ht, ?_⟩
  exact ⟨⟨_, Heap.get?_push_size _ rfl, rfl⟩, h⟩
theorem iter_rv {it t : Addr} {i : Int} {Q : Value → Shared → Prop} (hit : s.heap.get? it = some (rvObj t i)) (h : Q (.ref it) s) : wpAny (model prog w) A (pyIter (.ref it)) Q E s := by
  have hT : s.TypeIs (.ref it) "reversed" := ⟨_, hit, rfl⟩
  refine wpAny_pyIter_slot hT rv_iter (wpAny_call_entry rv_iter hT rv_iter_entry ?_ (rv_iter_args _)); show wpAny _ _ (ret (.ref it)) _ _ s
  exact wpAny_pure ⟨_, rfl, "reversed", _, hT, rv_next.lookup, h⟩
theorem next_rv {it t : Addr} {i : Nat} {items : Array Value} {x : Value} {Q : Option Value → Shared → Prop} (hit : s.heap.get? it = some (rvObj t (i : Int))) (ht : IsTup s.heap t items) (hne : t ≠ it) (hz : (items.size : Int) < 2 ^ 63) (hx : items[i]? = some x)
    (hQ : ∀ h' tk, h'.get? it = some (rvObj t ((i : Int) - 1)) → Heap.SameBut it s.heap h' → Q (some x) { s with heap := h', toks := tk }) : wpAny (model prog w) A (pyNext (.ref it)) Q E s := by
  have hT : s.TypeIs (.ref it) "reversed" := ⟨_, hit, rfl⟩
  have hi : i < items.size := by
    rcases Nat.lt_or_ge i items.size with h | h
    · exact h
    · rw [Array.getElem?_eq_none h] at hx; cases hx
  unfold pyNext
  refine wpAny_bind (wpAny_attempt (wpAny_callSpecial?_slot (name := Str.ofString "__next__") hT rv_next (wpAny_call_entry rv_next hT rv_next_entry ?_ (rv_next_args _))))
  unfold Builtin.«reversed.__next__»; refine wpAny_bind (wpAny_of_eq (a := (Value.ref it, [])) rfl ?_); dsimp only
  refine wpAny_bind (wpAny_field hit rfl (x := .ref t) rfl ?_); refine wpAny_bind (wpAny_field hit rfl (x := rawInt (i : Int)) rfl ?_)
  show wpAny _ _ (if (i : Int) < 0 then _ else _) _ _ s; rw [if_neg (by omega)]
  show wpAny _ _ (specialOf (.ref t) "__getitem__" >>= _) _ _ s; refine wpAny_bind (wpAny_specialOf ht.typeIs slot_tuple_getitem.lookup ?_)
  rw [if_neg (by decide)]
  show wpAny _ _ (mkInt (i : Int) >>= _) _ _ s; refine wpAny_bind (wpAny_mkInt ?_)
  refine wpAny_bind (wpAny_attempt (getItem_tuple (j := i) (x := x) ht (by omega) (by omega) (seqIndex_of (by omega) (by omega)) hx ?_)); dsimp only
  refine wpAny_bind (wpAny_field hit rfl (x := rawInt (i : Int)) rfl ?_)
  refine wpAny_bind (wpAny_setField_rec hit (by simp) fun q1 h1 hs1 => ?_)
  refine wpAny_pure ⟨x, rfl, wpAny_pure (hQ q1 _ ?_ hs1)⟩
  exact h1
theorem end_rv {it t : Addr} {i : Int} {Q : Option Value → Shared → Prop} (hh : A.handled = none) (hit : s.heap.get? it = some (rvObj t i)) (hi : i < 0)
    (hQ : ∀ h' tk, Heap.ExtBut it s.heap h' → Q none { s with heap := h', toks := tk }) : wpAny (model prog w) A (pyNext (.ref it)) Q E s := by
  have hT : s.TypeIs (.ref it) "reversed" := ⟨_, hit, rfl⟩
  unfold pyNext
  refine wpAny_bind (wpAny_attempt (wpAny_callSpecial?_slot (name := Str.ofString "__next__") hT rv_next (wpAny_call_entry rv_next hT rv_next_entry ?_ (rv_next_args _))))
  unfold Builtin.«reversed.__next__»; refine wpAny_bind (wpAny_of_eq (a := (Value.ref it, [])) rfl ?_); dsimp only
  refine wpAny_bind (wpAny_field hit rfl (x := .ref t) rfl ?_); refine wpAny_bind (wpAny_field hit rfl (x := rawInt i) rfl ?_)
  show wpAny _ _ (if i < 0 then _ else _) _ _ s; rw [if_pos hi]; refine wpAny_bind (wpAny_rule ?_)
  refine wpAny_bind ?_; show wpAny _ _ (setField (.ref it) 1 (rawInt (-1)) >>= _) _ _ s; refine wpAny_bind (wpAny_setField_rec hit (by simp) fun q1 h1 hs1 => ?_)
  refine wpAny_setField_rec h1 (by simp) fun q2 h2 hs2 => ?_
  refine wpAny_bind ?_; show wpAny _ _ (newExc (.type "StopIteration") [] >>= _) _ _ _; refine wpAny_bind ?_; simp only [newExc, newTuple]; refine wpAny_bind (wpAny_newObj_type ?_ (by size_fits))
  refine wpAny_bind (m := firstArgMember _ _) (wpAny_of_eq (a := Value.none) (by first | rfl | (simp only [firstArgMember]; rfl)) ?_); refine wpAny_newObj_type ?_ (by size_fits)
  simp only [raiseNew]; refine wpAny_bind (wpAny_handled ?_); first | rw [show A.in1.handled = none from hh] | rw [hh]
  refine wpAny_bind (wpAny_pure (wpAny_throw ?_)); refine wpAny_bind (wpAny_isInstance (T := "StopIteration") (b := true) ⟨_, Heap.get?_push_size _ rfl, rfl⟩ isSubtype_stop ?_)
  exact wpAny_pure (hQ _ _ (((hs1.extBut.trans hs2.extBut).push _).push _))
end
def Itv (K : PySem.W.Frag) (a : Addr) (n : Nat) : It :=
  ⟨fun i H => i < n ∧ ∃ xs x, SqT K H a xs ∧ xs.length = n ∧ xs[n - 1 - i]? = some x, fun i H x H' => H' = H ∧ ∀ xs, SqT K H a xs → xs[n - 1 - i]? = some x, fun i _ => n ≤ i⟩
theorem turn_rv {P : Program} {w : World} {K : PySem.W.Frag} {tg : Expr} (a it : Addr) (n : Nat) : Turn P w K tg (Itv K a n) [it] it (fun i h => h.get? it = some (rvObj a ((n : Int) - 1 - (i : Nat)))) where
  mem := by simp
  obj := fun i h st b hb => by
    have e : b = it := by simpa using hb
    subst e
    exact ⟨_, st, fun v z => by have z' : Data.fields _ = Data.cell v := z; cases z'⟩
  keep := fun i h h' st k => k it (by simp) _ st
  item := by
    intro X hP hw hK hc i pins s σ H E I hf st hg
    subst hP hw hK
    obtain ⟨hin, xs, x, hq, hl, hx⟩ := hg
    obtain ⟨its, rv, p, hz⟩ := I.tuple hq
    obtain ⟨u, hu, ru⟩ := rv.get hx
    obtain ⟨f0, f1, f2, f3, f4, f5⟩ := hf it (by simp)
    have hn := line63
    have hlv := rv.length
    have hai : a ≠ it := fun z => by
      obtain ⟨o1, q1, c1, _⟩ := p
      rw [z, st] at q1; cases q1; injection c1 with c3; exact absurd c3 (by decide)
    have e : (n : Int) - 1 - (i : Nat) = ((n - 1 - i : Nat) : Int) := by omega
    rw [e] at st
    refine next_rv st p hai (by rw [List.size_toArray]; omega) (x := u) (by simpa using hu) fun h' tk st' sb => ?_
    have I1 : Inv X pins σ H { s with heap := h', toks := tk } := I.turned (t' := tk) (fun b o hb e => (sb.2 b hb).trans e) f0 f1 f3 f4 f5
    refine ⟨u, rfl, go_of (s := { s with heap := h', toks := tk }) (n := "reversed") st' rfl rfl (by decide) ⟨x, H, I1, ru, ⟨rfl, fun ys hy => by rw [I.tuple_inj hy hq]; exact hx⟩, ?_, fun b hb => (hf b hb).1⟩⟩
    have e2 : (n : Int) - 1 - ((i + 1 : Nat) : Int) = ((n - 1 - i : Nat) : Int) - 1 := by omega
    show h'.get? it = some (rvObj a ((n : Int) - 1 - ((i + 1 : Nat) : Int)))
    rw [e2]
    exact st'
  done := by
    intro X hP hw hK hc i pins s σ H E I hf st hg
    subst hP hw hK
    obtain ⟨f0, f1, f2, f3, f4, f5⟩ := hf it (by simp)
    have hg' : n ≤ i := hg
    exact end_rv (I.ok.hd hc) st (by omega) fun h' tk eb => ⟨rfl, I.turned (t' := tk) (fun b o hb e => eb b o hb e) f0 f1 f3 f4 f5⟩
  self := fun _ _ _ _ _ st h => iter_rv st h
def iRev (K : PySem.W.Frag) (ta : TA) : TI := fun σ H R => ta σ H fun vs H1 => ∃ a, vs = [.ref a] ∧ ∃ xs, SqT K H1 a xs ∧ R (Itv K a xs.length) H1
theorem pi_revT {X : Cx} {tg a : Expr} {ta : TA} {p pos : Pos} (hg : Gl X "reversed") (hm : X.mg "reversed" = none) (ha : PA X [a] ta) (hs : starEach [a] X.env = [(false, eval a X.env)] := by rfl) : PI X tg (.Call (.Name "reversed" p) [a] [] pos) (iRev X.K ta) := by
  intro pins s σ H R I h
  refine Call_ (ld_blt I hg hm boot_reversed (PyProof.Rows.callWith_type1 (thn (ha pos pins s σ H _ I h) fun us s1 ⟨vs, H1, I1, r1, q1⟩ => ?_) hs rfl))
  obtain ⟨b, e, xs, hq, q⟩ := q1
  subst e
  obtain ⟨u, rfl, ru⟩ := vals1 r1
  cases ru
  obtain ⟨its, rv, tp, hz⟩ := I1.tuple hq
  have hl := rv.length
  have hn := line63
  refine call_revT tp (by rw [List.size_toArray]; omega) ?_
  have hnew : (s1.heap.push (rvObj b ((its.toArray.size : Int) - 1))).get? s1.heap.objs.size = some (rvObj b ((its.toArray.size : Int) - 1)) := Heap.get?_push_size _ rfl
  refine iter_rv hnew ⟨_, [s1.heap.objs.size], _, _, H1, rfl, I1.kept (t' := s1.toks + 1 + 1) (fun c o e => Heap.get?_push_of_some _ e), turn_rv b _ xs.length, ?_, fun c hc => ?_, q⟩
  · show _ = some (rvObj b ((xs.length : Int) - 1 - ((0 : Nat) : Int)))
    rw [hnew, List.size_toArray, hl]
    simp
  · have e := List.mem_singleton.mp hc
    subst e
    exact I1.fpOk (Nat.le_refl _) (I1.hok.fresh (Nat.le_refl _))
theorem for_rev {K : PySem.W.Frag} {a : Addr} {xs : List V} {g : TG} {tb : TS} {D : Ends} {σ : St} {H : Hp} (Pv : Nat → St → Hp → Prop) (h0 : Pv 0 σ H) (hl : ∀ i σ H, i ≤ xs.length → Pv i σ H → SqT K H a xs)
    (hs : ∀ i x σ H, i < xs.length → xs[xs.length - 1 - i]? = some x → Pv i σ H → g x σ H fun σ2 H2 => tb { D with nx := Pv (i + 1), ct := Pv (i + 1), bk := D.nx } σ2 H2) (hd : ∀ σ H, Pv xs.length σ H → D.nx σ H) :
    ∃ W : Nat → Nat → St → Hp → Prop, (∃ m, W 0 m σ H) ∧ ∀ i m σ H, W i m σ H →
      ((Itv K a xs.length).stop i H ∧ D.nx σ H) ∨ ((Itv K a xs.length).go i H ∧ ∃ N : St → Hp → Prop, (∀ σ' H', N σ' H' → ∃ m', m' < m ∧ W (i + 1) m' σ' H') ∧ ∀ x H', (Itv K a xs.length).yld i H x H' → g x σ H' fun σ2 H2 => tb { D with nx := N, ct := N, bk := D.nx } σ2 H2) := by
  refine ⟨fun i m σ H => m = xs.length - i ∧ i ≤ xs.length ∧ Pv i σ H, ⟨xs.length, by simp, Nat.zero_le _, h0⟩, ?_⟩
  rintro i m σ H ⟨rfl, hi, p⟩
  have q := hl i σ H hi p
  by_cases hlt : i < xs.length
  · have hk : xs.length - 1 - i < xs.length := by omega
    refine .inr ⟨⟨hlt, xs, xs[xs.length - 1 - i], q, rfl, by simp [hk]⟩, Pv (i + 1), fun σ' H' p' => ⟨xs.length - (i + 1), by omega, rfl, hlt, p'⟩, fun x H' y => ?_⟩
    obtain ⟨eH, y⟩ := y
    subst eH
    exact hs i x σ _ hlt (y xs q) p
  · have e : i = xs.length := by omega
    subst e
    exact .inl ⟨Nat.le_refl _, hd σ H p⟩
end L2
set_option Elab.async false
set_option linter.all false
set_option maxRecDepth 100000
set_option maxHeartbeats 4000000
namespace L2
open PySem PySem.Spec PyProof.Rows
theorem strs_back : ∀ {ys : List Str} {us : List Value}, Vals (ys.map V.str) us → StrsAre us ys
  | [], _, h => by cases h; exact .nil
  | y :: ys, _, h => by
    cases h with
    | cons r t =>
      obtain ⟨tk, rfl⟩ := r
      exact .cons y tk (strs_back t)
def rJoin : V → List V → Hp → VK → Prop := fun x xs H Q => ∃ (z : Str) (l : Addr) (ys : List Str), x = .str z ∧ xs = [.ref l] ∧ H l = some (.lst (ys.map V.str)) ∧ z.length ≤ 16 ∧ (ys.map (·.length)).sum + ys.length ≤ 1048576 ∧ Q (.str (Txt.join z ys)) H
theorem mt_join {X : Cx} : MtR X "str.join" rJoin := by
  intro pins s σ H x xs v us Q I rx rs h
  obtain ⟨z, l, ys, rfl, rfl, hl, hz, hw, q⟩ := h
  obtain ⟨t, rfl⟩ := rx
  obtain ⟨u, rfl, ru⟩ := Vals.one rs
  cases ru
  obtain ⟨_, its, n, r, le, e⟩ := I.lstM hl
  have L1 : s.heap.IsList l its.toArray := ⟨_, e, rfl, _, rfl⟩
  exact join_listW L1 (strs_back r) hz hw fun t' k => ⟨.str _, H, I.tok k, ⟨t', rfl⟩, q⟩
def Itw (K : PySem.W.Frag) (a : Addr) (n : Nat) : It :=
  ⟨fun i H => i < n ∧ ∃ xs x, SqL K H a xs ∧ xs.length = n ∧ xs[n - 1 - i]? = some x, fun i H x H' => H' = H ∧ ∀ xs, SqL K H a xs → xs[n - 1 - i]? = some x, fun i _ => i = n⟩
def iRevL (K : PySem.W.Frag) (ta : TA) : TI := fun σ H R => ta σ H fun vs H1 => ∃ a, vs = [.ref a] ∧ ∃ xs, SqL K H1 a xs ∧ R (Itw K a xs.length) H1
theorem comp_rangeR {lo : Int} {n : Nat} {acc : Addr} {g : TG} {tt : TT} {te : TE} {σ : L2.St} {H : Hp} {R : Hp → Prop} (Pv : Nat → Hp → Prop) (h0 : Pv 0 (upd H acc (.lst [])))
    (hs : ∀ i H, i < n → Pv i H → g (.int (lo + i)) σ H fun σ2 H4 => Ext σ σ2 ∧ tt σ2 H4 fun b H5 =>
      if b = true then te σ2 H5 fun y H6 => ∃ zs, H6 acc = some (.lst zs) ∧ zs.length < sizeLine ∧ Pv (i + 1) (upd H6 acc (.lst (zs ++ [y]))) else Pv (i + 1) H5) (hd : ∀ H, Pv n H → R H) :
    ∃ W : Nat → Nat → Hp → Prop, (∃ m, W 0 m (upd H acc (.lst []))) ∧ ∀ i m H2, W i m H2 →
      ((Itr lo n).stop i H2 ∧ R H2) ∨ ((Itr lo n).go i H2 ∧ ∃ N : Hp → Prop, (∀ H', N H' → ∃ m', m' < m ∧ W (i + 1) m' H') ∧ ∀ x H3, (Itr lo n).yld i H2 x H3 → g x σ H3 fun σ2 H4 => Ext σ σ2 ∧ tt σ2 H4 fun b H5 =>
        if b = true then te σ2 H5 fun y H6 => ∃ zs, H6 acc = some (.lst zs) ∧ zs.length < sizeLine ∧ N (upd H6 acc (.lst (zs ++ [y])))
        else N H5) := comp_range (Q := fun _ H => R H) Pv h0 hs hd
end L2
set_option Elab.async false
set_option linter.all false
set_option maxRecDepth 100000
set_option maxHeartbeats 4000000
namespace L2
open PySem PySem.Spec PyProof.Rows
def Itr2 (n : Nat) : It := ⟨fun i _ => i < n, fun i H x H' => H' = H ∧ x = .int ((i : Int) * 2), fun i _ => n ≤ i⟩
theorem turn_range2 {P : Program} {w : World} {K : PySem.W.Frag} {tg : Expr} (it : Addr) (n : Nat) : Turn P w K tg (Itr2 n) [it] it (fun i h => IsRangeIter h it (0 + (i : Nat) * 2) ((n : Int) - (i : Nat)) 2) where
  mem := by simp
  obj := fun i h st b hb => by
    have e : b = it := by simpa using hb
    subst e
    exact ⟨_, st, fun v z => by have z' : Data.fields _ = Data.cell v := z; cases z'⟩
  keep := fun i h h' st k => k it (by simp) _ st
  item := by
    intro X hP hw hK hc i pins s σ H E I hf st hg
    subst hP hw hK
    obtain ⟨f0, f1, f2, f3, f4, f5⟩ := hf it (by simp)
    refine (Walks.range (prog := X.prog) (w := X.w) (I.ok.hd hc) it 0 2 n).item i s _ _ hg st fun v h' tk hv st' kk => ?_
    obtain ⟨t, rfl⟩ := hv
    have I1 : Inv X pins σ H { s with heap := h', toks := tk } := I.turned (fun b o hb e => kk b o (by simpa using hb) e) f0 f1 f3 f4 f5
    refine ⟨_, rfl, go_of (s := { s with heap := h', toks := tk }) (n := "range_iterator") st' rfl rfl (by decide) ⟨.int ((i : Int) * 2), H, I1, ⟨t, by rw [Int.zero_add]⟩, ⟨rfl, rfl⟩, st', fun b hb => (hf b hb).1⟩⟩
  done := by
    intro X hP hw hK hc i pins s σ H E I hf st hg
    subst hP hw hK
    obtain ⟨f0, f1, f2, f3, f4, f5⟩ := hf it (by simp)
    exact wpAny_pyNext_range_end (I.ok.hd hc) st (by have : n ≤ i := hg; omega) fun h' eb => ⟨rfl, I.turned (t' := s.toks) (fun b o hb e => eb b o hb e) f0 f1 f3 f4 f5⟩
  self := fun _ _ _ _ _ st h => wpAny_pyIter_rangeiter st h
def iRng3 (ta : TA) : TI := fun σ H R => ta σ H fun vs H1 => ∃ j : Int, vs = [.int 0, .int j, .int 2] ∧ 0 ≤ j ∧ j < 1000 ∧ R (Itr2 ((j + 1) / 2).toNat) H1
theorem size_two {j : Int} (h : 0 ≤ j) : Builtin.Range.rangeSize 0 j 2 = (j + 1) / 2 := by
  unfold Builtin.Range.rangeSize
  rw [if_pos (by decide)]
  split <;> omega
theorem small_two {j : Int} (h : 0 ≤ j) (h' : j < 1000) : Builtin.Range.small 0 j 2 = true := by
  unfold Builtin.Range.small
  rw [size_two h]
  simp only [Builtin.Range.rangeFitsLong, Bool.and_eq_true, Bool.or_eq_true, decide_eq_true_eq, beq_iff_eq, show (2 : Int) > 0 by decide, if_true]
  omega
theorem pi_range3 {X : Cx} {tg a b c : Expr} {ta : TA} {p pos : Pos} (hg : Gl X "range") (hm : X.mg "range" = none) (ha : PA X [a, b, c] ta) (hs : starEach [a, b, c] X.env = (false, eval a X.env) :: starEach [b, c] X.env := by rfl) (hs2 : (backTo pos (starEach [b, c] X.env)).any (·.1) = false := by rfl) :
    PI X tg (.Call (.Name "range" p) [a, b, c] [] pos) (iRng3 ta) := by
  intro pins s σ H R I h
  refine Call_ (ld_blt I hg hm boot_range (PyProof.Rows.callWith_type1 (thn (ha pos pins s σ H _ I h) fun us s1 ⟨vs, H1, I1, r1, q1⟩ => ?_) hs hs2))
  obtain ⟨j, e, j0, j1, q⟩ := q1
  subst e
  cases r1 with
  | cons r rr =>
    cases rr with
    | cons r' rr =>
      cases rr with
      | cons r'' rr =>
        cases rr
        obtain ⟨t, rfl⟩ := r
        obtain ⟨t', rfl⟩ := r'
        obtain ⟨t'', rfl⟩ := r''
        refine call_range_3 (by decide) ?_ (.inl (PyProof.noPylong_small (by decide)))
        refine wpAny_pyIter_range (IsRange.new ..) (small_two j0 j1) ?_
        have I2 : Inv X pins σ H1 { s1 with heap := s1.heap.push { cls := .type "range", data := .fields #[.int 0 t, .int j t', .int 2 t''] } } := I1.kept (t' := s1.toks) fun b o e => Heap.get?_push_of_some _ e
        refine ⟨(s1.heap.push { cls := .type "range", data := .fields #[.int 0 t, .int j t', .int 2 t''] }).objs.size, [(s1.heap.push { cls := .type "range", data := .fields #[.int 0 t, .int j t', .int 2 t''] }).objs.size], _, _, H1, rfl,
          I2.kept (t' := s1.toks) fun b o e => Heap.get?_push_of_some _ e, turn_range2 _ ((j + 1) / 2).toNat, ?_, fun b hb => ?_, q⟩
        · have e1 : (0 : Int) + ((0 : Nat) : Int) * 2 = 0 := by simp
          have e2 : ((((j + 1) / 2).toNat : Nat) : Int) - ((0 : Nat) : Int) = Builtin.Range.rangeSize 0 j 2 := by rw [size_two j0]; omega
          show IsRangeIter _ _ ((0 : Int) + ((0 : Nat) : Int) * 2) (((((j + 1) / 2).toNat : Nat) : Int) - ((0 : Nat) : Int)) 2
          rw [e1, e2]
          exact Heap.get?_push_size _ rfl
        · have e := List.mem_singleton.mp hb
          subst e
          exact I2.fpOk (Nat.le_refl _) (I2.hok.fresh (Nat.le_refl _))
theorem comp_listR {K : PySem.W.Frag} {a : Addr} {xs : List V} {acc : Addr} {g : TG} {tt : TT} {te : TE} {σ : L2.St} {H : Hp} {R : Hp → Prop} (Pv : Nat → Hp → Prop) (h0 : Pv 0 (upd H acc (.lst []))) (hl : ∀ i H, i ≤ xs.length → Pv i H → SqL K H a xs)
    (hs : ∀ i x H, xs[i]? = some x → Pv i H → g x σ H fun σ2 H4 => Ext σ σ2 ∧ tt σ2 H4 fun b H5 =>
      if b = true then te σ2 H5 fun y H6 => ∃ zs, H6 acc = some (.lst zs) ∧ zs.length < sizeLine ∧ Pv (i + 1) (upd H6 acc (.lst (zs ++ [y]))) else Pv (i + 1) H5) (hd : ∀ H, Pv xs.length H → R H) :
    ∃ W : Nat → Nat → Hp → Prop, (∃ m, W 0 m (upd H acc (.lst []))) ∧ ∀ i m H2, W i m H2 →
      ((Itl K a).stop i H2 ∧ R H2) ∨ ((Itl K a).go i H2 ∧ ∃ N : Hp → Prop, (∀ H', N H' → ∃ m', m' < m ∧ W (i + 1) m' H') ∧ ∀ x H3, (Itl K a).yld i H2 x H3 → g x σ H3 fun σ2 H4 => Ext σ σ2 ∧ tt σ2 H4 fun b H5 =>
        if b = true then te σ2 H5 fun y H6 => ∃ zs, H6 acc = some (.lst zs) ∧ zs.length < sizeLine ∧ N (upd H6 acc (.lst (zs ++ [y])))
        else N H5) := by
  refine ⟨fun i m H => m = xs.length - i ∧ i ≤ xs.length ∧ Pv i H, ⟨xs.length, by simp, Nat.zero_le _, h0⟩, ?_⟩
  rintro i m H2 ⟨rfl, hi, p⟩
  have q := hl i H2 hi p
  by_cases hlt : i < xs.length
  · refine .inr ⟨⟨xs, xs[i], q, by simp [hlt]⟩, Pv (i + 1), fun H' p' => ⟨xs.length - (i + 1), by omega, rfl, hlt, p'⟩, fun x H' y => ?_⟩
    obtain ⟨e, y⟩ := y
    subst e
    exact hs i x _ (y xs q) p
  · have e : i = xs.length := by omega
    subst e
    exact .inl ⟨⟨xs, q, Nat.le_refl _⟩, hd H2 p⟩
end L2
set_option Elab.async false
set_option linter.all false
set_option maxRecDepth 100000
set_option maxHeartbeats 4000000
namespace L2
open PySem PySem.Spec PyProof.Rows
theorem ints_back : ∀ {ns : List Int} {us : List Value}, Vals (ns.map V.int) us → IntsAre us ns
  | [], _, h => by cases h; exact .nil
  | n :: ns, _, h => by
    cases h with
    | cons r t =>
      obtain ⟨tk, rfl⟩ := r
      exact .cons n tk (ints_back t)
theorem call_maxL {X : Cx} (hc : X.calm = true) : CallR X (.builtin "max") (fun xs H Q => ∃ (l : Addr) (ns : List Int), xs = [.ref l] ∧ H l = some (.lst (ns.map V.int)) ∧ 0 < ns.length ∧ ∀ M : Int, Q (.int M) H) := by
  intro pins s σ H xs us Q I r h
  obtain ⟨l, ns, rfl, hl, hn, q⟩ := h
  obtain ⟨u, rfl, ru⟩ := vals1 r
  cases ru
  obtain ⟨_, its, n, rv, le, e⟩ := I.lstM hl
  have L1 : s.heap.IsList l its.toArray := ⟨_, e, rfl, _, rfl⟩
  have hi := ints_back rv
  obtain ⟨xs, ex⟩ := hi.allInts.items
  rw [ex] at L1
  have hsz : 0 < xs.size := by
    have h1 : its.toArray.size = its.length := by simp
    have h2 := congrArg Array.size ex
    rw [h1, ← le, List.length_map] at h2
    have h3 : (intItems xs).size = xs.size := by simp [intItems]
    omega
  refine max_intList (I.ok.hd hc) L1 hsz fun v h' tk hv hk => ?_
  obtain ⟨t, rfl⟩ := intItems_at hv
  exact ⟨.int _, H, I.kept hk, ⟨t, rfl⟩, q _⟩
theorem comp_range3R {n : Nat} {acc : Addr} {g : TG} {tt : TT} {te : TE} {σ : L2.St} {H : Hp} {R : Hp → Prop} (Pv : Nat → Hp → Prop) (h0 : Pv 0 (upd H acc (.lst [])))
    (hs : ∀ i H, i < n → Pv i H → g (.int ((i : Int) * 2)) σ H fun σ2 H4 => Ext σ σ2 ∧ tt σ2 H4 fun b H5 =>
      if b = true then te σ2 H5 fun y H6 => ∃ zs, H6 acc = some (.lst zs) ∧ zs.length < sizeLine ∧ Pv (i + 1) (upd H6 acc (.lst (zs ++ [y]))) else Pv (i + 1) H5) (hd : ∀ H, Pv n H → R H) :
    ∃ W : Nat → Nat → Hp → Prop, (∃ m, W 0 m (upd H acc (.lst []))) ∧ ∀ i m H2, W i m H2 →
      ((Itr2 n).stop i H2 ∧ R H2) ∨ ((Itr2 n).go i H2 ∧ ∃ N : Hp → Prop, (∀ H', N H' → ∃ m', m' < m ∧ W (i + 1) m' H') ∧ ∀ x H3, (Itr2 n).yld i H2 x H3 → g x σ H3 fun σ2 H4 => Ext σ σ2 ∧ tt σ2 H4 fun b H5 =>
        if b = true then te σ2 H5 fun y H6 => ∃ zs, H6 acc = some (.lst zs) ∧ zs.length < sizeLine ∧ N (upd H6 acc (.lst (zs ++ [y])))
        else N H5) := by
  refine ⟨fun i m H => m = n - i ∧ i ≤ n ∧ Pv i H, ⟨n, by simp, Nat.zero_le _, h0⟩, ?_⟩
  rintro i m H2 ⟨rfl, hi, p⟩
  by_cases hlt : i < n
  · refine .inr ⟨hlt, Pv (i + 1), fun H' p' => ⟨n - (i + 1), by omega, rfl, hlt, p'⟩, fun x H' y => ?_⟩
    obtain ⟨e, y⟩ := y
    subst e y
    exact hs i _ hlt p
  · have e : i = n := by omega
    subst e
    exact .inl ⟨Nat.le_refl _, hd H2 p⟩
theorem sIx_neg {n d : Nat} {k : Nat} (hk : 0 < k) (h : k ≤ n) : HT.sIx n d (some (-(k : Int))) = n - k := by
  show (if -(k : Int) < 0 then (-(k : Int) + n).toNat else _) = _
  rw [if_pos (by omega)]
  omega
section
variable {prog : Program} {w : World}
def EqT (prog : Program) (w : World) (A : Around) (s : Shared) (y x : Value) : Prop := ∀ (E : Value → Shared → Prop) (Q : Bool → Shared → Prop), Q true s → wpAny (model prog w) A (eqBool y x) Q E s
open AutoSeq1 (wpAny_loadPart')
open MeetsSeq MeetsSeq2 MeetsSeq3 SeqAt
theorem loopT (c : Nat) (r : Bool) (hc : (c = 2 ∧ r = true) ∨ (c = 3 ∧ r = false)) (l b : Addr) (items items2 : Array Value) (n n2 : Nat) (dd dd2 : Option Addr) (sl sl2 : Array (Option Value)) (hsz : items.size = items2.size) (k : Nat) :
    ∀ i : Nat, items.size - i = k → MeetsIn prog w (Builtin.«list.__eq__.loop» ⟨[.ref l, .ref b, rawInt i, rawInt c], []⟩)
      (fun A R s => s.heap.get? l = some { cls := .type "list", dict := dd, data := .seq items n, slots := sl } ∧ s.heap.get? b = some { cls := .type "list", dict := dd2, data := .seq items2 n2, slots := sl2 } ∧
        (∀ j (h1 : j < items.size) (h2 : j < items2.size), EqT prog w A.in1 s items[j] items2[j]) ∧ R (.ok (.ret (.bool r))) s) := by
  induction k with
  | zero =>
    intro i hk A R s h; obtain ⟨hp, g, d, tk, os⟩ := s; obtain ⟨hl, hb, he, h⟩ := h
    have z1 : items[((i : Nat) : Int).toNat]? = none := by simp; omega
    have z2 : items2[((i : Nat) : Int).toNat]? = none := by simp; omega
    rcases hc with ⟨rfl, rfl⟩ | ⟨rfl, rfl⟩
    · wp_walk using wpAny_loadPart' hl, wpAny_loadPart' hb
      rw [z1, z2]; wp_walk using wpAny_loadPart' hl, wpAny_loadPart' hb
      show R (.ok (.ret (.bool (items.size == items2.size)))) _; rw [hsz]; simpa using h
    · wp_walk using wpAny_loadPart' hl, wpAny_loadPart' hb
      rw [z1, z2]; wp_walk using wpAny_loadPart' hl, wpAny_loadPart' hb
      show R (.ok (.ret (.bool (items.size != items2.size)))) _; rw [hsz]; simpa using h
  | succ k ih =>
    intro i hk A R s h; obtain ⟨hp, g, d, tk, os⟩ := s; obtain ⟨hl, hb, he, h⟩ := h
    have t1 : i < items.size := by omega
    have t2 : i < items2.size := by omega
    have z1 : items[((i : Nat) : Int).toNat]? = some items[i] := by simp [t1]
    have z2 : items2[((i : Nat) : Int).toNat]? = some items2[i] := by simp [t2]
    have ec : ((i : Int) + 1) = ((i + 1 : Nat) : Int) := by omega
    rcases hc with ⟨rfl, rfl⟩ | ⟨rfl, rfl⟩
    · wp_walk using wpAny_loadPart' hl, wpAny_loadPart' hb
      rw [z1, z2]; refine wpAny_bind (he i t1 t2 _ _ ?_); wp_walk
      rw [ec]; exact ⟨plainId_quiet plain_eq_loop _, codeAny_builtin entry_eq_loop (by rw [Around.under_plainId plain_eq_loop _]; exact ih (i + 1) (by omega) A R _ ⟨hl, hb, he, h⟩)⟩
    · wp_walk using wpAny_loadPart' hl, wpAny_loadPart' hb
      rw [z1, z2]; refine wpAny_bind (he i t1 t2 _ _ ?_); wp_walk
      rw [ec]; exact ⟨plainId_quiet plain_eq_loop _, codeAny_builtin entry_eq_loop (by rw [Around.under_plainId plain_eq_loop _]; exact ih (i + 1) (by omega) A R _ ⟨hl, hb, he, h⟩)⟩
theorem listT_eq (l b : Addr) (items items2 : Array Value) (n n2 : Nat) (dd dd2 : Option Addr) (sl sl2 : Array (Option Value)) (hsz : items.size = items2.size) :
    MeetsIn prog w (Builtin.«list.__eq__» ⟨[.ref l, .ref b], []⟩) (fun A R s => s.heap.get? l = some { cls := .type "list", dict := dd, data := .seq items n, slots := sl } ∧ s.heap.get? b = some { cls := .type "list", dict := dd2, data := .seq items2 n2, slots := sl2 } ∧
        (∀ j (h1 : j < items.size) (h2 : j < items2.size), EqT prog w A.in1 s items[j] items2[j]) ∧ R (.ok (.ret (.bool true))) s) := by
  intro A R s h; obtain ⟨hp, g, d, tk, os⟩ := s; obtain ⟨hl, hb, he, h⟩ := h
  have f3 := AutoSeq1.sub_list_list
  have hne : ¬ (items.size != items2.size) = true := by simp [hsz]
  wp_walk using wpAny_loadPart' hl, wpAny_loadPart' hb
  exact ⟨plainId_quiet plain_eq_loop _, codeAny_builtin entry_eq_loop (by rw [Around.under_plainId plain_eq_loop _]; exact loopT 2 true (.inl ⟨rfl, rfl⟩) l b items items2 n n2 dd dd2 sl sl2 hsz _ 0 rfl A R _ ⟨hl, hb, he, h⟩)⟩
theorem listT_ne (l b : Addr) (items items2 : Array Value) (n n2 : Nat) (dd dd2 : Option Addr) (sl sl2 : Array (Option Value)) (hsz : items.size = items2.size) :
    MeetsIn prog w (Builtin.«list.__ne__» ⟨[.ref l, .ref b], []⟩) (fun A R s => s.heap.get? l = some { cls := .type "list", dict := dd, data := .seq items n, slots := sl } ∧ s.heap.get? b = some { cls := .type "list", dict := dd2, data := .seq items2 n2, slots := sl2 } ∧
        (∀ j (h1 : j < items.size) (h2 : j < items2.size), EqT prog w A.in1 s items[j] items2[j]) ∧ R (.ok (.ret (.bool false))) s) := by
  intro A R s h; obtain ⟨hp, g, d, tk, os⟩ := s; obtain ⟨hl, hb, he, h⟩ := h
  have f3 := AutoSeq1.sub_list_list
  have hne : ¬ (items.size != items2.size) = true := by simp [hsz]
  wp_walk using wpAny_loadPart' hl, wpAny_loadPart' hb
  exact ⟨plainId_quiet plain_eq_loop _, codeAny_builtin entry_eq_loop (by rw [Around.under_plainId plain_eq_loop _]; exact loopT 3 false (.inr ⟨rfl, rfl⟩) l b items items2 n n2 dd dd2 sl sl2 hsz _ 0 rfl A R _ ⟨hl, hb, he, h⟩)⟩
end
def DEq (H : Hp) (a b : Addr) : Prop := a ≠ b ∧ ∃ ka kb, H a = some (.dK ka) ∧ H b = some (.dK kb) ∧ (∀ p ∈ ka, flatV p.2 = true) ∧ (∀ p ∈ kb, flatV p.2 = true) ∧ eqDk ka kb = true
theorem DEq.eqT {X : Cx} {pins : List (Addr × Obj)} {σ : L2.St} {H : Hp} {s : Shared} {a b : Addr} {A : Around} (I : Inv X pins σ H s) (hu : A.units < cLine) (h : DEq H a b) : EqT X.prog X.w A s (.ref a) (.ref b) := fun E Q hq => by
  obtain ⟨hne, ka, kb, ha, hb, fa, fb, he⟩ := h
  obtain ⟨z1, sa, va, ra, da⟩ := dk_of I.hok ha
  obtain ⟨z2, sb, vb, rb, db⟩ := dk_of I.hok hb
  unfold eqBool; refine wpAny_holding ?_; refine wpAny_ite_split (fun hab => absurd (by have := eq_of_beq hab; injection this) hne) (fun _ => ?_)
  refine wpAny_bind (show wpAny _ _ (compareOp .Eq (.ref a) (.ref b)) _ _ _ from PySem.W.keq_eq sa sb da db hu (fun _ => hits_of rb fb ra fa) ?_)
  have e : (va.length == vb.length) = (ka.length == kb.length) := by rw [Paired.length ra, Paired.length rb]
  rw [e]
  show wpAny _ _ (truthOfDropped (Value.bool (eqDk ka kb))) _ _ _
  rw [he]
  exact wpAny_truthy_bool hq
def rEqLD (neg : Bool) : R2 := fun x y H Q => ∃ (p r : Addr) (ps qs : List Addr), x = .ref p ∧ y = .ref r ∧ H p = some (.lst (ps.map V.ref)) ∧ H r = some (.lst (qs.map V.ref)) ∧ ps.length = qs.length ∧ (∀ (j : Nat) (a b : Addr), ps[j]? = some a → qs[j]? = some b → DEq H a b) ∧ Q (.bl (!neg)) H
theorem items_eqT {X : Cx} {pins : List (Addr × Obj)} {σ : L2.St} {H : Hp} {s : Shared} {A : Around} (I : Inv X pins σ H s) (hu : A.units < cLine) {ps qs : List Addr} {us ws : List Value} (r1 : Vals (ps.map V.ref) us) (r2 : Vals (qs.map V.ref) ws) (he : ∀ (j : Nat) (a b : Addr), ps[j]? = some a → qs[j]? = some b → DEq H a b) :
    ∀ j (h1 : j < us.toArray.size) (h2 : j < ws.toArray.size), EqT X.prog X.w A s us.toArray[j] ws.toArray[j] := fun j h1 h2 => by
  have l1 := r1.length
  have l2 := r2.length
  rw [List.length_map] at l1 l2
  have g1 : j < ps.length := by rw [l1]; simpa using h1
  have g2 : j < qs.length := by rw [l2]; simpa using h2
  obtain ⟨u, eu, ru⟩ := r1.get (i := j) (x := .ref ps[j]) (by simp [g1])
  obtain ⟨v, ev, rv⟩ := r2.get (i := j) (x := .ref qs[j]) (by simp [g2])
  have e1 : us.toArray[j] = u := by
    obtain ⟨_, z⟩ := List.getElem?_eq_some_iff.mp eu
    simpa using z
  have e2 : ws.toArray[j] = v := by
    obtain ⟨_, z⟩ := List.getElem?_eq_some_iff.mp ev
    simpa using z
  rw [e1, e2]
  cases ru
  cases rv
  exact (he j _ _ (List.getElem?_eq_getElem g1) (List.getElem?_eq_getElem g2)).eqT I hu
theorem op_eqLD {X : Cx} (hu : X.A.units + 8 < cLine) : OpR X (compareOp .Eq) (rEqLD false) := by
  intro pins s σ H x y v u Q I rx ry h
  obtain ⟨p, r, ps, qs, rfl, rfl, hp, hr, hl, he, q⟩ := h
  cases rx
  cases ry
  obtain ⟨_, its, n, r1, l1, e1⟩ := I.lstM hp
  obtain ⟨_, its2, n2, r2, l2, e2⟩ := I.lstM hr
  rw [List.length_map] at l1 l2
  refine wpAny_richCompare_same_room (op := .Eq) ⟨_, e1, rfl⟩ ⟨_, e2, rfl⟩ F.slot_list_eq (call_meetsIn F.slot_list_eq ⟨_, e1, rfl⟩ F.entry_list_eq (F.args_list_eq_2 _ _) (listT_eq p r its.toArray its2.toArray n n2 none none #[] #[] (by simp; omega)) ⟨e1, e2, items_eqT I ?_ r1 r2 he, ?_⟩) (by omega)
  · exact Nat.lt_of_le_of_lt (show X.A.in1.units ≤ X.A.units + 8 by first | (show X.A.units + 1 ≤ X.A.units + 8; omega) | (show X.A.units ≤ X.A.units + 8; omega)) hu
  · exact ⟨(fun x => nomatch x), ⟨.bl true, H, I, rfl, q⟩⟩
theorem op_neLD {X : Cx} (hu : X.A.units + 8 < cLine) : OpR X (compareOp .NotEq) (rEqLD true) := by
  intro pins s σ H x y v u Q I rx ry h
  obtain ⟨p, r, ps, qs, rfl, rfl, hp, hr, hl, he, q⟩ := h
  cases rx
  cases ry
  obtain ⟨_, its, n, r1, l1, e1⟩ := I.lstM hp
  obtain ⟨_, its2, n2, r2, l2, e2⟩ := I.lstM hr
  rw [List.length_map] at l1 l2
  refine wpAny_richCompare_same_room (op := .NotEq) ⟨_, e1, rfl⟩ ⟨_, e2, rfl⟩ F.slot_list_ne (call_meetsIn F.slot_list_ne ⟨_, e1, rfl⟩ F.entry_list_ne (F.args_list_ne_2 _ _) (listT_ne p r its.toArray its2.toArray n n2 none none #[] #[] (by simp; omega)) ⟨e1, e2, items_eqT I ?_ r1 r2 he, ?_⟩) (by omega)
  · exact Nat.lt_of_le_of_lt (show X.A.in1.units ≤ X.A.units + 8 by first | (show X.A.units + 1 ≤ X.A.units + 8; omega) | (show X.A.units ≤ X.A.units + 8; omega)) hu
  · exact ⟨(fun x => nomatch x), ⟨.bl false, H, I, rfl, q⟩⟩
end L2
set_option Elab.async false
set_option linter.all false
set_option maxRecDepth 100000
set_option maxHeartbeats 1000000
namespace L2
open PySem PySem.Spec PyProof.Rows
section
variable {X : Cx}
theorem ps_comp {elt tg iter : Expr} {y : Str} {py spos : Pos} {jj : Nat} {ifs : List Expr} {sc : Scope} {pos : Pos} {wi : TI} {g : TG} {tt : TT} {te : TE} (N : List Str) (cap : List (Option Nat)) (hc : X.calm = true) (hi : PI X tg iter wi)
    (hg : ∀ cl s H C ex, PG (X.block sc cl N s H C ex) tg g) (ht : ∀ cl s H C ex, PTs (X.block sc cl N s H C ex) ifs tt) (he : ∀ cl s H C ex, PE (X.block sc cl N s H C ex) elt te)
    (hk : sc.kind = .function) (nc : ∀ y ∈ sc.names, y.2 ≠ .cell) (hnames : ∀ y ∈ sc.names, y.2 = .local → sc.names.lookup y.1 = some .local)
    (hfree : ∀ n, (n, NameKind.free) ∈ sc.names → X.env.kindOf n = some .cell)
    (hcap : ∀ (i j : Nat), cap[i]? = some (some j) → ∃ x, N[i]? = some x ∧ X.N[j]? = some x ∧ sc.names.lookup x = some .free) (hlen : cap.length = N.length)
    (hN : X.N.Nodup) (hjj : X.N[jj]? = some y) (hxx : Loc X.env.scope y) (hf : X.fn y = true ∨ X.env.scope.names.lookup y = some .local)
    (hsw : swapsWith (.ListComp elt [⟨tg, iter, ifs, 0⟩] sc pos) (some (.Name y py)) spos.line X.env = pure true)
    (hs : ∀ x, foldedSetIterable iter X.env x = pure x := by intro _; rfl) : PS X (.Assign [.Name y py] (.ListComp elt [⟨tg, iter, ifs, 0⟩] sc pos) spos) (tAsg (tComp cap wi g tt te) (gName jj)) := by
  intro pins s σ H D I h
  obtain ⟨cl, hclos, c1, c2⟩ := closure_of (sc := sc) (env := X.env) fun n hn => I.ok.has n (.inl (hfree n hn))
  rw [exec_Assign_Name_used _ _ _ _ hsw]; refine wpAny_bind (wpAny_standAt (wpAny_bind ?_)); show wpAny _ X.A (do let _ ← comprehension (.ListComp elt [⟨tg, iter, ifs, 0⟩] sc pos) sc X.env _ (newList []) false (eval iter X.env) (some (assign (.Name y py) X.env))) _ _ s
  refine wpAny_bind (wpAny_mono (wpAny_comprehension_free (use := some (assign (.Name y py) X.env)) (Q := fun _ s' => SP X pins D .next s') rfl hs hclos hk hnames ?_) (fun _ s' hq => wpAny_pure (wpAny_pure hq)) fun _ _ e => e)
  refine thn (hi pins s σ H _ I h) fun v s1 h1 => thn h1 fun itv s2 h2 => ?_
  obtain ⟨it, fp, tn, J, H2, e, I2, T, st2, f2, q2⟩ := h2
  subst e
  have hfr : H2 s2.heap.objs.size = none := I2.fresh
  obtain ⟨W, ⟨m0, w0⟩, turn⟩ := q2 s2.heap.objs.size hfr
  have I3 := I2.lnew (ys := []) (its := []) (t' := s2.toks) .nil (Nat.zero_le _)
  have hacc : H2 s2.heap.objs.size = none := hfr
  refine wpAny_newObj_type (wpAny_newFunctionEnv nc (by intro y hy; simp at hy) (fun h4 hns hsb => ?_) hk)
  generalize hs3 : ({ s2 with heap := s2.heap.push { cls := .type "list", data := .seq ([] : List Value).toArray } } : Shared) = s3 at hns hsb I3 ⊢
  have hheap : s3.heap = s2.heap.push { cls := .type "list", data := .seq ([] : List Value).toArray } := by rw [← hs3]
  generalize hH3 : upd H2 s2.heap.objs.size (.lst []) = H3 at I3 w0
  have up2 : ∀ b o, s2.heap.get? b = some o → s3.heap.get? b = some o := fun b o q => by rw [hheap]; exact Heap.get?_push_of_some _ q
  have neA : ∀ b ∈ fp, b ≠ s2.heap.objs.size := fun b hb => by
    obtain ⟨o, q, _⟩ := T.obj _ _ st2 b hb
    exact Nat.ne_of_lt (Heap.lt_size q)
  have f3 : ∀ b ∈ fp, FpOk X pins H3 b := fun b hb => ⟨by rw [← hH3, upd_ne (neA b hb)]; exact (f2 b hb).1, (f2 b hb).2⟩
  have o3 : ∀ b ∈ fp, ∃ o, s3.heap.get? b = some o := fun b hb => by
    obtain ⟨o, q, _⟩ := T.obj _ _ st2 b hb
    exact ⟨o, up2 b o q⟩
  have ok' := block_ok (N := N) (C := s3.heap.objs.size) I3 hk nc (Nat.le_refl _) f3 o3 c1 c2
  generalize hC : s3.heap.objs.size = C at hns hsb ok' ⊢
  have ltC : ∀ b o, s3.heap.get? b = some o → b ≠ C := fun b o q => by rw [← hC]; exact Nat.ne_of_lt (Heap.lt_size q)
  have up4 : ∀ b o, s3.heap.get? b = some o → h4.get? b = some o := fun b o q => hsb.extBut b o (ltC b o q) (Heap.get?_push_of_some _ q)
  have st4 : tn 0 h4 := T.keep _ _ _ st2 fun b hb o q => up4 b o (up2 b o q)
  have I4 : Inv (X.block sc cl N s3 H3 C fp) [] (capSt cap σ) H3 { s3 with heap := h4, toks := s3.toks + ([] : List (Str × Value)).length } := by
    refine ⟨ok', rfl, I3.bare, Un.kept up4, ⟨_, hns, fun i x v e1 e2 e3 => ?_⟩, fun x c q => ?_, ?_, fun x c q => I3.freeC x c (c1 x c q), fun p hp => (nomatch hp), I3.hok.kept up4, ?_⟩
    · have ee : ∃ j, cap[i]? = some (some j) ∧ σ[j]? = some (some v) := by
        unfold capSt at e2
        rw [List.getElem?_map] at e2
        cases q : cap[i]? with
        | none => rw [q] at e2; cases e2
        | some o =>
          rw [q] at e2
          cases o with
          | none => cases e2
          | some j =>
            refine ⟨j, rfl, ?_⟩
            have e2' : some ((σ[j]?).join) = some (some v) := e2
            cases z : σ[j]? with
            | none => rw [z] at e2'; cases e2'
            | some o' =>
              rw [z] at e2'
              have e2'' : o' = some v := Option.some.inj e2'
              rw [e2'']
      obtain ⟨j, ej, es⟩ := ee
      obtain ⟨x', n1, n2, n3⟩ := hcap i j ej
      have e1' : N[i]? = some x := e1
      rw [n1] at e1'
      cases e1'
      have hfr' : (x, NameKind.free) ∈ sc.names := lookup_mem n3
      have kc := hfree x hfr'
      obtain ⟨m, _, hl⟩ := I3.loc
      obtain ⟨u, r, l⟩ := hl j x v n2 es (.inr (.inl kc))
      refine ⟨u, r, ?_⟩
      rcases l with ⟨l, _⟩ | ⟨_, c, ec, z⟩
      · rw [kc] at l; cases l
      · obtain ⟨c', ec'⟩ := c2 x hfr'
        have := c1 x c' ec'
        rw [ec] at this
        cases this
        obtain ⟨oc, q1, q2⟩ := z
        exact .inr ⟨lookup_relabel_free (sc := sc) n3, c, ec', oc, up4 _ _ q1, q2⟩
    · obtain ⟨v, oc, q1, q2⟩ := I3.cell x c (c1 x c q)
      exact ⟨v, oc, up4 _ _ q1, q2⟩
    · exact I3.hok.fresh (by rw [hC]; exact Nat.le_refl _)
    · show (capSt cap σ).length = N.length
      unfold capSt
      rw [List.length_map, hlen]
  have loop : codeAny (model X.prog X.w) X.A (.compLoop (.ListComp elt [⟨tg, iter, ifs, 0⟩] sc pos) 0 (.ref it) (.ref s2.heap.objs.size) (compEnvC sc cl C X.env)) (compPost (model X.prog X.w) X.A X.xe (some (assign (.Name y py) X.env)) (fun _ s' => SP X pins D .next s') (.ref s2.heap.objs.size) C)
      { s3 with heap := h4, toks := s3.toks + ([] : List (Str × Value)).length } := by
    have stat : ∀ {H' : Hp}, (∀ b ∈ fp, H' b = none) → ∀ b ∈ fp, FpOk (X.block sc cl N s3 H3 C fp) [] H' b := fun hn b hb =>
      ⟨hn b hb, (ok'.exf b hb).1, ok'.exfs b hb, .inl hb, (ok'.exf b hb).2, fun p hp => (nomatch hp)⟩
    refine comp_loop (fun n s' => ∃ i H', Inv (X.block sc cl N s3 H3 C fp) [] (capSt cap σ) H' s' ∧ tn i s'.heap ∧ (∀ b ∈ fp, H' b = none) ∧ W i n H') ?_ m0 ⟨0, H3, I4, st4, fun b hb => (f3 b hb).1, w0⟩
    rintro n s5 ⟨i, H5, I5, st5, fr5, w5⟩
    rcases turn i n H5 w5 with ⟨stop, qn⟩ | ⟨go, N', hN', step⟩
    · refine thn (T.done (X.block sc cl N s3 H3 C fp) rfl rfl rfl hc i [] s5 _ H5 NoX I5 (stat fr5) st5 stop) fun r s6 ⟨hr, I6⟩ => ?_
      subst hr
      obtain ⟨m, hm, _⟩ := I6.loc
      have I7 : Inv X pins σ H5 s6 := by
        refine I3.call' (s' := s6) (ch := fp) I6.os I6.base I6.hok I6.bare fun b hb => ?_
        obtain ⟨g0, g1, g2, g3, g4, g5⟩ := f3 b hb
        exact ⟨g3, g1, g4, g5⟩
      have hCl : X.env.locals ≠ C := by
        obtain ⟨_, hn3, _⟩ := I3.loc
        rw [← hC]
        exact Nat.ne_of_lt hn3.lt
      have hCc : ∀ x c, X.env.cells.lookup x = some c → c ≠ C := fun x c q => by
        obtain ⟨v, oc, q1, q2⟩ := I3.cell x c q
        exact ltC _ _ q1
      refine wpAny_assign_Name (store_ok2 I7 hN hjj hxx (v := .ref s2.heap.objs.size) rfl (fun s9 I9 ⟨a9, sb9, ha9⟩ => ?_) hf)
      have hCa : a9 ≠ C := by
        rcases ha9 with rfl | z
        · exact hCl
        · exact hCc _ _ z
      refine ⟨m, hm.sameBut sb9 (Ne.symm hCa), fun h' sb => ⟨_, H5, ?_, qn⟩⟩
      refine I9.call' (s' := { s9 with heap := h' }) (ch := [C]) rfl ?_ (I9.hok.but I6.free sb) I9.bare fun b hb => ?_
      · have st : ∀ b o, s9.heap.get? b = some o → b ∉ [C] → h'.get? b = some o := fun b o q hx => (sb.2 b (fun z => hx (by rw [z]; exact List.mem_singleton.mpr rfl))).trans q
        exact ⟨fun b o q _ _ hx => st b o q hx, fun b o q _ _ hx => ⟨o.slots, st b o q hx⟩, fun b o q n _ => n, fun b o q hx => ⟨o, st b o q hx⟩, fun _ _ q => q, fun _ _ _ q => q, fun b ps q => ⟨#[], by simpa using q⟩⟩
      · rw [List.mem_singleton.mp hb]
        exact ⟨.inr (by rw [← hC]; exact I3.sz), Ne.symm hCl, hCc, fun p hp => ltC _ _ (I3.pin p hp).1⟩
    · refine thn (T.item (X.block sc cl N s3 H3 C fp) rfl rfl rfl hc i [] s5 _ H5 NoX I5 (stat fr5) st5 go) fun r s6 ⟨u, hr, h6⟩ => ?_
      subst hr
      refine thn h6 fun _ s7 ⟨x, H7, I7, r7, y7, st7, fr7⟩ => ?_
      have I7' := I7.pinned (stat fr7) (T.obj _ _ st7)
      have again : ∀ {σ8 : St} {H8 : Hp} {s8 : Shared}, Inv (X.block sc cl N s3 H3 C fp) ([] ++ pinsAt fp s7.heap) σ8 H8 s8 → Ext (capSt cap σ) σ8 → N' H8 →
          ∃ m, m < n ∧ ∃ i H', Inv (X.block sc cl N s3 H3 C fp) [] (capSt cap σ) H' s8 ∧ tn i s8.heap ∧ (∀ b ∈ fp, H' b = none) ∧ W i m H' := fun {σ8 H8 s8} I8 ex n8 => by
        obtain ⟨m', hm, w8⟩ := hN' H8 n8
        have I8' := I8.unpinned.weak ex.len ex.get
        refine ⟨m', hm, i + 1, H8, I8', T.keep _ _ _ st7 fun b hb o q => (I8.pin (b, o) (List.mem_append_right _ (List.mem_append_right _ (mem_pinsAt hb q)))).1, fun b hb => ?_, w8⟩
        obtain ⟨o, q, d⟩ := T.obj _ _ st7 b hb
        exact (I8.pin (b, o) (List.mem_append_right _ (List.mem_append_right _ (mem_pinsAt hb q)))).2.1
      refine thn (hg cl s3 H3 C fp _ s7 _ H7 x u _ I7' r7 (step x H7 y7)) fun _ s8 ⟨σ8, H8, I8, ex8, q8⟩ => ?_
      refine thn (ht cl s3 H3 C fp _ s8 σ8 H8 _ I8 q8) fun b s9 ⟨H9, I9, q9⟩ => ?_
      cases b with
      | false => exact again I9 ex8 q9
      | true =>
        rw [if_pos rfl] at q9 ⊢
        refine thn (he cl s3 H3 C fp _ s9 σ8 H9 _ I9 q9) fun yv s10 ⟨y, H10, I10, r10, zs, e10, l10, q10⟩ => ?_
        refine thn (mt_append (X := X.block sc cl N s3 H3 C fp) _ s10 σ8 H10 (.ref s2.heap.objs.size) [y] (.ref s2.heap.objs.size) [yv] (fun _ H' => N' H') I10 rfl (.cons r10 .nil) ⟨_, zs, y, rfl, rfl, e10, l10, q10⟩) fun _ s11 ⟨_, H11, I11, _, q11⟩ => ?_
        exact again I11 ex8 q11
  exact codeAny_compStart_list loop (T.self X.A 0 _ _ _ st4 loop)
theorem ps_compB {elt tg iter : Expr} {y : Str} {py spos : Pos} {jj : Nat} {ifs : List Expr} {sc : Scope} {pos : Pos} {wi : TI} {g : TG} {tt : TT} {te : TE} (N : List Str) (cap : List (Option Nat)) (hc : X.calm = true) (hi : PI X tg iter wi)
    (hg : ∀ cl s H C ex, PG (X.block sc cl N s H C ex) tg g) (ht : ∀ cl s H C ex, PTs (X.block sc cl N s H C ex) ifs tt) (he : ∀ cl s H C ex, PE (X.block sc cl N s H C ex) elt te)
    (ck : compCk sc X.env X.N N cap = true) (hN : X.N.Nodup) (hjj : X.N[jj]? = some y) (hxx : Loc X.env.scope y) (hf : X.fn y = true ∨ X.env.scope.names.lookup y = some .local)
    (hsw : swapsWith (.ListComp elt [⟨tg, iter, ifs, 0⟩] sc pos) (some (.Name y py)) spos.line X.env = pure true := by rfl) (hs : ∀ x, foldedSetIterable iter X.env x = pure x := by intro _; rfl) : PS X (.Assign [.Name y py] (.ListComp elt [⟨tg, iter, ifs, 0⟩] sc pos) spos) (tAsg (tComp cap wi g tt te) (gName jj)) := by
  unfold compCk at ck
  simp only [Bool.and_eq_true] at ck
  obtain ⟨⟨⟨⟨⟨k1, k2⟩, k3⟩, k4⟩, k5⟩, k6⟩ := ck
  refine ps_comp N cap hc hi hg ht he (by simpa using k1) (fun y hy => ?_) (fun y hy z => ?_) (fun n hn => ?_) (fun i j e => ?_) (by simpa using k6) hN hjj hxx hf hsw hs
  · have := List.all_eq_true.mp k2 y hy
    simpa using this
  · have := List.all_eq_true.mp k3 y hy
    rw [z] at this
    simpa using this
  · have := List.all_eq_true.mp k4 _ hn
    simpa using this
  · have hi : i < cap.length := (List.getElem?_eq_some_iff.mp e).1
    have := List.all_eq_true.mp k5 i (List.mem_range.mpr hi)
    rw [e] at this
    dsimp only at this
    cases q : N[i]? with
    | none => rw [q] at this; cases this
    | some x =>
      rw [q] at this
      dsimp only at this
      rw [Bool.and_eq_true] at this
      exact ⟨x, rfl, by simpa using this.1, by simpa using this.2⟩
end
end L2
set_option Elab.async false
set_option linter.all false
set_option maxRecDepth 100000
set_option maxHeartbeats 4000000
namespace L2
open PySem PySem.Spec PyProof.Rows
def sV : Str ⊕ Int → V
  | .inl x => .str x
  | .inr n => .int n
def RowRep (H : Hp) (r : DRow) (v : V) : Prop := ∃ a, v = .ref a ∧ H a = some (.tup [.str r.1, sV r.2])
theorem RowRep.mono {H H' : Hp} (k : Tk H H') {r : DRow} {v : V} : RowRep H r v → RowRep H' r v
  | ⟨a, e, h⟩ => ⟨a, e, k _ _ h⟩
def endR : Int ⊕ Str → DRow
  | .inl n => ("is", .inr n)
  | .inr w => ("stop", .inl w)
structure TD (H H' : Hp) : Prop where
  tk : Tk H H'
  dk : ∀ b kvs, H b = some (.dK kvs) → H' b = some (.dK kvs)
theorem TD.trans {H H1 H2 : Hp} (a : TD H H1) (b : TD H1 H2) : TD H H2 := ⟨a.tk.trans b.tk, fun c kvs h => b.dk c kvs (a.dk c kvs h)⟩
theorem Same.td {H H' : Hp} (h : Same H H') : TD H H' := ⟨h.tk, fun b _ e => h b _ e⟩
theorem TD.lst {H : Hp} {p : Addr} {xs : List V} {o : HO} (h : H p = some (.lst xs)) : TD H (upd H p o) := ⟨Tk.lst h, fun b kvs e => by
  rw [upd_ne (fun z => by subst z; rw [h] at e; cases e)]; exact e⟩
def EnvAt (H : Hp) (n : Nat) (e : En) (v : V) : Prop := ∃ d kvs, v = .ref d ∧ H d = some (.dK kvs) ∧ kvs.length ≤ n ∧ ∀ x : Str, (valV kvs (Sum.inr x : Key)).getD (.int 0) = .int (e x)
theorem EnvAt.mono {H H' : Hp} (k : TD H H') {n : Nat} {e : En} {v : V} : EnvAt H n e v → EnvAt H' n e v
  | ⟨d, kvs, a, b, c, f⟩ => ⟨d, kvs, a, k.dk _ _ b, c, f⟩
def InB (i : Int) : Prop := 0 ≤ i ∧ i < 10 ^ 30
theorem InB.abs {i : Int} (h : InB i) : i.natAbs < 2 ^ 100 := by
  have h1 := h.1
  have h2 : i < 10 ^ 30 := h.2
  have : (10 : Int) ^ 30 < 2 ^ 100 := by decide
  omega
theorem InB.mod (i : Int) : InB (i % 10 ^ 30) := ⟨Int.emod_nonneg _ (by decide), Int.emod_lt_of_pos _ (by decide)⟩
theorem InB.op {m n : Int} (o : Bin) (h : InB n) : InB (o.op m n) := by
  cases o with
  | add => exact InB.mod _
  | sub => exact InB.mod _
  | mul => exact InB.mod _
  | thn => exact h
def EnB (e : En) : Prop := ∀ x, InB (e x)
theorem EnB.set {e : En} (h : EnB e) {x : Str} {n : Int} (hn : InB n) : EnB (e.set x n) := fun y => by
  unfold En.set
  split
  · exact hn
  · exact h y
def TrB : Tr → Prop
  | .num n => InB n
  | .say a => TrB a | .bin _ a b => TrB a ∧ TrB b | .ite a b c => TrB a ∧ TrB b ∧ TrB c | .lett _ a b => TrB a ∧ TrB b
  | _ => True
def ItemRep (H : Hp) (i : Item) (v : V) : Prop := ∃ a u dv n, v = .ref a ∧ H a = some (.tup [u, dv, .bl i.2.2]) ∧ Rep H i.1 u ∧ EnvAt H n i.2.1 dv ∧ n + i.1.size ≤ 900 ∧ TrB i.1 ∧ EnB i.2.1
theorem ItemRep.mono {H H' : Hp} (k : TD H H') {i : Item} {v : V} : ItemRep H i v → ItemRep H' i v
  | ⟨a, u, dv, n, e, h, r, en, z⟩ => ⟨a, u, dv, n, e, k.tk _ _ h, r.mono k.tk, en.mono k, z⟩
theorem putF_len (f : Str) (v : V) : ∀ fs : List (Str × V), (putF f v fs).length ≤ fs.length + 1
  | [] => Nat.le_refl _
  | p :: r => by
    unfold putF
    split
    · simp
    · have := putF_len f v r
      simp
      omega
def cfld0 (dl el wl : Addr) : List (Str × V) := putF "halt" .non (putF "waiting" (.ref wl) (putF "ends" (.ref el) (putF "deeds" (.ref dl) [])))
def cflds (aA dl el wl : Addr) : List (Str × V) := putF "asked" (.ref aA) (cfld0 dl el wl)
def cfldh (aA dl el wl : Addr) (v : V) : List (Str × V) := putF "halt" v (cflds aA dl el wl)
section
variable {aA dl el wl : Addr}
theorem cf_asked : (cflds aA dl el wl).lookup ("asked" : Str) = some (.ref aA) := by
  unfold cflds
  rw [lookup_putF, if_pos rfl]
theorem cf_halt : (cflds aA dl el wl).lookup ("halt" : Str) = some .non := by
  unfold cflds cfld0
  rw [lookup_putF, if_neg (by decide +kernel), lookup_putF, if_pos rfl]
theorem cf_waiting : (cflds aA dl el wl).lookup ("waiting" : Str) = some (.ref wl) := by
  unfold cflds cfld0
  rw [lookup_putF, if_neg (by decide +kernel), lookup_putF, if_neg (by decide +kernel), lookup_putF, if_pos rfl]
theorem cf_ends : (cflds aA dl el wl).lookup ("ends" : Str) = some (.ref el) := by
  unfold cflds cfld0
  rw [lookup_putF, if_neg (by decide +kernel), lookup_putF, if_neg (by decide +kernel), lookup_putF, if_neg (by decide +kernel), lookup_putF, if_pos rfl]
theorem cf_deeds : (cflds aA dl el wl).lookup ("deeds" : Str) = some (.ref dl) := by
  unfold cflds cfld0
  rw [lookup_putF, if_neg (by decide +kernel), lookup_putF, if_neg (by decide +kernel), lookup_putF, if_neg (by decide +kernel), lookup_putF, if_neg (by decide +kernel), lookup_putF, if_pos rfl]
theorem cf_no {m : Str} (h1 : ¬ m = "asked") (h2 : ¬ m = "deeds") (h3 : ¬ m = "ends") (h4 : ¬ m = "waiting") (h5 : ¬ m = "halt") : (cflds aA dl el wl).lookup m = none := by
  unfold cflds cfld0
  rw [lookup_putF, if_neg h1, lookup_putF, if_neg h5, lookup_putF, if_neg h4, lookup_putF, if_neg h3, lookup_putF, if_neg h2]
  rfl
theorem ch_halt {v : V} : (cfldh aA dl el wl v).lookup ("halt" : Str) = some v := by
  unfold cfldh
  rw [lookup_putF, if_pos rfl]
theorem ch_deeds {v : V} : (cfldh aA dl el wl v).lookup ("deeds" : Str) = some (.ref dl) := by
  unfold cfldh
  rw [lookup_putF, if_neg (by decide +kernel)]
  exact cf_deeds
theorem ch_waiting {v : V} : (cfldh aA dl el wl v).lookup ("waiting" : Str) = some (.ref wl) := by
  unfold cfldh
  rw [lookup_putF, if_neg (by decide +kernel)]
  exact cf_waiting
theorem cf_len : (cflds aA dl el wl).length ≤ 5 := by
  have h1 := putF_len "deeds" (.ref dl) []
  have h2 := putF_len "ends" (.ref el) (putF "deeds" (.ref dl) [])
  have h3 := putF_len "waiting" (.ref wl) (putF "ends" (.ref el) (putF "deeds" (.ref dl) []))
  have h4 := putF_len "halt" .non (putF "waiting" (.ref wl) (putF "ends" (.ref el) (putF "deeds" (.ref dl) [])))
  have h5 := putF_len "asked" (.ref aA) (cfld0 dl el wl)
  unfold cflds
  unfold cfld0 at h5 ⊢
  simp at h1
  omega
end
structure Co (C : Addr) (H : Hp) (p aA dl el wl : Addr) (ds es ws : List V) : Prop where
  ob : ∃ dx, H p = some (.ins C dx (cflds aA dl el wl))
  d : H dl = some (.lst ds)
  e : H el = some (.lst es)
  w : H wl = some (.lst ws)
  de : dl ≠ el
  dw : dl ≠ wl
  ew : el ≠ wl
def Kp (dl el wl : Addr) (H H' : Hp) : Prop := ∀ b o, H b = some o → b ≠ dl → b ≠ el → b ≠ wl → H' b = some o
theorem Kp.refl {dl el wl : Addr} (H : Hp) : Kp dl el wl H H := fun _ _ h _ _ _ => h
theorem Kp.trans {dl el wl : Addr} {H H1 H2 : Hp} (a : Kp dl el wl H H1) (b : Kp dl el wl H1 H2) : Kp dl el wl H H2 := fun c o h x y z => b c o (a c o h x y z) x y z
theorem Same.kp {dl el wl : Addr} {H H' : Hp} (h : Same H H') : Kp dl el wl H H' := fun b o e _ _ _ => h b o e
section
variable {C : Addr} {H H' : Hp} {p aA dl el wl : Addr} {ds es ws : List V}
theorem Co.same (c : Co C H p aA dl el wl ds es ws) (g : Same H H') : Co C H' p aA dl el wl ds es ws :=
  ⟨let ⟨dx, h⟩ := c.ob; ⟨dx, g _ _ h⟩, g _ _ c.d, g _ _ c.e, g _ _ c.w, c.de, c.dw, c.ew⟩
theorem Co.pd (c : Co C H p aA dl el wl ds es ws) : p ≠ dl := let ⟨_, h⟩ := c.ob; ne_of h c.d (by intro z; cases z)
theorem Co.pe (c : Co C H p aA dl el wl ds es ws) : p ≠ el := let ⟨_, h⟩ := c.ob; ne_of h c.e (by intro z; cases z)
theorem Co.pw (c : Co C H p aA dl el wl ds es ws) : p ≠ wl := let ⟨_, h⟩ := c.ob; ne_of h c.w (by intro z; cases z)
theorem Co.setd (c : Co C H p aA dl el wl ds es ws) (ds' : List V) : Co C (upd H dl (.lst ds')) p aA dl el wl ds' es ws :=
  ⟨let ⟨dx, h⟩ := c.ob; ⟨dx, by rw [upd_ne c.pd]; exact h⟩, upd_same, by rw [upd_ne c.de.symm]; exact c.e, by rw [upd_ne c.dw.symm]; exact c.w, c.de, c.dw, c.ew⟩
theorem Co.sete (c : Co C H p aA dl el wl ds es ws) (es' : List V) : Co C (upd H el (.lst es')) p aA dl el wl ds es' ws :=
  ⟨let ⟨dx, h⟩ := c.ob; ⟨dx, by rw [upd_ne c.pe]; exact h⟩, by rw [upd_ne c.de]; exact c.d, upd_same, by rw [upd_ne c.ew.symm]; exact c.w, c.de, c.dw, c.ew⟩
theorem Co.setw (c : Co C H p aA dl el wl ds es ws) (ws' : List V) : Co C (upd H wl (.lst ws')) p aA dl el wl ds es ws' :=
  ⟨let ⟨dx, h⟩ := c.ob; ⟨dx, by rw [upd_ne c.pw]; exact h⟩, by rw [upd_ne c.dw]; exact c.d, by rw [upd_ne c.ew]; exact c.e, upd_same, c.de, c.dw, c.ew⟩
theorem kp_d {o : HO} : Kp dl el wl H (upd H dl o) := fun b _ h x _ _ => by rw [upd_ne x]; exact h
theorem kp_e {o : HO} : Kp dl el wl H (upd H el o) := fun b _ h _ x _ => by rw [upd_ne x]; exact h
theorem kp_w {o : HO} : Kp dl el wl H (upd H wl o) := fun b _ h _ _ x => by rw [upd_ne x]; exact h
theorem Co.td (c : Co C H p aA dl el wl ds es ws) (k : Kp dl el wl H H') : TD H H' :=
  ⟨fun b xs e => k b _ e (ne_of e c.d (by intro z; cases z)) (ne_of e c.e (by intro z; cases z)) (ne_of e c.w (by intro z; cases z)),
   fun b xs e => k b _ e (ne_of e c.d (by intro z; cases z)) (ne_of e c.e (by intro z; cases z)) (ne_of e c.w (by intro z; cases z))⟩
end
theorem paired_append {α : Type} {F : α → V → Prop} : ∀ {as bs : List α} {us vs : List V}, Paired F as us → Paired F bs vs → Paired F (as ++ bs) (us ++ vs)
  | _, _, _, _, .nil, h => h
  | _, _, _, _, .cons r t, h => .cons r (paired_append t h)
structure Cf (C : Addr) (H : Hp) (p aA dl el wl : Addr) (a : En) (W : List Item) (E : List Int) (D : List DRow) : Prop where
  co : ∃ ds ws, Co C H p aA dl el wl ds (E.reverse.map V.int) ws ∧ Paired (RowRep H) D ds ∧ Paired (ItemRep H) W.reverse ws
  en : EnvAt H 900 a (.ref aA)
  ab : EnB a
  eb : ∀ n ∈ E, InB n
section
variable {C : Addr} {H H' : Hp} {p aA dl el wl : Addr} {a : En} {W : List Item} {E : List Int} {D : List DRow}
theorem Cf.td (c : Cf C H p aA dl el wl a W E D) (k : Kp dl el wl H H') : TD H H' := let ⟨_, _, h, _⟩ := c.co; h.td k
theorem Cf.same (c : Cf C H p aA dl el wl a W E D) (g : Same H H') : Cf C H' p aA dl el wl a W E D :=
  ⟨let ⟨ds, ws, h, h1, h2⟩ := c.co; ⟨ds, ws, h.same g, Paired.mapP h1 fun _ _ z => z.mono g.tk, Paired.mapP h2 fun _ _ z => z.mono g.td⟩, c.en.mono g.td, c.ab, c.eb⟩
theorem Cf.ob (c : Cf C H p aA dl el wl a W E D) : ∃ dx, H p = some (.ins C dx (cflds aA dl el wl)) := let ⟨_, _, h, _⟩ := c.co; h.ob
theorem Cf.await {i : Addr} {it : Item} {ds ws : List V} (c : Co C H p aA dl el wl ds (E.reverse.map V.int) ws) (h1 : Paired (RowRep H) D ds) (h2 : Paired (ItemRep H) W.reverse ws) (en : EnvAt H 900 a (.ref aA)) (ab : EnB a) (eb : ∀ n ∈ E, InB n)
    (k : Kp dl el wl H H') (c' : Co C H' p aA dl el wl ds (E.reverse.map V.int) (ws ++ [.ref i])) (r : ItemRep H' it (.ref i)) : Cf C H' p aA dl el wl a (it :: W) E D :=
  ⟨⟨ds, ws ++ [.ref i], c', Paired.mapP h1 fun _ _ z => z.mono (c.td k).tk, by rw [List.reverse_cons]; exact paired_append (Paired.mapP h2 fun _ _ z => z.mono (c.td k)) (.cons r .nil)⟩, en.mono (c.td k), ab, eb⟩
end
theorem paired_len {α : Type} {F : α → V → Prop} {as : List α} {us : List V} (h : Paired F as us) : us.length = as.length := h.length.symm
def bgn (a : En) (t : Tr) (e : En) (W : List Item) (E : List Int) (D : List DRow) : Option (List Item × List Int × List DRow) :=
  match t with
  | .num n => some (W, n :: E, D)
  | .name x => some (W, e x :: E, D)
  | .ask x => some (W, a x :: E, D ++ [askR x])
  | .stop _ => none
  | .gap _ _ => none
  | .say s => some ((s, e, false) :: (t, e, true) :: W, E, D)
  | .bin .thn s _ => some ((s, e, false) :: (t, e, true) :: W, E, D)
  | .bin _ s u => some ((s, e, false) :: (u, e, false) :: (t, e, true) :: W, E, D)
  | .ite c _ _ => some ((c, e, false) :: (t, e, true) :: W, E, D)
  | .lett _ s _ => some ((s, e, false) :: (t, e, true) :: W, E, D)
def gon (t : Tr) (e : En) (W : List Item) (E : List Int) (D : List DRow) : Option (List Item × List Int × List DRow) :=
  match t, E with
  | .say _, n :: E => some (W, n :: E, D ++ [sayR n])
  | .bin .thn _ u, _ :: E => some ((u, e, false) :: W, E, D)
  | .bin o _ _, n :: m :: E => some (W, o.op m n :: E, D)
  | .ite _ s u, n :: E => some ((if n = 0 then u else s, e, false) :: W, E, D)
  | .lett x _ u, n :: E => some ((u, e.set x n, false) :: W, E, D)
  | _, _ => none
theorem size_pos' (t : Tr) : 1 ≤ t.size := by cases t <;> simp [Tr.size] <;> omega
theorem bgn_ok {a e : En} {t : Tr} {W W' : List Item} {E E' : List Int} {D D' : List DRow} (h : bgn a t e W E D = some (W', E', D')) :
    pre D (cont a ((t, e, false) :: W) E) = pre D' (cont a W' E') ∧ wt W' + 1 ≤ wt ((t, e, false) :: W) ∧ wt W' + E'.length ≤ wt ((t, e, false) :: W) + E.length ∧ wt W' + D'.length ≤ wt ((t, e, false) :: W) + D.length := by
  rw [wt_cons]
  cases t with
  | num n => cases h; exact ⟨by rw [cont_num], by simp [wtI, Tr.size]; omega, by simp [wtI, Tr.size]; omega, by simp [wtI, Tr.size]⟩
  | name x => cases h; exact ⟨by rw [cont_name], by simp [wtI, Tr.size]; omega, by simp [wtI, Tr.size]; omega, by simp [wtI, Tr.size]⟩
  | ask x => cases h; exact ⟨by rw [cont_ask, pre_pre], by simp [wtI, Tr.size]; omega, by simp [wtI, Tr.size]; omega, by simp [wtI, Tr.size]; omega⟩
  | stop x => cases h
  | gap g as => cases h
  | say s => cases h; exact ⟨by rw [cont_say], by simp [wt_cons, wtI, wtR, Tr.size]; omega, by simp [wt_cons, wtI, wtR, Tr.size]; omega, by simp [wt_cons, wtI, wtR, Tr.size]; omega⟩
  | ite c s u => cases h; exact ⟨by rw [cont_ite], by simp [wt_cons, wtI, wtR, Tr.size]; omega, by simp [wt_cons, wtI, wtR, Tr.size]; omega, by simp [wt_cons, wtI, wtR, Tr.size]; omega⟩
  | lett x s u => cases h; exact ⟨by rw [cont_let], by simp [wt_cons, wtI, wtR, Tr.size]; omega, by simp [wt_cons, wtI, wtR, Tr.size]; omega, by simp [wt_cons, wtI, wtR, Tr.size]; omega⟩
  | bin o s u =>
    cases o with
    | thn => cases h; exact ⟨by rw [cont_thn], by simp [wt_cons, wtI, wtR, Tr.size]; omega, by simp [wt_cons, wtI, wtR, Tr.size]; omega, by simp [wt_cons, wtI, wtR, Tr.size]; omega⟩
    | add => cases h; exact ⟨by rw [cont_bin (by simp)], by simp [wt_cons, wtI, wtR, Tr.size]; omega, by simp [wt_cons, wtI, wtR, Tr.size]; omega, by simp [wt_cons, wtI, wtR, Tr.size]; omega⟩
    | sub => cases h; exact ⟨by rw [cont_bin (by simp)], by simp [wt_cons, wtI, wtR, Tr.size]; omega, by simp [wt_cons, wtI, wtR, Tr.size]; omega, by simp [wt_cons, wtI, wtR, Tr.size]; omega⟩
    | mul => cases h; exact ⟨by rw [cont_bin (by simp)], by simp [wt_cons, wtI, wtR, Tr.size]; omega, by simp [wt_cons, wtI, wtR, Tr.size]; omega, by simp [wt_cons, wtI, wtR, Tr.size]; omega⟩
theorem gon_ok {a e : En} {t : Tr} {W : List Item} {E : List Int} {D : List DRow} {r : Res} (hc : pre D (cont a ((t, e, true) :: W) E) = some r) : ∃ W' E' D', gon t e W E D = some (W', E', D') ∧
    pre D' (cont a W' E') = some r ∧ wt W' + 1 ≤ wt ((t, e, true) :: W) ∧ wt W' + E'.length ≤ wt ((t, e, true) :: W) + E.length ∧ wt W' + D'.length ≤ wt ((t, e, true) :: W) + D.length := by
  obtain ⟨q, hq, _⟩ := Option.map_eq_some_iff.mp hc
  obtain ⟨n, E', rfl, h2, n1, n2, n3, n4, n5⟩ := rest_ends hq
  rw [wt_cons]
  cases t with
  | num n => exact absurd rfl (n1 n)
  | name n => exact absurd rfl (n2 n)
  | ask n => exact absurd rfl (n3 n)
  | stop n => exact absurd rfl (n4 n)
  | gap g as => exact absurd rfl (n5 g as)
  | say s => exact ⟨_, _, _, rfl, by rw [← hc, go_say, pre_pre], by (simp [wtI, wtR] <;> omega), by (simp [wtI, wtR] <;> omega), by (simp [wtI, wtR] <;> omega)⟩
  | ite c s u =>
    refine ⟨_, _, _, rfl, by rw [← hc, go_ite], ?_, ?_, ?_⟩
    all_goals
      rw [wt_cons]
      have h1 := size_pos' s
      have h2 := size_pos' u
      have h3 : wtI (if n = 0 then u else s, e, false) ≤ 2 * s.size + 2 * u.size := by
        show 2 * (if n = 0 then u else s).size ≤ _
        split <;> omega
      have h4 : wtI (Tr.ite c s u, e, true) = 2 * s.size + 2 * u.size + 1 := rfl
      rw [h4]
      simp
      omega
  | lett x s u => exact ⟨_, _, _, rfl, by rw [← hc, go_let], by (simp [wt_cons, wtI, wtR] <;> omega), by (simp [wt_cons, wtI, wtR] <;> omega), by (simp [wt_cons, wtI, wtR] <;> omega)⟩
  | bin o s u =>
    cases o with
    | thn => exact ⟨_, _, _, rfl, by rw [← hc, go_thn], by (simp [wt_cons, wtI, wtR] <;> omega), by (simp [wt_cons, wtI, wtR] <;> omega), by (simp [wt_cons, wtI, wtR] <;> omega)⟩
    | add =>
      obtain ⟨m, E'', rfl⟩ := h2 _ _ _ rfl (by simp)
      exact ⟨_, _, _, rfl, by rw [← hc, go_bin (by simp)], by (simp [wtI, wtR] <;> omega), by (simp [wtI, wtR] <;> omega), by (simp [wtI, wtR] <;> omega)⟩
    | sub =>
      obtain ⟨m, E'', rfl⟩ := h2 _ _ _ rfl (by simp)
      exact ⟨_, _, _, rfl, by rw [← hc, go_bin (by simp)], by (simp [wtI, wtR] <;> omega), by (simp [wtI, wtR] <;> omega), by (simp [wtI, wtR] <;> omega)⟩
    | mul =>
      obtain ⟨m, E'', rfl⟩ := h2 _ _ _ rfl (by simp)
      exact ⟨_, _, _, rfl, by rw [← hc, go_bin (by simp)], by (simp [wtI, wtR] <;> omega), by (simp [wtI, wtR] <;> omega), by (simp [wtI, wtR] <;> omega)⟩
end L2
set_option Elab.async false
set_option linter.all false
set_option maxRecDepth 100000
set_option maxHeartbeats 4000000
namespace L2
open PySem PySem.Spec PyProof.Rows
structure ClsM (K : PySem.W.Frag) (B : Addr) (m : Str) (f : Addr) : Prop where
  gt : PySem.W.specialIn K (.ref B) "__getattribute__" = some (some (.builtin "type.__getattribute__"))
  rd : ∃ mc, PySem.W.readsIn K B mc = true ∧ PySem.W.findCls K (.ref B) mc m = some (.val (.ref f))
  kp : PySem.W.keepIn K (.ref f) = true
def tClsM (B : Addr) (sp : Sp) (dvs : List V) (E : XK) (ta : TE) (t : TA) : TE := fun σ H Q => ta σ H fun x H1 => x = .ref B ∧ t σ H1 fun vs H2 => sp (vs ++ dvs) H2 Q E
theorem pe_clsm {X : Cx} {o e : Expr} {es : List Expr} {ta : TE} {t : TA} {B f : Addr} {m : Str} {fd : FuncData} {ps : List Str} {sp : Sp} {CX : CXT} {k : Nat} {ds : List Value} {dvs : List V} {E : XK} {apos pos : Pos} {pl : Sem Bool}
    (he : PE X o ta) (M : ClsM X.K B m f) (F : FnOk X.prog X.w X.K X.mg X.base CX k f fd ps sp) (hr : Room k X.A) (hb : Binds X.K fd ps ds) (hd : Vals dvs ds) (hx : Passes CX X E) (ha : PA X (e :: es) t)
    (hst : starEach (e :: es) X.env = (false, eval e X.env) :: starEach es X.env := by rfl) (hpl : (backTo pos (starEach es X.env)).any (·.1) = false := by rfl)
    (ht : eval (.Call (.Attribute o m apos) (e :: es) [] pos) X.env = (do
      let ov ← eval o X.env
      standAt apos.atName
      let (f, first) ← holding [ov] (getMethod ov m pl)
      callWith pos f first (backTo pos (starEach (e :: es) X.env)) (backToKw pos (keywordEach [] X.env))) := by rfl) :
    PE X (.Call (.Attribute o m apos) (e :: es) [] pos) (tClsM B sp dvs E ta t) := by
  intro pins s σ H Q I h
  refine PySem.W.methodCall_KW (pl := pl) (thn (he pins s σ H _ I h) fun u s1 ⟨x, H1, I1, rx, ex, q⟩ => ?_) ht
  subst ex
  obtain rfl : u = Value.ref B := rx
  obtain ⟨mc, r1, r2⟩ := M.rd
  refine PySem.W.method_cls I1.kIn M.gt (PySem.W.cls_value I1.kIn r1 r2 rfl ?_)
  refine PySem.W.callWith_K (first := []) (h₀ := X.base) I.ok.mod.kin M.kp (thn (ha pos pins _ σ H1 _ (I1.tok (s1.toks + 1)) q) fun us s2 ⟨vs, H2, I2, r, q2⟩ => ⟨I2.kIn, ?_⟩) hst hpl
  exact run_fn (us := us) (vs := vs) F hr hb hd hx I2 r q2
end L2
set_option Elab.async false
set_option linter.all false
set_option maxRecDepth 100000
set_option maxHeartbeats 4000000
namespace L2
open PySem
def signsV : List V := [.str "num", .str "name", .str "ask", .str "stop", .str "gap"]
def LeafSigns (K : PySem.W.Frag) (lv : Addr) : Prop := ∃ (o : Obj) (its : Array Value) (n : Nat), K.lookup lv = some o ∧ o.cls = .type "tuple" ∧ o.data = .seq its n ∧ its.size ≤ sizeLine ∧ Vals signsV its.toList
theorem in_signs (k : Kd) : inV (.str k.s) signsV = k.leaf := by cases k <;> decide +kernel
theorem head_pos (t : Tr) : 1 ≤ t.head := by cases t <;> simp [Tr.head]
end L2
namespace K31
open PySem L2
def top (i : Nat) : Stmt := PySem.Challenge.pw_recastle_k31_whole_run.main.body.getD i (.Pass ⟨0, 0, 0, 0⟩)
abbrev s_parts_begin : Stmt := top 2
theorem sc_parts_begin : FnScope ["tree"] ["tree"] (defScope s_parts_begin) := ⟨rfl, rfl, rfl, by decide +kernel, rfl, by decide +kernel, by decide +kernel⟩
abbrev s_parts : Stmt := top 3
theorem sc_parts : FnScope ["tree"] ["tree"] (defScope s_parts) := ⟨rfl, rfl, rfl, by decide +kernel, rfl, by decide +kernel, by decide +kernel⟩
abbrev s_wrapped : Stmt := top 9
theorem sc_wrapped : FnScope ["number"] ["number"] (defScope s_wrapped) := ⟨rfl, rfl, rfl, by decide +kernel, rfl, by decide +kernel, by decide +kernel⟩
abbrev s_reckoned : Stmt := top 10
theorem sc_reckoned : FnScope ["sign", "one", "other"] ["sign", "one", "other"] (defScope s_reckoned) := ⟨rfl, rfl, rfl, by decide +kernel, rfl, by decide +kernel, by decide +kernel⟩
abbrev s_with_name : Stmt := top 6
theorem sc_with_name : FnScope ["known", "name", "end", "within"] ["known", "name", "end"] (defScope s_with_name) := ⟨rfl, rfl, rfl, by decide +kernel, rfl, by decide +kernel, by decide +kernel⟩
abbrev s_run_at_first : Stmt := top 5
theorem sc_run_at_first : FnScope ["tree"] ["tree"] (defScope s_run_at_first) := ⟨rfl, rfl, rfl, by decide +kernel, rfl, by decide +kernel, by decide +kernel⟩
section
variable {P : Program} {w : World} {K : PySem.W.Frag} {mg : Str → Option Value} {base : Heap}
def begin_ (t : Tr) : Int := t.head
def sp_parts_begin : Sp := fun vs H Q _ => ∃ t v, vs = [v] ∧ Rep H t v ∧ Q (.int (begin_ t)) H
theorem ok_parts_begin {k : Nat} {f : Addr} {fd : FuncData} {lv : Addr} (F : Fun K "parts_begin" "parts_begin" s_parts_begin f fd) (z_len : mg "len" = none) (m_LEAF_SIGNS : mg "LEAF_SIGNS" = some (.ref lv)) (hL : LeafSigns K lv) :
    FnOk P w K mg base CX0 (k + 1) f fd ["tree"] sp_parts_begin := by
  refine F.ok sc_parts_begin (fun vs H Q E h => ?_) (fun cdv A outer s H vs Q E hr h => ?_)
  · obtain ⟨t, v, rfl, _⟩ := h
    rfl
  obtain ⟨t, v, rfl, hR, q⟩ := h
  refine ⟨_, (pss_cons (ps_if (pt_cmpR (r := rIn K false) op_in_seq (pe_ix (r := rIxT K) ix_tup (pv 0) pe_int (fun _ _ => rfl)) (pe_glob (v := .ref _) (by rfl) m_LEAF_SIGNS (by rfl)) rfl) (pss_one (ps_ret (pe_callB call_len_seq (by rfl) z_len PySem.boot_len (pa_cons (pv 0) pa_nil)))) pss_nil)
    (pss_cons (ps_if (pt_cmpR op_eq (pe_ix (r := rIxT K) ix_tup (pv 0) pe_int (fun _ _ => rfl)) pe_str (nomark _)) (pss_one (ps_ret pe_int)) pss_nil)
    (pss_one (ps_ret pe_int)))), ?_⟩
  obtain ⟨a, hs, us, rfl, ha, hl, hp⟩ := hR.all
  have h0 : atI (V.str t.kd.s :: hs ++ us) 0 = some (.str t.kd.s) := atI_nat (j := 0) rfl
  refine ⟨_, rfl, a, _, 0, _, rfl, rfl, SqT.of ha, h0, lv, signsV, rfl, .inr (.inr hL), rfl, rfl, _, rfl, ?_⟩
  show if inV (.str t.kd.s) signsV = true then _ else _
  rw [in_signs]
  refine ite2 (fun c => ?_) (fun c => ?_)
  · refine ⟨_, rfl, a, _, rfl, .inr (SqT.of ha), ?_⟩
    have e : ((V.str t.sign :: hs ++ us).length : Int) = begin_ t := by
      have hu : us.length = 0 := by
        rw [← hp.length]
        cases t with
        | bin o a b => cases o <;> cases c
        | _ => first | rfl | cases c
      rw [List.length_append, List.length_cons, hu]
      unfold begin_
      omega
    rw [e]
    exact q
  · refine ⟨_, rfl, a, _, 0, _, rfl, rfl, SqT.of ha, h0, rfl, _, rfl, ?_⟩
    refine ite2 (fun d => ?_) (fun d => ?_)
    · have z : t.kd = .lett := Kd.eq_iff.mp (of_decide_eq_true d)
      have e : begin_ t = 2 := by
        cases t with
        | lett x a b => rfl
        | bin o a b => cases o <;> cases z
        | _ => cases z
      rw [e] at q
      exact q
    · have e : begin_ t = 1 := by
        cases t with
        | lett x a b => exact absurd rfl d
        | bin o a b => rfl
        | ite a b c => rfl
        | say a => rfl
        | _ => exact absurd rfl c
      rw [e] at q
      exact q
def sp_parts : Sp := fun vs H Q _ => ∃ t v, vs = [v] ∧ Rep H t v ∧ ∀ p H' us, Same H H' → H' p = some (.tup us) → Paired (Rep H') t.parts us → Q (.ref p) H'
theorem ok_parts {k : Nat} {f g : Addr} {fd gd : FuncData} (F : Fun K "parts" "parts" s_parts f fd) (G_parts_begin : FnB P w K mg base k "parts_begin" g gd ["tree"] sp_parts_begin) :
    FnOk P w K mg base CX0 (k + 1) f fd ["tree"] sp_parts := by
  refine F.ok sc_parts (fun vs H Q E h => ?_) (fun cdv A outer s H vs Q E hr h => ?_)
  · obtain ⟨t, v, rfl, _⟩ := h
    rfl
  obtain ⟨t, v, rfl, hR, q⟩ := h
  refine ⟨_, (pss_one (ps_ret (pe_slice sl_tupV (pv 0) (po_some (pe_call G_parts_begin.ok hr (by rfl) G_parts_begin.gl G_parts_begin.kp G_parts_begin.bd .nil pass0 (pa_cons (pv 0) pa_nil))) po_none))), ?_⟩
  obtain ⟨a, hs, us, rfl, ha, hl, hp⟩ := hR.all
  have hn : (V.str t.sign :: hs ++ us).length = t.head + us.length := by rw [List.length_append, List.length_cons]; omega
  have h1 := head_pos t
  have e1 : HT.sIx (V.str t.sign :: hs ++ us).length 0 (some (begin_ t)) = t.head := by
    show HT.sIx _ 0 (some ((t.head : Nat) : Int)) = _
    rw [HT.sIx_nat, hn]
    omega
  have e2 : cutV (V.str t.sign :: hs ++ us) (some (begin_ t)) none = us := by
    unfold cutV
    rw [e1, HT.sIx_none, hn]
    have : (V.str t.sign :: hs ++ us).drop t.head = us := by
      rw [← hl]
      exact List.drop_left' rfl
    rw [this, List.take_of_length_le (by omega)]
  refine ⟨_, rfl, _, rfl, t, _, rfl, hR, _, rfl, a, _, rfl, ha, fun z => ?_, fun p H' g e => ?_⟩
  · rw [e1] at z
    omega
  · rw [e2] at e
    exact q p H' us g e (Paired.mapP hp fun _ _ r => r.mono g.tk)
def sp_wrapped : Sp := fun vs H Q _ => ∃ i : Int, vs = [.int i] ∧ Q (.int (i % 10 ^ 30)) H
theorem ok_wrapped {k : Nat} {f : Addr} {fd : FuncData} (F : Fun K "wrapped" "wrapped" s_wrapped f fd) : FnOk P w K mg base CX0 (k + 1) f fd ["number"] sp_wrapped := by
  refine F.ok sc_wrapped (fun vs H Q E h => ?_) (fun cdv A outer s H vs Q E hr h => ?_)
  · obtain ⟨i, rfl, _⟩ := h
    rfl
  obtain ⟨i, rfl, q⟩ := h
  refine ⟨_, (pss_one (ps_ret (pe_op op_mod (pv 0) (pe_op op_pow pe_int pe_int)))), ?_⟩
  exact ⟨_, rfl, _, _, rfl, rfl, ⟨by decide, by decide, by decide⟩, _, _, rfl, rfl, (show (0 : Int) < 10 ^ 30 by decide), q⟩
def sp_reckoned : Sp := fun vs H Q _ => ∃ (o : Bin) (m n : Int), vs = [.str o.s, .int m, .int n] ∧ o ≠ .thn ∧ m.natAbs < 2 ^ 100 ∧ n.natAbs < 2 ^ 100 ∧ Q (.int (o.op m n)) H
theorem ok_reckoned {k : Nat} {f g : Addr} {fd gd : FuncData} (F : Fun K "reckoned" "reckoned" s_reckoned f fd) (G_wrapped : FnB P w K mg base k "wrapped" g gd ["number"] sp_wrapped) : FnOk P w K mg base CX0 (k + 1) f fd ["sign", "one", "other"] sp_reckoned := by
  refine F.ok sc_reckoned (fun vs H Q E h => ?_) (fun cdv A outer s H vs Q E hr h => ?_)
  · obtain ⟨o, m, n, rfl, _⟩ := h
    rfl
  obtain ⟨o, m, n, rfl, ho, hm, hn, q⟩ := h
  refine ⟨_, (pss_cons (ps_if (pt_cmpR op_eq (pv 0) pe_str (nomark _)) (pss_one (ps_ret (pe_call G_wrapped.ok hr (by rfl) G_wrapped.gl G_wrapped.kp G_wrapped.bd .nil pass0 (pa_cons (pe_op op_add (pv 1) (pv 2)) pa_nil)))) pss_nil)
    (pss_cons (ps_if (pt_cmpR op_eq (pv 0) pe_str (nomark _)) (pss_one (ps_ret (pe_call G_wrapped.ok hr (by rfl) G_wrapped.gl G_wrapped.kp G_wrapped.bd .nil pass0 (pa_cons (pe_op op_sub (pv 1) (pv 2)) pa_nil)))) pss_nil)
    (pss_one (ps_ret (pe_call G_wrapped.ok hr (by rfl) G_wrapped.gl G_wrapped.kp G_wrapped.bd .nil pass0 (pa_cons (pe_op op_mulB (pv 1) (pv 2)) pa_nil)))))), ?_⟩
  refine ⟨_, rfl, rfl, _, rfl, ?_⟩
  cases o with
  | add =>
    refine iteY rfl ?_
    exact ⟨_, rfl, _, rfl, _, _, rfl, rfl, _, rfl, q⟩
  | sub =>
    refine iteN (by decide +kernel) ?_
    refine ⟨_, rfl, rfl, _, rfl, iteY rfl ?_⟩
    exact ⟨_, rfl, _, rfl, _, _, rfl, rfl, _, rfl, q⟩
  | mul =>
    refine iteN (by decide +kernel) ?_
    refine ⟨_, rfl, rfl, _, rfl, iteN (by decide +kernel) ?_⟩
    exact ⟨_, rfl, _, rfl, _, _, rfl, rfl, ⟨hm, hn⟩, _, rfl, q⟩
  | thn => exact absurd rfl ho
def sp_with_name : Sp := fun vs H Q _ => ∃ (n : Nat) (e : En) (v : V) (x : Str) (m : Int), vs = [v, .str x, .int m] ∧ EnvAt H n e v ∧ n ≤ 900 ∧ ∀ (v' : V) (H' : Hp), Same H H' → EnvAt H' (n + 1) (e.set x m) v' → Q v' H'
theorem ok_with_name {k : Nat} {f : Addr} {fd : FuncData} (F : Fun K "with_name" "with_name" s_with_name f fd) (z_dict : mg "dict" = none) : FnOk P w K mg base CX0 (k + 1) f fd ["known", "name", "end"] sp_with_name := by
  refine F.ok sc_with_name (fun vs H Q E h => ?_) (fun cdv A outer s H vs Q E hr h => ?_)
  · obtain ⟨n, e, v, x, m, rfl, _⟩ := h
    rfl
  obtain ⟨n, e, v, x, m, rfl, he, hn, q⟩ := h
  obtain ⟨d, kvs, rfl, hd, hl, hk⟩ := he
  have hu := hu_of hr
  refine ⟨_, (pss_cons (ps_set (i := 3) sc_with_name.nd rfl (Or.inl rfl) (pe_callTy call_dictD (by rfl) z_dict PyProof.Rows.boot_dict (pa_cons (pv 0) pa_nil)))
    (pss_cons (ps_dput hu (pv 3) (pv 1) (pv 2) rfl)
    (pss_one (ps_ret (pv 3))))), ?_⟩
  refine ⟨_, rfl, d, kvs, rfl, hd, fun p hp => ?_⟩
  refine ⟨_, rfl, _, rfl, _, rfl, p, _, rfl, DPut.k (k := Sum.inr x) upd_same (small1000 (by omega)), ?_⟩
  refine ⟨_, rfl, q _ _ ?_ ⟨p, _, rfl, upd_same, ?_, fun y => ?_⟩⟩
  · exact same_set (same_upd hp) hp
  · exact Nat.le_trans (length_putK _ _ _) (by omega)
  · rw [valV_put]
    by_cases h : y = x
    · subst h
      simp [En.set]
    · rw [if_neg (fun z => h (Sum.inr.inj z)), hk y]
      simp [En.set, h]
def firsts : Tr → List Tr
  | .say a => [a]
  | .bin .thn a _ => [a]
  | .bin _ a b => [a, b]
  | .ite a _ _ => [a]
  | .lett _ a _ => [a]
  | _ => []
def sp_run_at_first : Sp := fun vs H Q _ => ∃ t v, vs = [v] ∧ Rep H t v ∧ t.kd.leaf = false ∧ ∀ p H' us, Same H H' → H' p = some (.tup us) → Paired (Rep H') (firsts t) us → Q (.ref p) H'
theorem in_three (k : Kd) : inV (.str k.s) [.str "then", .str "if", .str "let"] = (decide (k = .thn) || decide (k = .ite) || decide (k = .lett)) := by cases k <;> decide +kernel
theorem ok_run_at_first {k : Nat} {f g : Addr} {fd gd : FuncData} (F : Fun K "run_at_first" "run_at_first" s_run_at_first f fd) (G_parts : FnB P w K mg base k "parts" g gd ["tree"] sp_parts) : FnOk P w K mg base CX0 (k + 1) f fd ["tree"] sp_run_at_first := by
  refine F.ok sc_run_at_first (fun vs H Q E h => ?_) (fun cdv A outer s H vs Q E hr h => ?_)
  · obtain ⟨t, v, rfl, _⟩ := h
    rfl
  obtain ⟨t, v, rfl, hR, hleaf, q⟩ := h
  refine ⟨_, (pss_cons (ps_if (pt_cmpR (r := rIn K false) op_in_seq (pe_ix (r := rIxT K) ix_tup (pv 0) pe_int (fun _ _ => rfl)) (pe_tupR [.str "then", .str "if", .str "let"] (by rfl) : PE _ _ _) rfl) (pss_one (ps_ret (pe_slice sl_tupV (pe_call G_parts.ok hr (by rfl) G_parts.gl G_parts.kp G_parts.bd .nil pass0 (pa_cons (pv 0) pa_nil)) po_none (po_some pe_int)))) pss_nil)
    (pss_one (ps_ret (pe_call G_parts.ok hr (by rfl) G_parts.gl G_parts.kp G_parts.bd .nil pass0 (pa_cons (pv 0) pa_nil))))), ?_⟩
  obtain ⟨a, hs, us, rfl, ha, hl, hp⟩ := hR.all
  have h0 : atI (V.str t.kd.s :: hs ++ us) 0 = some (.str t.kd.s) := atI_nat (j := 0) rfl
  refine ⟨_, rfl, a, _, 0, _, rfl, rfl, SqT.of ha, h0, (by show 3 ≤ sizeLine; decide), fun p3 hp3 => ⟨p3, _, rfl, .inr (SqT.of upd_same), rfl, rfl, _, rfl, ?_⟩⟩
  have g3 := same_upd (o := .tup [.str "then", .str "if", .str "let"]) hp3
  show if inV (.str t.kd.s) [.str "then", .str "if", .str "let"] = true then _ else _
  rw [in_three]
  have hR3 := hR.mono g3.tk
  refine ite2 (fun c => ?_) (fun c => ?_)
  · refine ⟨_, rfl, t, _, rfl, hR3, fun p4 H4 us4 g4 e4 hp4 => ?_⟩
    obtain ⟨b, r, ep, hne, ef⟩ : ∃ b r, t.parts = b :: r ∧ r ≠ [] ∧ firsts t = [b] := by
      cases t with
      | bin o s u =>
        cases o with
        | thn => exact ⟨s, [u], rfl, by simp, rfl⟩
        | _ => exact absurd (show false = true from c) (by decide)
      | ite c' s u => exact ⟨c', [s, u], rfl, by simp, rfl⟩
      | lett x s u => exact ⟨s, [u], rfl, by simp, rfl⟩
      | say s => exact absurd (show false = true from c) (by decide)
      | _ => exact absurd (show true = false from hleaf) (by decide)
    rw [ep] at hp4
    cases hp4 with
    | @cons _ u _ rest h1 h2 =>
      have hlen : 1 ≤ rest.length := by
        rw [← h2.length]
        cases r with
        | nil => exact absurd rfl hne
        | cons _ _ => simp
      have e1 : HT.sIx (u :: rest).length (u :: rest).length (some 1) = 1 := by
        have : HT.sIx (u :: rest).length (u :: rest).length (some ((1 : Nat) : Int)) = min 1 (u :: rest).length := HT.sIx_nat _ _ _
        rw [show ((1 : Nat) : Int) = 1 from rfl] at this
        rw [this, List.length_cons]
        omega
      refine ⟨_, rfl, p4, _, rfl, e4, fun z => ?_, fun p5 H5 g5 e5 => ?_⟩
      · have z2 := z.2
        rw [e1, List.length_cons] at z2
        omega
      · refine q p5 H5 [u] (g3.trans (g4.trans g5)) ?_ ?_
        · rw [e5]
          unfold cutV
          rw [e1, HT.sIx_none]
          rfl
        · rw [ef]
          exact .cons (h1.mono g5.tk) .nil
  · refine ⟨_, rfl, t, _, rfl, hR3, fun p4 H4 us4 g4 e4 hp4 => ?_⟩
    have ef : firsts t = t.parts := by
      cases t with
      | bin o s u =>
        cases o with
        | thn => exact absurd rfl c
        | _ => rfl
      | ite c' s u => exact absurd rfl c
      | lett x s u => exact absurd rfl c
      | _ => rfl
    exact q p4 H4 us4 (g3.trans g4) e4 (by rw [ef]; exact hp4)
end
end K31
set_option Elab.async false
set_option linter.all false
set_option maxRecDepth 100000
set_option maxHeartbeats 4000000
namespace K31
open PySem PySem.Spec L2 PyProof.Rows
abbrev s_Course___init__ : Stmt := inClass (top 7) 0
theorem sc_Course___init__ : FnScope ["self"] ["self"] (defScope s_Course___init__) := ⟨rfl, rfl, rfl, by decide +kernel, rfl, by decide +kernel, by decide +kernel⟩
abbrev s_Course_await_run : Stmt := inClass (top 7) 1
theorem sc_Course_await_run : FnScope ["self", "tree", "known"] ["self", "tree", "known"] (defScope s_Course_await_run) := ⟨rfl, rfl, rfl, by decide +kernel, rfl, by decide +kernel, by decide +kernel⟩
abbrev s_Course_await_rest : Stmt := inClass (top 7) 2
theorem sc_Course_await_rest : FnScope ["self", "tree", "known"] ["self", "tree", "known"] (defScope s_Course_await_rest) := ⟨rfl, rfl, rfl, by decide +kernel, rfl, by decide +kernel, by decide +kernel⟩
abbrev s_Course_begin : Stmt := inClass (top 7) 3
theorem sc_Course_begin : FnScope ["self", "tree", "known", "part"] ["self", "tree", "known"] (defScope s_Course_begin) := ⟨rfl, rfl, rfl, by decide +kernel, rfl, by decide +kernel, by decide +kernel⟩
abbrev s_Course_go_on : Stmt := inClass (top 7) 4
theorem sc_Course_go_on : FnScope ["self", "tree", "known", "end"] ["self", "tree", "known"] (defScope s_Course_go_on) := ⟨rfl, rfl, rfl, by decide +kernel, rfl, by decide +kernel, by decide +kernel⟩
abbrev s_NumberCourse___init__ : Stmt := inClass (top 11) 0
theorem sc_NumberCourse___init__ : FnScope ["self", "asked"] ["self", "asked"] (defScope s_NumberCourse___init__) := ⟨rfl, rfl, rfl, by decide +kernel, rfl, by decide +kernel, by decide +kernel⟩
abbrev s_NumberCourse_end_leaf : Stmt := inClass (top 11) 1
theorem sc_NumberCourse_end_leaf : FnScope ["self", "leaf", "known"] ["self", "leaf", "known"] (defScope s_NumberCourse_end_leaf) := ⟨rfl, rfl, rfl, by decide +kernel, rfl, by decide +kernel, by decide +kernel⟩
abbrev s_NumberCourse_end_two : Stmt := inClass (top 11) 2
theorem sc_NumberCourse_end_two : FnScope ["self", "sign", "one", "other"] ["self", "sign", "one", "other"] (defScope s_NumberCourse_end_two) := ⟨rfl, rfl, rfl, by decide +kernel, rfl, by decide +kernel, by decide +kernel⟩
abbrev s_NumberCourse_go_by : Stmt := inClass (top 11) 3
theorem sc_NumberCourse_go_by : FnScope ["self", "end", "tree", "known"] ["self", "end", "tree", "known"] (defScope s_NumberCourse_go_by) := ⟨rfl, rfl, rfl, by decide +kernel, rfl, by decide +kernel, by decide +kernel⟩
structure Txt (K : PySem.W.Frag) (mg : Str → Option Value) (C B fB : Addr) : Prop where
  cl : Cls K C
  nA : NoAttr K C "asked"
  nD : NoAttr K C "deeds"
  nE : NoAttr K C "ends"
  nW : NoAttr K C "waiting"
  nH : NoAttr K C "halt"
  mgC : mg "NumberCourse" = some (.ref C)
  mgB : mg "Course" = some (.ref B)
  cm : ClsM K B "__init__" fB
section
variable {P : Program} {w : World} {K : PySem.W.Frag} {mg : Str → Option Value} {base : Heap}
def sp_binit (C : Addr) : Sp := fun vs H Q _ => ∃ (p dx : Addr), vs = [.ref p] ∧ H p = some (.ins C dx []) ∧ ∀ (dl el wl : Addr) (H' : Hp), H dl = none → H el = none → H wl = none → H' p = some (.ins C dx (cfld0 dl el wl)) → H' dl = some (.lst []) → H' el = some (.lst []) → H' wl = some (.lst []) → dl ≠ el → dl ≠ wl → el ≠ wl →
  (∀ b o, H b = some o → b ≠ p → H' b = some o) → Q .non H'
theorem ok_binit {k : Nat} {f C B fB : Addr} {fd : FuncData} (F : Fun K "__init__" "Course.__init__" s_Course___init__ f fd) (T : Txt K mg C B fB) : FnOk P w K mg base CX0 (k + 1) f fd ["self"] (sp_binit C) := by
  refine F.ok sc_Course___init__ (fun vs H Q E h => ?_) (fun cdv A outer s H vs Q E hr h => ?_)
  · obtain ⟨p, dx, rfl, _⟩ := h
    rfl
  obtain ⟨p, dx, rfl, hp, q⟩ := h
  refine ⟨_, (pss_cons (ps_fld (pv 0) (pe_lst pa_nil : PE _ _ _) rfl)
    (pss_cons (ps_fld (pv 0) (pe_lst pa_nil : PE _ _ _) rfl)
    (pss_cons (ps_fld (pv 0) (pe_lst pa_nil : PE _ _ _) rfl)
    (pss_one (ps_fld (pv 0) pe_non rfl))))), ?_⟩
  refine ⟨(by show 0 ≤ sizeLine; decide), fun dl hdl => ⟨_, rfl, p, C, dx, [], rfl, same_upd hdl _ _ hp, T.cl, T.nD, (by show 0 < 1000; decide), ?_⟩⟩
  have pd : p ≠ dl := ne_of_none hp hdl
  refine ⟨(by show 0 ≤ sizeLine; decide), fun el hel => ⟨_, rfl, p, C, dx, putF "deeds" (.ref dl) [], rfl, ?_, T.cl, T.nE, (by have h1 := putF_len "deeds" (.ref dl) []; simp at h1 ⊢; omega), ?_⟩⟩
  · rw [upd_ne (ne_of_none upd_same hel)]
    exact upd_same
  have pe : p ≠ el := ne_of_none upd_same hel
  have de : dl ≠ el := ne_of_none (by rw [upd_ne (Ne.symm pd)]; exact upd_same) hel
  have e1 : H el = none := by
    have z := hel
    rw [upd_ne (Ne.symm pe), upd_ne (Ne.symm de)] at z
    exact z
  refine ⟨(by show 0 ≤ sizeLine; decide), fun wl hwl => ⟨_, rfl, p, C, dx, putF "ends" (.ref el) (putF "deeds" (.ref dl) []), rfl, ?_, T.cl, T.nW, (by have h1 := putF_len "deeds" (.ref dl) []; have h2 := putF_len "ends" (.ref el) (putF "deeds" (.ref dl) []); simp at h1 h2 ⊢; omega), ?_⟩⟩
  · rw [upd_ne (ne_of_none upd_same hwl)]
    exact upd_same
  have pw : p ≠ wl := ne_of_none upd_same hwl
  have ew : el ≠ wl := ne_of_none (by rw [upd_ne (Ne.symm pe)]; exact upd_same) hwl
  have dw : dl ≠ wl := ne_of_none (by rw [upd_ne (Ne.symm pd), upd_ne de, upd_ne (Ne.symm pd)]; exact upd_same) hwl
  have w1 : H wl = none := by
    have z := hwl
    rw [upd_ne (Ne.symm pw), upd_ne (Ne.symm ew), upd_ne (Ne.symm pw), upd_ne (Ne.symm dw)] at z
    exact z
  refine ⟨_, rfl, p, C, dx, putF "waiting" (.ref wl) (putF "ends" (.ref el) (putF "deeds" (.ref dl) [])), rfl, upd_same, T.cl, T.nH, (by have h1 := putF_len "deeds" (.ref dl) []; have h2 := putF_len "ends" (.ref el) (putF "deeds" (.ref dl) []); have h3 := putF_len "waiting" (.ref wl) (putF "ends" (.ref el) (putF "deeds" (.ref dl) [])); simp at h1 h2 h3 ⊢; omega), ?_⟩
  refine q dl el wl _ hdl e1 w1 upd_same ?_ ?_ ?_ de dw ew fun b o hb hne => ?_
  · rw [upd_ne (Ne.symm pd), upd_ne (Ne.symm pd), upd_ne dw, upd_ne (Ne.symm pd), upd_ne de, upd_ne (Ne.symm pd)]
    exact upd_same
  · rw [upd_ne (Ne.symm pe), upd_ne (Ne.symm pe), upd_ne ew, upd_ne (Ne.symm pe)]
    exact upd_same
  · rw [upd_ne (Ne.symm pw), upd_ne (Ne.symm pw)]
    exact upd_same
  · rw [upd_ne hne, upd_ne hne, upd_ne (ne_of_none hb w1), upd_ne hne, upd_ne (ne_of_none hb e1), upd_ne hne, upd_ne (ne_of_none hb hdl)]
    exact hb
def sp_init (C : Addr) : Sp := fun vs H Q _ => ∃ (p dx aA : Addr), vs = [.ref p, .ref aA] ∧ H p = some (.ins C dx []) ∧ ∀ (dl el wl : Addr) (H' : Hp), H dl = none → H el = none → H wl = none → Co C H' p aA dl el wl [] [] [] →
  (∀ b o, H b = some o → b ≠ p → H' b = some o) → Q .non H'
theorem ok_init {k : Nat} {f C B fB : Addr} {fd gdB : FuncData} (F : Fun K "__init__" "NumberCourse.__init__" s_NumberCourse___init__ f fd) (T : Txt K mg C B fB) (G_binit : FnM P w K mg base k B "__init__" fB gdB ["self"] (sp_binit C)) : FnOk P w K mg base CX0 (k + 1) f fd ["self", "asked"] (sp_init C) := by
  refine F.ok sc_NumberCourse___init__ (fun vs H Q E h => ?_) (fun cdv A outer s H vs Q E hr h => ?_)
  · obtain ⟨p, dx, aA, rfl, _⟩ := h
    rfl
  obtain ⟨p, dx, aA, rfl, hp, q⟩ := h
  refine ⟨_, (pss_cons (ps_expr (pe_clsm (pe_glob (v := .ref _) (by rfl) T.mgB (by rfl)) T.cm G_binit.ok hr G_binit.bd .nil pass0 (pa_cons (pv 0) pa_nil)))
    (pss_one (ps_fld (pv 0) (pv 1) rfl))), ?_⟩
  refine ⟨rfl, _, rfl, p, dx, rfl, hp, fun dl el wl H1 ndl nel nwl hp1 h1 h2 h3 de dw ew fr => ?_⟩
  refine ⟨_, rfl, _, rfl, p, C, dx, _, rfl, hp1, T.cl, T.nA, ?_, ?_⟩
  · have h4 := cf_len (aA := aA) (dl := dl) (el := el) (wl := wl)
    have h1 := putF_len "deeds" (.ref dl) []
    have h2 := putF_len "ends" (.ref el) (putF "deeds" (.ref dl) [])
    have h3 := putF_len "waiting" (.ref wl) (putF "ends" (.ref el) (putF "deeds" (.ref dl) []))
    have h5 := putF_len "halt" .non (putF "waiting" (.ref wl) (putF "ends" (.ref el) (putF "deeds" (.ref dl) [])))
    unfold cfld0
    simp at h1
    omega
  have pd : p ≠ dl := ne_of_none hp ndl
  have pe : p ≠ el := ne_of_none hp nel
  have pw : p ≠ wl := ne_of_none hp nwl
  refine q dl el wl _ ndl nel nwl ⟨⟨dx, upd_same⟩, by rw [upd_ne (Ne.symm pd)]; exact h1, by rw [upd_ne (Ne.symm pe)]; exact h2, by rw [upd_ne (Ne.symm pw)]; exact h3, de, dw, ew⟩ fun b o hb hne => ?_
  rw [upd_ne hne]
  exact fr b o hb hne
def sp_await (C : Addr) (b : Bool) : Sp := fun vs H Q _ => ∃ (p aA dl el wl : Addr) (ds es ws : List V) (t k : V), vs = [.ref p, t, k] ∧ Co C H p aA dl el wl ds es ws ∧ ws.length ≤ 900 ∧
  ∀ (i : Addr) (H' : Hp), H i = none → H' i = some (.tup [t, k, .bl b]) → Co C H' p aA dl el wl ds es (ws ++ [.ref i]) → Kp dl el wl H H' → Q .non H'
theorem await_out {C : Addr} {H : Hp} {p aA dl el wl i : Addr} {ds es ws : List V} {t k : V} {b : Bool} (c : Co C H p aA dl el wl ds es ws) (hi : H i = none) :
    let H' := upd (upd H i (.tup [t, k, .bl b])) wl (.lst (ws ++ [.ref i])); H' i = some (.tup [t, k, .bl b]) ∧ Co C H' p aA dl el wl ds es (ws ++ [.ref i]) ∧ Kp dl el wl H H' :=
  ⟨by rw [upd_ne (Ne.symm (ne_of_none c.w hi))]; exact upd_same, (c.same (same_upd hi)).setw _, (same_upd hi).kp.trans kp_w⟩
theorem ok_await_run {k : Nat} {f C B fB : Addr} {fd : FuncData} (F : Fun K "await_run" "Course.await_run" s_Course_await_run f fd) (T : Txt K mg C B fB) : FnOk P w K mg base CX0 (k + 1) f fd ["self", "tree", "known"] (sp_await C false) := by
  refine F.ok sc_Course_await_run (fun vs H Q E h => ?_) (fun cdv A outer s H vs Q E hr h => ?_)
  · obtain ⟨p, aA, dl, el, wl, ds, es, ws, t, k, rfl, _⟩ := h
    rfl
  obtain ⟨p, aA, dl, el, wl, ds, es, ws, t, k, rfl, c, hl, q⟩ := h
  obtain ⟨dx, hp⟩ := c.ob
  refine ⟨_, (pss_one (ps_expr (pe_bm PySem.F.plainAttrs_list PySem.F.slot_list_append PySem.F.type_list_append mt_append (pe_fld (pv 0) rfl) (pa_cons (pe_tup (pa_cons (pv 1) (pa_cons (pv 2) (pa_cons pe_bl pa_nil))) : PE _ _ _) pa_nil)))), ?_⟩
  refine ⟨_, rfl, p, C, dx, _, _, rfl, hp, T.cl, T.nW, cf_waiting, .inl ⟨rfl, _, SqL.of c.w⟩, _, rfl, _, rfl, (by show 3 ≤ sizeLine; decide), fun i hi => ?_⟩
  refine ⟨wl, ws, _, rfl, rfl, same_upd hi _ _ c.w, small1000 (by omega), ?_⟩
  obtain ⟨h1, h2, h3⟩ := await_out (t := t) (k := k) (b := false) c hi
  exact q i _ hi h1 h2 h3
theorem ok_await_rest {k : Nat} {f C B fB : Addr} {fd : FuncData} (F : Fun K "await_rest" "Course.await_rest" s_Course_await_rest f fd) (T : Txt K mg C B fB) : FnOk P w K mg base CX0 (k + 1) f fd ["self", "tree", "known"] (sp_await C true) := by
  refine F.ok sc_Course_await_rest (fun vs H Q E h => ?_) (fun cdv A outer s H vs Q E hr h => ?_)
  · obtain ⟨p, aA, dl, el, wl, ds, es, ws, t, k, rfl, _⟩ := h
    rfl
  obtain ⟨p, aA, dl, el, wl, ds, es, ws, t, k, rfl, c, hl, q⟩ := h
  obtain ⟨dx, hp⟩ := c.ob
  refine ⟨_, (pss_one (ps_expr (pe_bm PySem.F.plainAttrs_list PySem.F.slot_list_append PySem.F.type_list_append mt_append (pe_fld (pv 0) rfl) (pa_cons (pe_tup (pa_cons (pv 1) (pa_cons (pv 2) (pa_cons pe_bl pa_nil))) : PE _ _ _) pa_nil)))), ?_⟩
  refine ⟨_, rfl, p, C, dx, _, _, rfl, hp, T.cl, T.nW, cf_waiting, .inl ⟨rfl, _, SqL.of c.w⟩, _, rfl, _, rfl, (by show 3 ≤ sizeLine; decide), fun i hi => ?_⟩
  refine ⟨wl, ws, _, rfl, rfl, same_upd hi _ _ c.w, small1000 (by omega), ?_⟩
  obtain ⟨h1, h2, h3⟩ := await_out (t := t) (k := k) (b := true) c hi
  exact q i _ hi h1 h2 h3
def sp_step (C : Addr) (step : En → Tr → En → List Item → List Int → List DRow → Option (List Item × List Int × List DRow)) (ok : Tr → Prop) : Sp := fun vs H Q _ =>
  ∃ (p aA dl el wl : Addr) (a e : En) (t : Tr) (W W' : List Item) (E E' : List Int) (D D' : List DRow) (v dv : V) (n : Nat), vs = [.ref p, v, dv] ∧ Cf C H p aA dl el wl a W E D ∧ Rep H t v ∧ EnvAt H n e dv ∧ n + t.size ≤ 900 ∧ TrB t ∧ EnB e ∧ ok t ∧
    W.length ≤ 800 ∧ E.length ≤ 800 ∧ D.length ≤ 800 ∧ step a t e W E D = some (W', E', D') ∧ ∀ H', Cf C H' p aA dl el wl a W' E' D' → Kp dl el wl H H' → Q .non H'
theorem map_rev (E : List Int) (n : Int) : (n :: E).reverse.map V.int = E.reverse.map V.int ++ [V.int n] := by simp
theorem ok_end_leaf {k : Nat} {f C B fB : Addr} {fd : FuncData} (F : Fun K "end_leaf" "NumberCourse.end_leaf" s_NumberCourse_end_leaf f fd) (T : Txt K mg C B fB) : FnOk P w K mg base CX0 (k + 1) f fd ["self", "leaf", "known"] (sp_step C bgn fun t => t.kd.leaf = true) := by
  refine F.ok sc_NumberCourse_end_leaf (fun vs H Q E h => ?_) (fun cdv A outer s H vs Q E hr h => ?_)
  · obtain ⟨p, aA, dl, el, wl, a, e, t, W, W', E0, E', D, D', v, dv, n, rfl, _⟩ := h
    rfl
  obtain ⟨p, aA, dl, el, wl, a, e, t, W, W', E0, E', D, D', v, dv, n, rfl, c, hR, hen, hsz, hb, heb, hleaf, lW, lE, lD, hst, q⟩ := h
  have hu := hu_of hr
  obtain ⟨⟨ds, ws, co, h1, h2⟩, en, ab, eb⟩ := id c
  obtain ⟨dx, hp⟩ := co.ob
  have le : (E0.reverse.map V.int).length = E0.length := by simp
  have ld : ds.length = D.length := paired_len h1
  refine ⟨_, (pss_one (ps_if (pt_cmpR op_eq (pe_ix (r := rIxT K) ix_tup (pv 1) pe_int (fun _ _ => rfl)) pe_str (nomark _)) (pss_one (ps_expr (pe_bm PySem.F.plainAttrs_list PySem.F.slot_list_append PySem.F.type_list_append mt_append (pe_fld (pv 0) rfl) (pa_cons (pe_ix (r := rIxT K) ix_tup (pv 1) pe_int (fun _ _ => rfl)) pa_nil)))) (pss_one (ps_if (pt_cmpR op_eq (pe_ix (r := rIxT K) ix_tup (pv 1) pe_int (fun _ _ => rfl)) pe_str (nomark _)) (pss_one (ps_expr (pe_bm PySem.F.plainAttrs_list PySem.F.slot_list_append PySem.F.type_list_append mt_append (pe_fld (pv 0) rfl) (pa_cons (pe_dget2 hu (pv 2) (pe_ix (r := rIxT K) ix_tup (pv 1) pe_int (fun _ _ => rfl)) pe_int ⟨rfl, rfl, rfl, rfl⟩) pa_nil)))) (pss_cons (ps_expr (pe_bm PySem.F.plainAttrs_list PySem.F.slot_list_append PySem.F.type_list_append mt_append (pe_fld (pv 0) rfl) (pa_cons (pv 1) pa_nil)))
    (pss_one (ps_expr (pe_bm PySem.F.plainAttrs_list PySem.F.slot_list_append PySem.F.type_list_append mt_append (pe_fld (pv 0) rfl) (pa_cons (pe_dget2 hu (pe_fld (pv 0) rfl) (pe_ix (r := rIxT K) ix_tup (pv 1) pe_int (fun _ _ => rfl)) pe_int ⟨rfl, rfl, rfl, rfl⟩) pa_nil))))))))), ?_⟩
  cases t with
  | num m =>
    obtain ⟨b, rfl, hb1⟩ := hR
    cases hst
    refine ⟨_, rfl, b, _, 0, _, rfl, rfl, SqT.of hb1, rfl, rfl, _, rfl, iteY rfl ?_⟩
    refine ⟨_, rfl, p, C, dx, _, _, rfl, hp, T.cl, T.nE, cf_ends, .inl ⟨rfl, _, SqL.of co.e⟩, _, rfl, b, _, 1, _, rfl, rfl, SqT.of hb1, rfl, el, _, _, rfl, rfl, co.e, small1000 (by omega), ?_⟩
    refine q _ ⟨⟨ds, ws, by rw [map_rev]; exact co.sete _, Paired.mapP h1 fun _ _ z => z.mono (TD.lst co.e).tk, Paired.mapP h2 fun _ _ z => z.mono (TD.lst co.e)⟩, en.mono (TD.lst co.e), ab, ?_⟩ kp_e
    intro i hi
    rcases List.mem_cons.mp hi with z | z
    · subst z; exact hb
    · exact eb i z
  | name x =>
    obtain ⟨b, rfl, hb1⟩ := hR
    cases hst
    obtain ⟨d, kvs, rfl, hd, hl, hk⟩ := hen
    refine ⟨_, rfl, b, _, 0, _, rfl, rfl, SqT.of hb1, rfl, rfl, _, rfl, iteN (by decide +kernel) ?_⟩
    refine ⟨_, rfl, b, _, 0, _, rfl, rfl, SqT.of hb1, rfl, rfl, _, rfl, iteY rfl ?_⟩
    refine ⟨_, rfl, p, C, dx, _, _, rfl, hp, T.cl, T.nE, cf_ends, .inl ⟨rfl, _, SqL.of co.e⟩, _, rfl, d, rfl, .inl ⟨kvs, .inl hd⟩, _, rfl, b, _, 1, _, rfl, rfl, SqT.of hb1, rfl, _, DGet.k (k := Sum.inr x) hd, el, _, _, rfl, rfl, co.e, small1000 (by omega), ?_⟩
    rw [hk x]
    refine q _ ⟨⟨ds, ws, by rw [map_rev]; exact co.sete _, Paired.mapP h1 fun _ _ z => z.mono (TD.lst co.e).tk, Paired.mapP h2 fun _ _ z => z.mono (TD.lst co.e)⟩, en.mono (TD.lst co.e), ab, ?_⟩ kp_e
    intro i hi
    rcases List.mem_cons.mp hi with z | z
    · subst z; exact heb x
    · exact eb i z
  | ask x =>
    obtain ⟨b, rfl, hb1⟩ := hR
    cases hst
    obtain ⟨d, kvs, ed, hd, hl, hk⟩ := en
    cases ed
    refine ⟨_, rfl, b, _, 0, _, rfl, rfl, SqT.of hb1, rfl, rfl, _, rfl, iteN (by decide +kernel) ?_⟩
    refine ⟨_, rfl, b, _, 0, _, rfl, rfl, SqT.of hb1, rfl, rfl, _, rfl, iteN (by decide +kernel) ?_⟩
    refine ⟨_, rfl, p, C, dx, _, _, rfl, hp, T.cl, T.nD, cf_deeds, .inl ⟨rfl, _, SqL.of co.d⟩, _, rfl, dl, _, _, rfl, rfl, co.d, small1000 (by omega), ?_⟩
    have co1 := co.setd (ds ++ [.ref b])
    have t1 : TD H (upd H dl (.lst (ds ++ [.ref b]))) := TD.lst co.d
    obtain ⟨dx1, hp1⟩ := co1.ob
    have hb2 := t1.tk _ _ hb1
    have hd2 := t1.dk _ _ hd
    refine ⟨_, rfl, p, C, dx1, _, _, rfl, hp1, T.cl, T.nE, cf_ends, .inl ⟨rfl, _, SqL.of co1.e⟩, _, rfl, p, C, dx1, _, _, rfl, hp1, T.cl, T.nA, cf_asked, aA, rfl, .inl ⟨kvs, .inl hd2⟩, _, rfl, b, _, 1, _, rfl, rfl, SqT.of hb2, rfl, _, DGet.k (k := Sum.inr x) hd2, el, _, _, rfl, rfl, co1.e, small1000 (by omega), ?_⟩
    rw [hk x]
    have t2 := t1.trans (TD.lst (o := .lst (E0.reverse.map V.int ++ [V.int (a x)])) co1.e)
    refine q _ ⟨⟨ds ++ [.ref b], ws, by rw [map_rev]; exact co1.sete _, paired_append (Paired.mapP h1 fun _ _ z => z.mono t2.tk) (.cons ⟨b, rfl, t2.tk _ _ hb1⟩ .nil), Paired.mapP h2 fun _ _ z => z.mono t2⟩, ⟨aA, kvs, rfl, t2.dk _ _ hd, hl, hk⟩, ab, ?_⟩ (kp_d.trans kp_e)
    intro i hi
    rcases List.mem_cons.mp hi with z | z
    · subst z; exact ab x
    · exact eb i z
  | stop x => cases hst
  | gap g as => cases hst
  | bin o s u => cases o <;> cases hleaf
  | _ => cases hleaf
theorem bgn_inner {a e : En} {t : Tr} {W : List Item} {E : List Int} {D : List DRow} (h : t.kd.leaf = false) : bgn a t e W E D = some ((firsts t).map (fun s => (s, e, false)) ++ (t, e, true) :: W, E, D) := by
  cases t with
  | bin o s u => cases o <;> rfl
  | say s => rfl
  | ite c s u => rfl
  | lett x s u => rfl
  | _ => cases h
theorem firsts_ok {t s : Tr} (h : s ∈ firsts t) (b : TrB t) : TrB s ∧ s.size ≤ t.size := by
  cases t with
  | bin o p q =>
    cases o with
    | thn => rw [List.mem_singleton.mp h]; exact ⟨b.1, by simp [Tr.size]; omega⟩
    | _ =>
      rcases List.mem_cons.mp h with z | z
      · rw [z]; exact ⟨b.1, by simp [Tr.size]; omega⟩
      · rw [List.mem_singleton.mp z]; exact ⟨b.2, by simp [Tr.size]; omega⟩
  | say p => rw [List.mem_singleton.mp h]; exact ⟨b, by simp [Tr.size]⟩
  | ite c p q => rw [List.mem_singleton.mp h]; exact ⟨b.1, by simp [Tr.size]; omega⟩
  | lett x p q => rw [List.mem_singleton.mp h]; exact ⟨b.1, by simp [Tr.size]; omega⟩
  | _ => exact absurd h (by simp [firsts])
theorem firsts_len (t : Tr) : (firsts t).length ≤ 2 := by
  cases t with
  | bin o p q => cases o <;> simp [firsts]
  | _ => simp [firsts]
def sp_halt (C : Addr) : Sp := fun vs H Q _ => ∃ (p aA dl el wl dx : Addr) (x : Str) (v dv : V), vs = [.ref p, v, dv] ∧ H p = some (.ins C dx (cflds aA dl el wl)) ∧ Rep H (.stop x) v ∧ Q .non (upd H p (.ins C dx (cfldh aA dl el wl v)))
def sp_begin (C : Addr) : Sp := fun vs H Q E => sp_step C bgn (fun _ => True) vs H Q E ∨ sp_halt C vs H Q E
theorem ok_begin {k : Nat} {f C B fB lv g1 g2 g3 g4 : Addr} {fd gd1 gd2 gd3 gd4 : FuncData} (F : Fun K "begin" "Course.begin" s_Course_begin f fd) (T : Txt K mg C B fB) (z_reversed : mg "reversed" = none) (m_LEAF_SIGNS : mg "LEAF_SIGNS" = some (.ref lv)) (hL : LeafSigns K lv)
    (G_run_at_first : FnB P w K mg base k "run_at_first" g1 gd1 ["tree"] sp_run_at_first) (G_end_leaf : FnM P w K mg base k C "end_leaf" g2 gd2 ["self", "leaf", "known"] (sp_step C bgn fun t => t.kd.leaf = true))
    (G_await_rest : FnM P w K mg base k C "await_rest" g3 gd3 ["self", "tree", "known"] (sp_await C true)) (G_await_run : FnM P w K mg base k C "await_run" g4 gd4 ["self", "tree", "known"] (sp_await C false)) :
    FnOk P w K mg base CX0 (k + 1) f fd ["self", "tree", "known"] (sp_begin C) := by
  refine F.ok sc_Course_begin (fun vs H Q E h => ?_) (fun cdv A outer s H vs Q E hr h => ?_)
  · rcases h with h | h
    · obtain ⟨p, aA, dl, el, wl, a, e, t, W, W', E0, E', D, D', v, dv, n, rfl, _⟩ := h
      rfl
    · obtain ⟨p, aA, dl, el, wl, dx, x, v, dv, rfl, _⟩ := h
      rfl
  refine ⟨_, (pss_one (ps_if (pt_cmpR op_eq (pe_ix (r := rIxT K) ix_tup (pv 1) pe_int (fun _ _ => rfl)) pe_str (nomark _)) (pss_one (ps_fld (pv 0) (pv 1) rfl)) (pss_one (ps_if (pt_cmpR (r := rIn K false) op_in_seq (pe_ix (r := rIxT K) ix_tup (pv 1) pe_int (fun _ _ => rfl)) (pe_glob (v := .ref _) (by rfl) m_LEAF_SIGNS (by rfl)) rfl) (pss_one (ps_expr (pe_meth (pv 0) T.cl G_end_leaf.mt G_end_leaf.ok hr G_end_leaf.bd .nil pass0 (pa_cons (pv 1) (pa_cons (pv 2) pa_nil))))) (pss_cons (ps_expr (pe_meth (pv 0) T.cl G_await_rest.mt G_await_rest.ok hr G_await_rest.bd .nil pass0 (pa_cons (pv 1) (pa_cons (pv 2) pa_nil))))
    (pss_one (ps_for PassesOwn.never rfl (pi_revT (by rfl) z_reversed (pa_cons (pe_call G_run_at_first.ok hr (by rfl) G_run_at_first.gl G_run_at_first.kp G_run_at_first.bd .nil pass0 (pa_cons (pv 1) pa_nil)) pa_nil)) (pg_name (i := 3) sc_Course_begin.nd rfl (Or.inl rfl)) (pss_one (ps_expr (pe_meth (pv 0) T.cl G_await_run.mt G_await_run.ok hr G_await_run.bd .nil pass0 (pa_cons (pv 3) (pa_cons (pv 2) pa_nil)))))))))))), ?_⟩
  rcases h with h | h
  rotate_left
  · obtain ⟨p, aA, dl, el, wl, dx, x, v, dv, rfl, hp, hR, q⟩ := h
    obtain ⟨b, rfl, hb1⟩ := hR
    refine ⟨_, rfl, b, _, 0, _, rfl, rfl, SqT.of hb1, rfl, rfl, _, rfl, iteY rfl ?_⟩
    exact ⟨_, rfl, _, rfl, p, C, dx, _, rfl, hp, T.cl, T.nH, (by have := cf_len (aA := aA) (dl := dl) (el := el) (wl := wl); omega), q⟩
  obtain ⟨p, aA, dl, el, wl, a, e, t, W, W', E0, E', D, D', v, dv, n, rfl, c, hR, hen, hsz, hb, heb, _, lW, lE, lD, hst, q⟩ := h
  obtain ⟨b, hs, us, rfl, hb1, hl, hpp⟩ := hR.all
  have h0 : atI (V.str t.kd.s :: hs ++ us) 0 = some (.str t.kd.s) := atI_nat (j := 0) rfl
  have hns : ¬ V.str t.kd.s = V.str "stop" := fun z => by
    have z1 : t.kd = .stop := Kd.eq_iff.mp z
    cases t with
    | stop x => cases hst
    | bin o s u => cases o <;> cases z1
    | _ => cases z1
  refine ⟨_, rfl, b, _, 0, _, rfl, rfl, SqT.of hb1, h0, rfl, _, rfl, iteN hns ?_⟩
  refine ⟨_, rfl, b, _, 0, _, rfl, rfl, SqT.of hb1, h0, lv, signsV, rfl, .inr (.inr hL), rfl, rfl, _, rfl, ?_⟩
  show if inV (.str t.kd.s) signsV = true then _ else _
  rw [in_signs]
  obtain ⟨dx, hp⟩ := c.ob
  refine ite2 (fun cl => ?_) (fun cl => ?_)
  · refine ⟨_, rfl, p, dx, _, rfl, hp, cf_no (by decide +kernel) (by decide +kernel) (by decide +kernel) (by decide +kernel) (by decide +kernel), _, rfl, _, rfl, ?_⟩
    exact ⟨p, aA, dl, el, wl, a, e, t, W, W', E0, E', D, D', _, dv, n, rfl, c, hR, hen, hsz, hb, heb, cl, lW, lE, lD, hst, q⟩
  · have cl' : t.kd.leaf = false := by simpa using cl
    rw [bgn_inner cl'] at hst
    cases hst
    obtain ⟨ds, ws, co, h1, h2⟩ := id c.co
    have lw : ws.length = W.length := by rw [paired_len h2, List.length_reverse]
    refine ⟨_, rfl, p, dx, _, rfl, hp, cf_no (by decide +kernel) (by decide +kernel) (by decide +kernel) (by decide +kernel) (by decide +kernel), _, rfl, _, rfl, ?_⟩
    refine ⟨p, aA, dl, el, wl, ds, _, ws, _, dv, rfl, co, by omega, fun i H1 hi ei co1 k1 => ?_⟩
    have t1 := co.td k1
    have c1 : Cf C H1 p aA dl el wl a ((t, e, true) :: W) E0 D := Cf.await co h1 h2 c.en c.ab c.eb k1 co1 ⟨i, _, dv, n, rfl, ei, hR.mono t1.tk, hen.mono t1, hsz, hb, heb⟩
    refine ⟨_, rfl, t, _, rfl, hR.mono t1.tk, cl', fun pf H2 fs g2 ef hf => ⟨pf, rfl, fs, SqT.of ef, ?_⟩⟩
    have lf : fs.length = (firsts t).length := paired_len hf
    have l2 := firsts_len t
    refine for_rev (xs := fs) (fun j σ' H' => ∃ s3 : Option V, σ' = [some (.ref p), some (.ref b), some dv, s3] ∧ Cf C H' p aA dl el wl a (((firsts t).drop ((firsts t).length - j)).map (fun s => (s, e, false)) ++ (t, e, true) :: W) E0 D ∧ Kp dl el wl H2 H') ?_ ?_ ?_ ?_
    · refine ⟨none, rfl, ?_, Kp.refl _⟩
      rw [Nat.sub_zero, List.drop_length]
      exact c1.same g2
    · rintro j σ1 H3 _ ⟨s3, rfl, c3, k3⟩
      exact SqT.of ((c1.same g2).td k3 |>.tk _ _ ef)
    · rintro j x σ1 H3 hj hx ⟨s3, rfl, c3, k3⟩
      obtain ⟨s, es, rs⟩ := paired_get hf hx
      have t3 := (c1.same g2).td k3
      have td : TD H H3 := t1.trans (g2.td.trans t3)
      obtain ⟨dx3, hp3⟩ := c3.ob
      obtain ⟨ds3, ws3, co3, h13, h23⟩ := id c3.co
      have lw3 : ws3.length ≤ 900 := by
        rw [paired_len h23, List.length_reverse, List.length_append, List.length_map, List.length_drop, List.length_cons]
        omega
      have hmem : s ∈ firsts t := List.mem_of_getElem? es
      have fo := firsts_ok hmem hb
      refine ⟨_, rfl, p, dx3, _, rfl, hp3, cf_no (by decide +kernel) (by decide +kernel) (by decide +kernel) (by decide +kernel) (by decide +kernel), _, rfl, _, rfl, ?_⟩
      refine ⟨p, aA, dl, el, wl, ds3, _, ws3, _, dv, rfl, co3, lw3, fun i4 H4 hi4 ei4 co4 k4 => ⟨some x, rfl, ?_, k3.trans k4⟩⟩
      have t4 := co3.td k4
      have c4 : Cf C H4 p aA dl el wl a ((s, e, false) :: (((firsts t).drop ((firsts t).length - j)).map (fun s => (s, e, false)) ++ (t, e, true) :: W)) E0 D :=
        Cf.await co3 h13 h23 c3.en c3.ab c3.eb k4 co4 ⟨i4, x, dv, n, rfl, ei4, rs.mono (t3.trans t4).tk, hen.mono (td.trans t4), (by show n + s.size ≤ 900; omega), fo.1, heb⟩
      have hjl : j < (firsts t).length := by rw [← lf]; exact hj
      have ed : (firsts t).drop ((firsts t).length - (j + 1)) = s :: (firsts t).drop ((firsts t).length - j) := by
        have hlt : (firsts t).length - (j + 1) < (firsts t).length := by omega
        rw [List.drop_eq_getElem_cons hlt]
        have e1 : (firsts t).length - (j + 1) + 1 = (firsts t).length - j := by omega
        have e2 : (firsts t)[(firsts t).length - (j + 1)] = s := by
          have := List.getElem?_eq_some_iff.mp es
          obtain ⟨_, z⟩ := this
          rw [← z]
          congr 1
          rw [lf]
          omega
        rw [e1, e2]
      rw [ed]
      exact c4
    · rintro σ1 H3 ⟨s3, rfl, c3, k3⟩
      rw [lf, Nat.sub_self, List.drop_zero] at c3
      exact q _ c3 (k1.trans (g2.kp.trans k3))
def sp_end_two (C : Addr) : Sp := fun vs H Q _ => ∃ (p aA dl el wl : Addr) (ds es ws : List V) (o : Bin) (m2 m : Int), vs = [.ref p, .str o.s, .int m2, .int m] ∧ Co C H p aA dl el wl ds es ws ∧ o ≠ .thn ∧ m2.natAbs < 2 ^ 100 ∧ m.natAbs < 2 ^ 100 ∧ es.length ≤ 900 ∧ Q .non (upd H el (.lst (es ++ [.int (o.op m2 m)])))
theorem ok_end_two {k : Nat} {f C B fB g2 : Addr} {fd gd2 : FuncData} (F : Fun K "end_two" "NumberCourse.end_two" s_NumberCourse_end_two f fd) (T : Txt K mg C B fB) (G_reckoned : FnB P w K mg base k "reckoned" g2 gd2 ["sign", "one", "other"] sp_reckoned) : FnOk P w K mg base CX0 (k + 1) f fd ["self", "sign", "one", "other"] (sp_end_two C) := by
  refine F.ok sc_NumberCourse_end_two (fun vs H Q E h => ?_) (fun cdv A outer s H vs Q E hr h => ?_)
  · obtain ⟨p, aA, dl, el, wl, ds, es, ws, o, m2, m, rfl, _⟩ := h
    rfl
  obtain ⟨p, aA, dl, el, wl, ds, es, ws, o, m2, m, rfl, co, ho, h1, h2, hl, q⟩ := h
  refine ⟨_, (pss_one (ps_expr (pe_bm PySem.F.plainAttrs_list PySem.F.slot_list_append PySem.F.type_list_append mt_append (pe_fld (pv 0) rfl) (pa_cons (pe_call G_reckoned.ok hr (by rfl) G_reckoned.gl G_reckoned.kp G_reckoned.bd .nil pass0 (pa_cons (pv 1) (pa_cons (pv 2) (pa_cons (pv 3) pa_nil)))) pa_nil)))), ?_⟩
  obtain ⟨dx, hp⟩ := co.ob
  exact ⟨_, rfl, p, C, dx, _, _, rfl, hp, T.cl, T.nE, cf_ends, .inl ⟨rfl, _, SqL.of co.e⟩, _, rfl, _, rfl, _, rfl, o, m2, m, rfl, ho, h1, h2, el, _, _, rfl, rfl, co.e, small1000 (by omega), q⟩
def sp_go_by (C : Addr) : Sp := fun vs H Q E => ∃ (p b : Addr) (m : Int) (u1 u2 u3 dv : V), vs = [.ref p, .int m, .ref b, dv] ∧ H b = some (.tup [.str "if", u1, u2, u3]) ∧ sp_await C false [.ref p, (if m = 0 then u3 else u2), dv] H (fun _ H' => Q .non H') E
theorem ok_go_by {k : Nat} {f C B fB g3 : Addr} {fd gd3 : FuncData} (F : Fun K "go_by" "NumberCourse.go_by" s_NumberCourse_go_by f fd) (T : Txt K mg C B fB) (G_await_run : FnM P w K mg base k C "await_run" g3 gd3 ["self", "tree", "known"] (sp_await C false)) : FnOk P w K mg base CX0 (k + 1) f fd ["self", "end", "tree", "known"] (sp_go_by C) := by
  refine F.ok sc_NumberCourse_go_by (fun vs H Q E h => ?_) (fun cdv A outer s H vs Q E hr h => ?_)
  · obtain ⟨p, b, m, u1, u2, u3, dv, rfl, _⟩ := h
    rfl
  obtain ⟨p, b, m, u1, u2, u3, dv, rfl, hb1, h⟩ := h
  refine ⟨_, (pss_one (ps_expr (pe_meth (pv 0) T.cl G_await_run.mt G_await_run.ok hr G_await_run.bd .nil pass0 (pa_cons (pe_ifExp (pt_cmpR op_ne (pv 1) pe_int (nomark _)) (pe_ix (r := rIxT K) ix_tup (pv 2) pe_int (fun _ _ => rfl)) (pe_ix (r := rIxT K) ix_tup (pv 2) pe_int (fun _ _ => rfl))) (pa_cons (pv 3) pa_nil))))), ?_⟩
  obtain ⟨p', aA, dl, el, wl, ds, es, ws, t, kk, ev, co, hl, q⟩ := id h
  cases ev
  obtain ⟨dx, hp⟩ := co.ob
  refine ⟨_, rfl, p, dx, _, rfl, hp, cf_no (by decide +kernel) (by decide +kernel) (by decide +kernel) (by decide +kernel) (by decide +kernel), _, rfl, rfl, _, rfl, ?_⟩
  by_cases hz : m = 0
  · subst hz
    rw [if_pos rfl] at h
    refine iteF ?_
    exact ⟨_, rfl, b, _, 3, _, rfl, rfl, SqT.of hb1, rfl, _, rfl, h⟩
  · rw [if_neg hz] at h
    show if (!decide (V.int m = V.int 0)) = true then _ else _
    rw [decide_eq_false (fun z => hz (V.int.inj z))]
    refine iteT ?_
    exact ⟨_, rfl, b, _, 2, _, rfl, rfl, SqT.of hb1, rfl, _, rfl, h⟩
theorem ok_go_on {k : Nat} {f C B fB g1 g2 g3 g4 : Addr} {fd gd1 gd2 gd3 gd4 : FuncData} (F : Fun K "go_on" "Course.go_on" s_Course_go_on f fd) (T : Txt K mg C B fB)
    (G_with_name : FnB P w K mg base k "with_name" g1 gd1 ["known", "name", "end"] sp_with_name) (G_end_two : FnM P w K mg base k C "end_two" g2 gd2 ["self", "sign", "one", "other"] (sp_end_two C)) (G_go_by : FnM P w K mg base k C "go_by" g4 gd4 ["self", "end", "tree", "known"] (sp_go_by C))
    (G_await_run : FnM P w K mg base k C "await_run" g3 gd3 ["self", "tree", "known"] (sp_await C false)) :
    FnOk P w K mg base CX0 (k + 1) f fd ["self", "tree", "known"] (sp_step C (fun _ => gon) fun _ => True) := by
  refine F.ok sc_Course_go_on (fun vs H Q E h => ?_) (fun cdv A outer s H vs Q E hr h => ?_)
  · obtain ⟨p, aA, dl, el, wl, a, e, t, W, W', E0, E', D, D', v, dv, n, rfl, _⟩ := h
    rfl
  obtain ⟨p, aA, dl, el, wl, a, e, t, W, W', E0, E', D, D', v, dv, n, rfl, c, hR, hen, hsz, hb, heb, _, lW, lE, lD, hst, q⟩ := h
  refine ⟨_, (pss_cons (ps_set (i := 3) sc_Course_go_on.nd rfl (Or.inl rfl) (pe_bm0 PySem.F.plainAttrs_list PySem.F.slot_list_pop PySem.F.type_list_pop mt_pop (pe_fld (pv 0) rfl)))
    (pss_one (ps_if (pt_cmpR op_eq (pe_ix (r := rIxT K) ix_tup (pv 1) pe_int (fun _ _ => rfl)) pe_str (nomark _)) (pss_cons (ps_expr (pe_bm PySem.F.plainAttrs_list PySem.F.slot_list_append PySem.F.type_list_append mt_append (pe_fld (pv 0) rfl) (pa_cons (pe_tup (pa_cons pe_str (pa_cons (pv 3) pa_nil)) : PE _ _ _) pa_nil)))
    (pss_one (ps_expr (pe_bm PySem.F.plainAttrs_list PySem.F.slot_list_append PySem.F.type_list_append mt_append (pe_fld (pv 0) rfl) (pa_cons (pv 3) pa_nil))))) (pss_one (ps_if (pt_cmpR op_eq (pe_ix (r := rIxT K) ix_tup (pv 1) pe_int (fun _ _ => rfl)) pe_str (nomark _)) (pss_one (ps_expr (pe_meth (pv 0) T.cl G_await_run.mt G_await_run.ok hr G_await_run.bd .nil pass0 (pa_cons (pe_ix (r := rIxT K) ix_tup (pv 1) pe_int (fun _ _ => rfl)) (pa_cons (pv 2) pa_nil))))) (pss_one (ps_if (pt_cmpR op_eq (pe_ix (r := rIxT K) ix_tup (pv 1) pe_int (fun _ _ => rfl)) pe_str (nomark _)) (pss_one (ps_expr (pe_meth (pv 0) T.cl G_go_by.mt G_go_by.ok hr G_go_by.bd .nil pass0 (pa_cons (pv 3) (pa_cons (pv 1) (pa_cons (pv 2) pa_nil)))))) (pss_one (ps_if (pt_cmpR op_eq (pe_ix (r := rIxT K) ix_tup (pv 1) pe_int (fun _ _ => rfl)) pe_str (nomark _)) (pss_one (ps_expr (pe_meth (pv 0) T.cl G_await_run.mt G_await_run.ok hr G_await_run.bd .nil pass0 (pa_cons (pe_ix (r := rIxT K) ix_tup (pv 1) pe_int (fun _ _ => rfl)) (pa_cons (pe_call G_with_name.ok hr (by rfl) G_with_name.gl G_with_name.kp G_with_name.bd .nil pass0 (pa_cons (pv 2) (pa_cons (pe_ix (r := rIxT K) ix_tup (pv 1) pe_int (fun _ _ => rfl)) (pa_cons (pv 3) pa_nil)))) pa_nil))))) (pss_one (ps_expr (pe_meth (pv 0) T.cl G_end_two.mt G_end_two.ok hr G_end_two.bd .nil pass0 (pa_cons (pe_ix (r := rIxT K) ix_tup (pv 1) pe_int (fun _ _ => rfl)) (pa_cons (pe_bm0 PySem.F.plainAttrs_list PySem.F.slot_list_pop PySem.F.type_list_pop mt_pop (pe_fld (pv 0) rfl)) (pa_cons (pv 3) pa_nil))))))))))))))), ?_⟩
  obtain ⟨⟨ds, ws, co, h1, h2⟩, en, ab, eb⟩ := id c
  obtain ⟨dx, hp⟩ := co.ob
  have ld : ds.length = D.length := paired_len h1
  have lw : ws.length = W.length := by rw [paired_len h2, List.length_reverse]
  obtain ⟨m, E1, rfl⟩ : ∃ m E1, E0 = m :: E1 := by
    cases E0 with
    | cons m E1 => exact ⟨m, E1, rfl⟩
    | nil =>
      cases t with
      | bin o s u => cases o <;> cases hst
      | _ => cases hst
  have hm : InB m := eb m List.mem_cons_self
  have eb1 : ∀ i ∈ E1, InB i := fun i hi => eb i (List.mem_cons_of_mem _ hi)
  have ce := co.e
  rw [map_rev] at ce
  refine ⟨_, rfl, p, C, dx, _, _, rfl, hp, T.cl, T.nE, cf_ends, .inl ⟨rfl, _, SqL.of ce⟩, el, _, V.int m, rfl, rfl, ce, by simp, ?_⟩
  rw [List.dropLast_concat]
  have co1 : Co C (upd H el (.lst (E1.reverse.map V.int))) p aA dl el wl ds (E1.reverse.map V.int) ws := co.sete _
  have t1 : TD H (upd H el (.lst (E1.reverse.map V.int))) := TD.lst ce
  have k1 : Kp dl el wl H (upd H el (.lst (E1.reverse.map V.int))) := kp_e
  generalize upd H el (.lst (E1.reverse.map V.int)) = H1 at co1 t1 k1 ⊢
  have h11 : Paired (RowRep H1) D ds := Paired.mapP h1 fun _ _ z => z.mono t1.tk
  have h21 : Paired (ItemRep H1) W.reverse ws := Paired.mapP h2 fun _ _ z => z.mono t1
  have en1 := en.mono t1
  have hR1 := hR.mono t1.tk
  have hen1 := hen.mono t1
  obtain ⟨dx1, hp1⟩ := co1.ob
  have nol : ∀ {m : Str}, ¬ m = "asked" → ¬ m = "deeds" → ¬ m = "ends" → ¬ m = "waiting" → ¬ m = "halt" → (cflds aA dl el wl).lookup m = none := fun h1 h2 h3 h4 h5 => cf_no h1 h2 h3 h4 h5
  have lE1 : E1.length ≤ 800 := by rw [List.length_cons] at lE; omega
  have more : ∀ (s : Tr) (e' : En) (u dv' : V) (n' : Nat) (H2 : Hp), Same H1 H2 → Rep H2 s u → EnvAt H2 n' e' dv' → n' + s.size ≤ 900 → TrB s → EnB e' → W' = (s, e', false) :: W → E' = E1 → D' = D →
      sp_await C false [.ref p, u, dv'] H2 (fun _ H' => Q .non H') E := fun s e' u dv' n' H2 g2 r2 n2 z2 b2 be2 w2 x2 d2 => by
    subst w2 x2 d2
    have co2 := co1.same g2
    refine ⟨p, aA, dl, el, wl, ds, _, ws, u, dv', rfl, co2, by omega, fun i H3 hi ei co3 k3 => ?_⟩
    have t3 := co2.td k3
    refine q H3 (Cf.await co2 (Paired.mapP h11 fun _ _ z => z.mono g2.tk) (Paired.mapP h21 fun _ _ z => z.mono g2.td) (en1.mono g2.td) ab eb1 k3 co3 ⟨i, u, dv', n', rfl, ei, r2.mono t3.tk, n2.mono t3, z2, b2, be2⟩) (k1.trans (g2.kp.trans k3))
  cases t with
  | say s =>
    cases hst
    obtain ⟨b, u, rfl, hb1, _⟩ := hR1
    refine ⟨_, rfl, b, _, 0, _, rfl, rfl, SqT.of hb1, rfl, rfl, _, rfl, iteY rfl ?_⟩
    refine ⟨_, rfl, p, C, dx1, _, _, rfl, hp1, T.cl, T.nD, cf_deeds, .inl ⟨rfl, _, SqL.of co1.d⟩, _, rfl, (by show 2 ≤ sizeLine; decide), fun i hi => ?_⟩
    have g2 := same_upd (o := .tup [.str "say", .int m]) hi
    have co2 := co1.same g2
    refine ⟨dl, ds, _, rfl, rfl, co2.d, small1000 (by omega), ?_⟩
    have co3 := co2.setd (ds ++ [.ref i])
    have t3 : TD H1 (upd (upd H1 i (.tup [.str "say", .int m])) dl (.lst (ds ++ [.ref i]))) := g2.td.trans (TD.lst co2.d)
    have ei : upd (upd H1 i (.tup [.str "say", .int m])) dl (.lst (ds ++ [.ref i])) i = some (.tup [.str "say", .int m]) := (TD.lst co2.d).tk _ _ upd_same
    have k3 : Kp dl el wl H1 (upd (upd H1 i (.tup [.str "say", .int m])) dl (.lst (ds ++ [.ref i]))) := g2.kp.trans kp_d
    generalize upd (upd H1 i (.tup [.str "say", .int m])) dl (.lst (ds ++ [.ref i])) = H3 at co3 t3 ei k3 ⊢
    obtain ⟨dx3, hp3⟩ := co3.ob
    refine ⟨_, rfl, p, C, dx3, _, _, rfl, hp3, T.cl, T.nE, cf_ends, .inl ⟨rfl, _, SqL.of co3.e⟩, _, rfl, el, _, _, rfl, rfl, co3.e, small1000 (by rw [List.length_map, List.length_reverse]; omega), ?_⟩
    have t4 := t3.trans (TD.lst (o := .lst (E1.reverse.map V.int ++ [.int m])) co3.e)
    refine q _ ⟨⟨ds ++ [.ref i], ws, by rw [map_rev]; exact co3.sete _, paired_append (Paired.mapP h11 fun _ _ z => z.mono t4.tk) (.cons ⟨i, rfl, (TD.lst co3.e).tk _ _ ei⟩ .nil), Paired.mapP h21 fun _ _ z => z.mono t4⟩, en1.mono t4, ab, eb⟩ (k1.trans (k3.trans kp_e))
  | ite c' s u =>
    cases hst
    obtain ⟨b, u1, u2, u3, rfl, hb1, r1, r2, r3⟩ := hR1
    refine ⟨_, rfl, b, _, 0, _, rfl, rfl, SqT.of hb1, rfl, rfl, _, rfl, iteN (by decide +kernel) ?_⟩
    refine ⟨_, rfl, b, _, 0, _, rfl, rfl, SqT.of hb1, rfl, rfl, _, rfl, iteN (by decide +kernel) ?_⟩
    refine ⟨_, rfl, b, _, 0, _, rfl, rfl, SqT.of hb1, rfl, rfl, _, rfl, iteY rfl ?_⟩
    refine ⟨_, rfl, p, dx1, _, rfl, hp1, nol (by decide +kernel) (by decide +kernel) (by decide +kernel) (by decide +kernel) (by decide +kernel), _, rfl, _, rfl, _, rfl, ?_⟩
    refine ⟨p, b, m, u1, u2, u3, dv, rfl, hb1, ?_⟩
    by_cases hz : m = 0
    · subst hz
      rw [if_pos rfl]
      exact more u e _ _ n H1 (.refl _) r3 hen1 (by simp [Tr.size] at hsz; omega) hb.2.2 heb (by simp) rfl rfl
    · rw [if_neg hz]
      exact more s e _ _ n H1 (.refl _) r2 hen1 (by simp [Tr.size] at hsz; omega) hb.2.1 heb (by simp [hz]) rfl rfl
  | lett x s u =>
    cases hst
    obtain ⟨b, u1, u2, rfl, hb1, r1, r2⟩ := hR1
    refine ⟨_, rfl, b, _, 0, _, rfl, rfl, SqT.of hb1, rfl, rfl, _, rfl, iteN (by decide +kernel) ?_⟩
    refine ⟨_, rfl, b, _, 0, _, rfl, rfl, SqT.of hb1, rfl, rfl, _, rfl, iteN (by decide +kernel) ?_⟩
    refine ⟨_, rfl, b, _, 0, _, rfl, rfl, SqT.of hb1, rfl, rfl, _, rfl, iteN (by decide +kernel) ?_⟩
    refine ⟨_, rfl, b, _, 0, _, rfl, rfl, SqT.of hb1, rfl, rfl, _, rfl, iteY rfl ?_⟩
    refine ⟨_, rfl, p, dx1, _, rfl, hp1, nol (by decide +kernel) (by decide +kernel) (by decide +kernel) (by decide +kernel) (by decide +kernel), _, rfl, b, _, 3, _, rfl, rfl, SqT.of hb1, rfl, _, rfl, _, rfl, b, _, 1, _, rfl, rfl, SqT.of hb1, rfl, _, rfl, ?_⟩
    refine ⟨n, e, dv, x, m, rfl, hen1, by omega, fun dv' H2 g2 hen2 => ?_⟩
    exact more u (e.set x m) _ _ (n + 1) H2 g2 (r2.mono g2.tk) hen2 (by have := size_pos' s; simp [Tr.size] at hsz; omega) hb.2 (heb.set hm) rfl rfl rfl
  | bin o s u =>
    obtain ⟨b, u1, u2, rfl, hb1, r1, r2⟩ := hR1
    have nsay : ¬ V.str o.s = V.str "say" := by cases o <;> decide +kernel
    have nite : ¬ V.str o.s = V.str "if" := by cases o <;> decide +kernel
    have nlet : ¬ V.str o.s = V.str "let" := by cases o <;> decide +kernel
    refine ⟨_, rfl, b, _, 0, _, rfl, rfl, SqT.of hb1, rfl, rfl, _, rfl, iteN nsay ?_⟩
    refine ⟨_, rfl, b, _, 0, _, rfl, rfl, SqT.of hb1, rfl, rfl, _, rfl, ?_⟩
    by_cases ho : o = .thn
    · subst ho
      cases hst
      refine iteY rfl ?_
      refine ⟨_, rfl, p, dx1, _, rfl, hp1, nol (by decide +kernel) (by decide +kernel) (by decide +kernel) (by decide +kernel) (by decide +kernel), _, rfl, b, _, 2, _, rfl, rfl, SqT.of hb1, rfl, _, rfl, ?_⟩
      exact more u e _ _ n H1 (.refl _) r2 hen1 (by simp [Tr.size] at hsz; omega) hb.2 heb rfl rfl rfl
    · have nthn : ¬ V.str o.s = V.str "then" := by
        cases o with
        | thn => exact absurd rfl ho
        | _ => decide +kernel
      refine iteN nthn ?_
      refine ⟨_, rfl, b, _, 0, _, rfl, rfl, SqT.of hb1, rfl, rfl, _, rfl, iteN nite ?_⟩
      refine ⟨_, rfl, b, _, 0, _, rfl, rfl, SqT.of hb1, rfl, rfl, _, rfl, iteN nlet ?_⟩
      obtain ⟨m2, E2, rfl, hst'⟩ : ∃ m2 E2, E1 = m2 :: E2 ∧ some (W, o.op m2 m :: E2, D) = some (W', E', D') := by
        cases E1 with
        | nil =>
          cases o with
          | thn => exact absurd rfl ho
          | _ => cases hst
        | cons m2 E2 =>
          cases o with
          | thn => exact absurd rfl ho
          | _ => exact ⟨m2, E2, rfl, hst⟩
      cases hst'
      have hm2 : InB m2 := eb1 m2 List.mem_cons_self
      have ce1 := co1.e
      rw [map_rev] at ce1
      refine ⟨_, rfl, p, dx1, _, rfl, hp1, nol (by decide +kernel) (by decide +kernel) (by decide +kernel) (by decide +kernel) (by decide +kernel), _, rfl, b, _, 0, _, rfl, rfl, SqT.of hb1, rfl, _, rfl, p, C, dx1, _, _, rfl, hp1, T.cl, T.nE, cf_ends, .inl ⟨rfl, _, SqL.of ce1⟩, el, _, V.int m2, rfl, rfl, ce1, by simp, ?_⟩
      rw [List.dropLast_concat]
      have co2 : Co C (upd H1 el (.lst (E2.reverse.map V.int))) p aA dl el wl ds (E2.reverse.map V.int) ws := co1.sete _
      have t2 : TD H1 (upd H1 el (.lst (E2.reverse.map V.int))) := TD.lst ce1
      have k2 : Kp dl el wl H1 (upd H1 el (.lst (E2.reverse.map V.int))) := kp_e
      generalize upd H1 el (.lst (E2.reverse.map V.int)) = H2 at co2 t2 k2 ⊢
      refine ⟨_, rfl, p, aA, dl, el, wl, ds, _, ws, o, m2, m, rfl, co2, ho, hm2.abs, hm.abs, (by rw [List.length_map, List.length_reverse]; rw [List.length_cons] at lE1; omega), ?_⟩
      have t3 := t2.trans (TD.lst (o := .lst (E2.reverse.map V.int ++ [.int (o.op m2 m)])) co2.e)
      refine q _ ⟨⟨ds, ws, by rw [map_rev]; exact co2.sete _, Paired.mapP h11 fun _ _ z => z.mono t3.tk, Paired.mapP h21 fun _ _ z => z.mono t3⟩, en1.mono t3, ab, fun i hi => ?_⟩ (k1.trans (k2.trans kp_e))
      rcases List.mem_cons.mp hi with z | z
      · subst z; exact InB.op o hm
      · exact eb1 i (List.mem_cons_of_mem _ z)
  | _ => cases hst
end
end K31
set_option Elab.async false
set_option linter.all false
set_option maxRecDepth 100000
set_option maxHeartbeats 4000000
namespace K31
open PySem PySem.Spec L2 PyProof.Rows
abbrev s_Course_run_whole : Stmt := inClass (top 7) 5
theorem sc_Course_run_whole : FnScope ["self", "tree", "known", "item"] ["self", "tree", "known"] (defScope s_Course_run_whole) := ⟨rfl, rfl, rfl, by decide +kernel, rfl, by decide +kernel, by decide +kernel⟩
abbrev s_run : Stmt := top 12
theorem sc_run : FnScope ["tree", "known", "asked", "course"] ["tree", "known", "asked"] (defScope s_run) := ⟨rfl, rfl, rfl, by decide +kernel, rfl, by decide +kernel, by decide +kernel⟩
section
variable {P : Program} {w : World} {K : PySem.W.Frag} {mg : Str → Option Value} {base : Heap}
def EnvOf (H : Hp) (e : En) (v : V) : Prop := (v = .non ∧ e = fun _ => 0) ∨ EnvAt H 500 e v
theorem EnvOf.mono {H H' : Hp} (k : TD H H') {e : En} {v : V} : EnvOf H e v → EnvOf H' e v
  | .inl h => .inl h
  | .inr h => .inr (h.mono k)
theorem or_env {i : Nat} {σ : L2.St} {H : Hp} {Q : VK} {e : En} {v : V} (hv : σ[i]? = some (some v)) (h : EnvOf H e v) (q : ∀ d H', Same H H' → EnvAt H' 500 e (.ref d) → Q (.ref d) H') : tOrT K (tVar i) tDNewK σ H Q := by
  rcases h with ⟨rfl, rfl⟩ | ⟨d, kvs, rfl, hd, hl, hk⟩
  · refine ⟨_, hv, false, rfl, ?_⟩
    rw [if_neg Bool.false_ne_true]
    exact fun d hd => q d _ (same_upd hd) ⟨d, [], rfl, upd_same, Nat.zero_le _, fun _ => rfl⟩
  · refine ⟨_, hv, !kvs.isEmpty, (show TruV K (.ref d) H _ from Or.inr (Or.inr ⟨kvs, hd, rfl⟩)), ?_⟩
    cases kvs with
    | nil =>
      rw [if_neg (by simp)]
      exact fun d' hd' => q d' _ (same_upd hd') ⟨d', [], rfl, upd_same, Nat.zero_le _, hk⟩
    | cons p r =>
      rw [if_pos (by simp)]
      exact q d H (.refl H) ⟨d, _, rfl, hd, hl, hk⟩
theorem paired_unsnoc {α : Type} {F : α → V → Prop} {as : List α} {b : α} {us : List V} (h : Paired F (as ++ [b]) us) : ∃ us' u, us = us' ++ [u] ∧ Paired F as us' ∧ F b u := by
  induction as generalizing us with
  | nil =>
    cases h with
    | cons r t => cases t; exact ⟨[], _, rfl, .nil, r⟩
  | cons a as ih =>
    cases h with
    | cons r t =>
      obtain ⟨us', u, rfl, p, f⟩ := ih t
      exact ⟨_ :: us', u, rfl, .cons r p, f⟩
theorem bgn_some {a e : En} {t : Tr} {W : List Item} {E : List Int} {D : List DRow} {r : Res} (h : pre D (cont a ((t, e, false) :: W) E) = some r) (hn : ∀ x, t ≠ .stop x) : ∃ W' E' D', bgn a t e W E D = some (W', E', D') := by
  cases t with
  | stop x => exact absurd rfl (hn x)
  | gap g as => cases h
  | bin o s u => cases o <;> exact ⟨_, _, _, rfl⟩
  | _ => exact ⟨_, _, _, rfl⟩
def RunEnd (C : Addr) (H' : Hp) (p aA dl el wl : Addr) (r : Res) : Prop := ∃ ds, H' dl = some (.lst ds) ∧ Paired (RowRep H') r.1 ds ∧ (∃ ws, H' wl = some (.lst ws)) ∧
  ((∃ (n : Int) (dx : Addr) (es : List V), r.2 = .inl n ∧ H' p = some (.ins C dx (cflds aA dl el wl)) ∧ H' el = some (.lst (es ++ [.int n])) ∧ dl ≠ el) ∨ ∃ (x : Str) (dx : Addr) (v : V), r.2 = .inr x ∧ H' p = some (.ins C dx (cfldh aA dl el wl v)) ∧ Rep H' (.stop x) v)
def Kp4 (p dl el wl : Addr) (H H' : Hp) : Prop := ∀ b o, H b = some o → b ≠ p → b ≠ dl → b ≠ el → b ≠ wl → H' b = some o
def sp_rwhole (C : Addr) : Sp := fun vs H Q _ => ∃ (p aA dl el wl : Addr) (t : Tr) (v dv : V) (e a : En) (r : Res), vs = [.ref p, v, dv] ∧ Co C H p aA dl el wl [] [] [] ∧ Rep H t v ∧ t.size ≤ 300 ∧ TrB t ∧ EnvAt H 500 e dv ∧ EnvAt H 500 a (.ref aA) ∧ EnB e ∧ EnB a ∧ ev a t e = some r ∧
  ∀ H', RunEnd C H' p aA dl el wl r → Kp4 p dl el wl H H' → Q .non H'
theorem ok_rwhole {k : Nat} {f C B fB g2 g3 g4 : Addr} {fd gd2 gd3 gd4 : FuncData} (F : Fun K "run_whole" "Course.run_whole" s_Course_run_whole f fd) (T : Txt K mg C B fB)
    (G_await_run : FnM P w K mg base k C "await_run" g2 gd2 ["self", "tree", "known"] (sp_await C false))
    (G_begin : FnM P w K mg base k C "begin" g3 gd3 ["self", "tree", "known"] (sp_begin C)) (G_go_on : FnM P w K mg base k C "go_on" g4 gd4 ["self", "tree", "known"] (sp_step C (fun _ => gon) fun _ => True)) :
    FnOk P w K mg base CX0 (k + 1) f fd ["self", "tree", "known"] (sp_rwhole C) := by
  refine F.ok sc_Course_run_whole (fun vs H Q E h => ?_) (fun cdv A outer s H vs Q E hr h => ?_)
  · obtain ⟨p, aA, dl, el, wl, t, v, dv, e, a, r, rfl, _⟩ := h
    rfl
  obtain ⟨p, aA, dl, el, wl, t, v, dv, e, a, r, rfl, co, hR, hsz, hb, hen, hea, he, ha, hev, q⟩ := h
  refine ⟨_, (pss_cons (ps_expr (pe_meth (pv 0) T.cl G_await_run.mt G_await_run.ok hr G_await_run.bd .nil pass0 (pa_cons (pv 1) (pa_cons (pv 2) pa_nil))))
    (pss_one (ps_while PassesOwn.never (pw_and (pt_truth (pe_fld (pv 0) rfl) (fun _ => rfl)) (pw_and1 (pt_cmpR op_isN (pe_fld (pv 0) rfl) pe_non (nomark _)))).pt (pss_cons (ps_set (i := 3) sc_Course_run_whole.nd rfl (Or.inl rfl) (pe_bm0 PySem.F.plainAttrs_list PySem.F.slot_list_pop PySem.F.type_list_pop mt_pop (pe_fld (pv 0) rfl)))
    (pss_one (ps_if (pt_val (pe_ix (r := rIxT K) ix_tup (pv 3) pe_int (fun _ _ => rfl))) (pss_one (ps_expr (pe_meth (pv 0) T.cl G_go_on.mt G_go_on.ok hr G_go_on.bd .nil pass0 (pa_cons (pe_ix (r := rIxT K) ix_tup (pv 3) pe_int (fun _ _ => rfl)) (pa_cons (pe_ix (r := rIxT K) ix_tup (pv 3) pe_int (fun _ _ => rfl)) pa_nil))))) (pss_one (ps_expr (pe_meth (pv 0) T.cl G_begin.mt G_begin.ok hr G_begin.bd .nil pass0 (pa_cons (pe_ix (r := rIxT K) ix_tup (pv 3) pe_int (fun _ _ => rfl)) (pa_cons (pe_ix (r := rIxT K) ix_tup (pv 3) pe_int (fun _ _ => rfl)) pa_nil))))))))))), ?_⟩
  obtain ⟨dx2, hp2⟩ := co.ob
  have nol : ∀ {m : Str}, ¬ m = "asked" → ¬ m = "deeds" → ¬ m = "ends" → ¬ m = "waiting" → ¬ m = "halt" → (cflds aA dl el wl).lookup m = none := fun h1 h2 h3 h4 h5 => cf_no h1 h2 h3 h4 h5
  refine ⟨_, rfl, p, dx2, _, rfl, hp2, nol (by decide +kernel) (by decide +kernel) (by decide +kernel) (by decide +kernel) (by decide +kernel), _, rfl, _, rfl, ?_⟩
  refine ⟨p, aA, dl, el, wl, [], [], [], v, dv, rfl, co, Nat.zero_le _, fun i H4 hi ei co4 k4 => ?_⟩
  have t4 := co.td k4
  have cf0 : Cf C H4 p aA dl el wl a [(t, e, false)] [] [] :=
    Cf.await (W := []) (E := []) (D := []) co .nil .nil (let ⟨d, kvs, x1, x2, x3, x4⟩ := hea; ⟨d, kvs, x1, x2, by omega, x4⟩) ha (by simp) k4 co4 ⟨i, v, dv, 500, rfl, ei, (hR.mono t4.tk), hen.mono t4, (by show 500 + t.size ≤ 900; omega), hb, he⟩
  have c0 : pre [] (cont a [(t, e, false)] []) = some r := by
    rw [pre_nil, cont_run, hev]
    obtain ⟨d, x | y⟩ := r
    · rw [seq_one]
      simp [cont, pre]
    · rfl
  refine ⟨fun m σ' H' => (∃ (W : List Item) (E : List Int) (D : List DRow) (s4 : Option V), σ' = [some (.ref p), some v, some dv, s4] ∧ Kp dl el wl H H' ∧ Cf C H' p aA dl el wl a W E D ∧ pre D (cont a W E) = some r ∧ m = wt W + 1 ∧ wt W + E.length ≤ 700 ∧ wt W + D.length ≤ 700) ∨
      (∃ (s4 : Option V) (x : Str) (dx : Addr) (u : V) (ds ws : List V), σ' = [some (.ref p), some v, some dv, s4] ∧ m = 0 ∧ r.2 = .inr x ∧ H' p = some (.ins C dx (cfldh aA dl el wl u)) ∧ Rep H' (.stop x) u ∧ H' dl = some (.lst ds) ∧ H' wl = some (.lst ws) ∧ Paired (RowRep H') r.1 ds ∧ Kp4 p dl el wl H H'),
    ⟨_, .inl ⟨[(t, e, false)], [], [], none, rfl, k4, cf0, c0, rfl, ?_, ?_⟩⟩, ?_⟩
  · show 2 * t.size + 0 + 0 ≤ 700
    omega
  · show 2 * t.size + 0 + 0 ≤ 700
    omega
  rintro m σ' Hw (⟨W, E0, D, s4, rfl, gw, cf, hc, rfl, lE, lD⟩ | ⟨s4, x, dxh, u, ds, ws, rfl, rfl, er2, hph, ru, ehd, ehw, phd, kp4⟩)
  rotate_left
  · 
    have fin : Q .non Hw := q Hw ⟨ds, ehd, phd, ⟨ws, ehw⟩, .inr ⟨x, dxh, u, er2, hph, ru⟩⟩ kp4
    refine ⟨_, rfl, p, C, dxh, _, _, rfl, hph, T.cl, T.nW, ch_waiting, _, .inl ⟨ws, SqL.of ehw, rfl⟩, ?_⟩
    refine ite2 (fun c => ?_) (fun c => iteF fin)
    refine ⟨_, rfl, p, C, dxh, _, _, rfl, hph, T.cl, T.nH, ch_halt, rfl, _, rfl, ?_⟩
    obtain ⟨b, rfl, _⟩ := ru
    exact iteN (fun z => nomatch z) fin
  obtain ⟨⟨ds, ws, cw, h1, h2⟩, en, ab, eb⟩ := id cf
  obtain ⟨dxw, hpw⟩ := cw.ob
  refine ⟨_, rfl, p, C, dxw, _, _, rfl, hpw, T.cl, T.nW, cf_waiting, _, .inl ⟨ws, SqL.of cw.w, rfl⟩, ?_⟩
  refine ite2 (fun c => ?_) (fun c => iteF ?_)
  · refine ⟨_, rfl, p, C, dxw, _, _, rfl, hpw, T.cl, T.nH, cf_halt, rfl, _, rfl, iteY rfl ?_⟩
    refine ⟨_, fun _ _ h => h, ?_⟩
    obtain ⟨it, W1, rfl⟩ : ∃ it W1, W = it :: W1 := by
      cases W with
      | cons it W1 => exact ⟨it, W1, rfl⟩
      | nil =>
        have : ws = [] := by
          have := paired_len h2
          simpa using this
        rw [this] at c
        simp at c
    rw [List.reverse_cons] at h2
    obtain ⟨ws1, u, rfl, h21, hit⟩ := paired_unsnoc h2
    obtain ⟨ti, ei', bi⟩ := it
    obtain ⟨b, u0, dv2, n, rfl, hb1, rb, hn, hnz, tb, ebi⟩ := hit
    have lW := wt_len ((ti, ei', bi) :: W1)
    rw [List.length_cons] at lW
    refine ⟨_, rfl, p, C, dxw, _, _, rfl, hpw, T.cl, T.nW, cf_waiting, .inl ⟨rfl, _, SqL.of cw.w⟩, wl, _, V.ref b, rfl, rfl, cw.w, by simp, ?_⟩
    rw [List.dropLast_concat]
    have cw1 := cw.setw ws1
    have t1 : TD Hw (upd Hw wl (.lst ws1)) := TD.lst cw.w
    have k1 : Kp dl el wl Hw (upd Hw wl (.lst ws1)) := kp_w
    generalize upd Hw wl (.lst ws1) = H5 at cw1 t1 k1 ⊢
    have cf1 : Cf C H5 p aA dl el wl a W1 E0 D := ⟨⟨ds, ws1, cw1, Paired.mapP h1 fun _ _ z => z.mono t1.tk, Paired.mapP h21 fun _ _ z => z.mono t1⟩, en.mono t1, ab, eb⟩
    have hb5 := t1.tk _ _ hb1
    have rb5 := rb.mono t1.tk
    have hn5 := hn.mono t1
    have g5 := gw.trans k1
    obtain ⟨dx5, hp5⟩ := cw1.ob
    refine ⟨_, rfl, b, _, 2, _, rfl, rfl, SqT.of hb5, rfl, bi, rfl, ?_⟩
    cases bi with
    | true =>
      refine iteT ?_
      obtain ⟨W', E', D', hg, hc', w1, w2, w3⟩ := gon_ok hc
      refine ⟨_, rfl, p, dx5, _, rfl, hp5, nol (by decide +kernel) (by decide +kernel) (by decide +kernel) (by decide +kernel) (by decide +kernel), _, rfl, b, _, 0, _, rfl, rfl, SqT.of hb5, rfl, _, rfl, b, _, 1, _, rfl, rfl, SqT.of hb5, rfl, ?_⟩
      refine ⟨p, aA, dl, el, wl, a, ei', ti, W1, W', E0, E', D, D', u0, dv2, n, rfl, cf1, rb5, hn5, hnz, tb, ebi, trivial, by omega, by omega, by omega, hg, fun H6 c6 k6 => ?_⟩
      exact ⟨wt W' + 1, by omega, .inl ⟨W', E', D', some (.ref b), rfl, g5.trans k6, c6, hc', rfl, by omega, by omega⟩⟩
    | false =>
      refine iteF ?_
      refine ⟨_, rfl, p, dx5, _, rfl, hp5, nol (by decide +kernel) (by decide +kernel) (by decide +kernel) (by decide +kernel) (by decide +kernel), _, rfl, b, _, 0, _, rfl, rfl, SqT.of hb5, rfl, _, rfl, b, _, 1, _, rfl, rfl, SqT.of hb5, rfl, ?_⟩
      by_cases hs : ∃ x, ti = .stop x
      · obtain ⟨x, rfl⟩ := hs
        rw [cont_stop] at hc
        have er : r = (D, .inr x) := by
          have := Option.some.inj hc
          rw [← this]
          simp
        refine .inr ⟨p, aA, dl, el, wl, dx5, x, u0, dv2, rfl, hp5, rb5, ?_⟩
        have tkp : Tk H5 (upd H5 p (.ins C dx5 (cfldh aA dl el wl u0))) := fun b2 xs e2 => by
          rw [upd_ne (ne_of e2 hp5 (by intro z; cases z))]
          exact e2
        refine ⟨0, by omega, .inr ⟨some (.ref b), x, dx5, u0, ds, ws1, rfl, rfl, by rw [er], upd_same, rb5.mono tkp, by rw [upd_ne (Ne.symm cw1.pd)]; exact cw1.d, by rw [upd_ne (Ne.symm cw1.pw)]; exact cw1.w, ?_, fun b2 o hb2 n0 n1 n2 n3 => ?_⟩⟩
        · rw [er]
          exact Paired.mapP h1 fun _ _ z => z.mono (t1.tk.trans tkp)
        · rw [upd_ne n0]
          exact g5 b2 o hb2 n1 n2 n3
      · have hns : ∀ x, ti ≠ .stop x := fun x z => hs ⟨x, z⟩
        obtain ⟨W', E', D', hg⟩ := bgn_some hc hns
        obtain ⟨hc', w1, w2, w3⟩ := bgn_ok hg
        rw [hc'] at hc
        refine .inl ⟨p, aA, dl, el, wl, a, ei', ti, W1, W', E0, E', D, D', _, dv2, n, rfl, cf1, rb5, hn5, hnz, tb, ebi, trivial, by omega, by omega, by omega, hg, fun H6 c6 k6 => ?_⟩
        exact ⟨wt W' + 1, by omega, .inl ⟨W', E', D', some (.ref b), rfl, g5.trans k6, c6, hc, rfl, by omega, by omega⟩⟩
  · have hw : W = [] := by
      have e1 : ws = [] := by simpa using c
      rw [e1] at h2
      have := paired_len h2
      simpa using this.symm
    subst hw
    cases E0 with
    | nil => cases hc
    | cons n E1 =>
      have er : r = (D, .inl n) := by
        have := Option.some.inj hc
        rw [← this]
        simp
      have ce := cw.e
      rw [map_rev] at ce
      refine q Hw ⟨ds, cw.d, by rw [er]; exact h1, ⟨ws, cw.w⟩, .inl ⟨n, dxw, _, by rw [er], hpw, ce, cw.de⟩⟩ fun b o hb _ n1 n2 n3 => gw b o hb n1 n2 n3
def sp_run : Sp := fun vs H Q _ => ∃ (t : Tr) (v kn asv : V) (e a : En) (r : Res), vs = [v, kn, asv] ∧ Rep H t v ∧ t.size ≤ 300 ∧ TrB t ∧ EnvOf H e kn ∧ EnvOf H a asv ∧ EnB e ∧ EnB a ∧ ev a t e = some r ∧
  ∀ (f dl : Addr) (en : V) (ds : List V) (H' : Hp), H dl = none → Same H H' → H' f = some (.tup [.ref dl, en]) → H' dl = some (.lst ds) → Paired (RowRep H') r.1 ds → RowRep H' (endR r.2) en → Q (.ref f) H'
theorem ok_run {k : Nat} {f C B fB g1 g2 : Addr} {fd gd1 gd2 : FuncData} {dvs : List Value} (F : FunD K "run" "run" s_run f fd dvs) (T : Txt K mg C B fB) (MK : Mk K C g1)
    (G_init : FnM P w K mg base k C "__init__" g1 gd1 ["self", "asked"] (sp_init C)) (G_run_whole : FnM P w K mg base (k + 1) C "run_whole" g2 gd2 ["self", "tree", "known"] (sp_rwhole C)) :
    FnOk P w K mg base CX0 (k + 2) f fd ["tree", "known", "asked"] sp_run := by
  refine F.ok sc_run (fun vs H Q E h => ?_) (fun cdv A outer s H vs Q E hr h => ?_)
  · obtain ⟨t, v, kn, asv, e, a, r, rfl, _⟩ := h
    rfl
  obtain ⟨t, v, kn, asv, e, a, r, rfl, hR, hsz, hb, hkn, has, he, ha, hev, q⟩ := h
  refine ⟨_, (pss_cons (ps_set (i := 3) sc_run.nd rfl (Or.inl rfl) (pe_make MK G_init.ok hr (by rfl) T.mgC G_init.bd .nil pass0 (pa_cons (pe_orV (pv 2) (pe_one pe_dnewK)) pa_nil)))
    (pss_cons (ps_expr (pe_meth (pv 3) T.cl G_run_whole.mt G_run_whole.ok hr G_run_whole.bd .nil pass0 (pa_cons (pv 0) (pa_cons (pe_orV (pv 1) (pe_one pe_dnewK)) pa_nil))))
    (pss_cons (ps_if (pt_cmpR op_notN (pe_fld (pv 3) rfl) pe_non (nomark _)) (pss_one (ps_ret (pe_tup (pa_cons (pe_fld (pv 3) rfl) (pa_cons (pe_fld (pv 3) rfl) pa_nil)) : PE _ _ _))) pss_nil)
    (pss_one (ps_ret (pe_tup (pa_cons (pe_fld (pv 3) rfl) (pa_cons (pe_tup (pa_cons pe_str (pa_cons (pe_bm0 PySem.F.plainAttrs_list PySem.F.slot_list_pop PySem.F.type_list_pop mt_pop (pe_fld (pv 3) rfl)) pa_nil)) : PE _ _ _) pa_nil)) : PE _ _ _)))))), ?_⟩
  refine or_env rfl has fun aA H1 g1 en1 => ?_
  intro p dx np ndx nex
  have n1 : (upd (upd H1 dx (.own p)) p (.ins C dx [])) p = some (.ins C dx []) := upd_same
  refine ⟨p, dx, aA, rfl, n1, fun dl el wl H2 ndl nel nwl co kp => ⟨rfl, ?_⟩⟩
  have g12 : Same H1 H2 := fun b o hb => kp b o (by rw [upd_ne (ne_of_none hb np), upd_ne (ne_of_none hb ndx)]; exact hb) (ne_of_none hb np)
  have free : ∀ l, (upd (upd H1 dx (.own p)) p (.ins C dx [])) l = none → H l = none := fun l hl => by
    refine g1.free ?_
    cases hq : H1 l with
    | none => rfl
    | some o =>
      rw [upd_ne (ne_of_none hq np), upd_ne (ne_of_none hq ndx), hq] at hl
      cases hl
  have dl0 := free dl ndl
  have el0 := free el nel
  have wl0 := free wl nwl
  have p0 : H p = none := g1.free np
  have gB := g1.trans g12
  obtain ⟨dx2, hp2⟩ := co.ob
  refine ⟨_, rfl, p, dx2, _, rfl, hp2, cf_no (by decide +kernel) (by decide +kernel) (by decide +kernel) (by decide +kernel) (by decide +kernel), _, rfl, or_env rfl (hkn.mono gB.td) fun dk H3 g3 en3 => ?_⟩
  have co3 := co.same g3
  have gC := gB.trans g3
  refine ⟨p, aA, dl, el, wl, t, v, .ref dk, e, a, r, rfl, co3, hR.mono gC.tk, hsz, hb, en3, en1.mono (g12.trans g3).td, he, ha, hev, fun H4 fin k4 => ?_⟩
  have gD : Same H H4 := fun b o hb => k4 b o (gC b o hb) (ne_of_none hb p0) (ne_of_none hb dl0) (ne_of_none hb el0) (ne_of_none hb wl0)
  obtain ⟨ds, ed, pd, ⟨ws, ew⟩, (⟨n, dx4, es, er, hp4, ee, hde⟩ | ⟨x, dx4, u, er, hp4, ru⟩)⟩ := fin
  · refine ⟨_, rfl, p, C, dx4, _, _, rfl, hp4, T.cl, T.nH, cf_halt, rfl, _, rfl, iteF ?_⟩
    refine ⟨_, rfl, p, C, dx4, _, _, rfl, hp4, T.cl, T.nD, cf_deeds, _, rfl, p, C, dx4, _, _, rfl, hp4, T.cl, T.nE, cf_ends, .inl ⟨rfl, _, SqL.of ee⟩, el, _, V.int n, rfl, rfl, ee, by simp, ?_⟩
    rw [List.dropLast_concat]
    have t1 : Tk H4 (upd H4 el (.lst es)) := Tk.lst ee
    have gE : Same H (upd H4 el (.lst es)) := same_set gD el0
    have ed5 : (upd H4 el (.lst es)) dl = some (.lst ds) := by rw [upd_ne hde]; exact ed
    have pd5 : Paired (RowRep (upd H4 el (.lst es))) r.1 ds := Paired.mapP pd fun _ _ z => z.mono t1
    generalize upd H4 el (.lst es) = H5 at gE ed5 pd5 ⊢
    refine ⟨(by show 2 ≤ sizeLine; decide), fun i5 hi5 => ⟨(by show 2 ≤ sizeLine; decide), fun f6 hf6 => ?_⟩⟩
    have g5 := same_upd (o := .tup [.str "is", .int n]) hi5
    have g6 := same_upd (o := .tup [.ref dl, .ref i5]) hf6
    refine q f6 dl _ ds _ dl0 (gE.trans (g5.trans g6)) upd_same (g6 _ _ (g5 _ _ ed5)) (Paired.mapP pd5 fun _ _ z => z.mono (g5.tk.trans g6.tk)) ?_
    rw [er]
    exact ⟨i5, rfl, g6 _ _ upd_same⟩
  · obtain ⟨b, rfl, hb1⟩ := ru
    refine ⟨_, rfl, p, C, dx4, _, _, rfl, hp4, T.cl, T.nH, ch_halt, rfl, _, rfl, iteT ?_⟩
    refine ⟨_, rfl, p, C, dx4, _, _, rfl, hp4, T.cl, T.nD, ch_deeds, _, rfl, p, C, dx4, _, _, rfl, hp4, T.cl, T.nH, ch_halt, (by show 2 ≤ sizeLine; decide), fun f6 hf6 => ?_⟩
    have g6 := same_upd (o := .tup [.ref dl, .ref b]) hf6
    refine q f6 dl _ ds _ dl0 (gD.trans g6) upd_same (g6 _ _ ed) (Paired.mapP pd fun _ _ z => z.mono g6.tk) ?_
    rw [er]
    exact ⟨b, rfl, g6 _ _ hb1⟩
end
end K31
set_option Elab.async false
set_option linter.all false
set_option maxRecDepth 100000
set_option maxHeartbeats 4000000
namespace K31
open PySem PySem.Spec L2 PyProof.Rows
abbrev s_law_whole : Stmt := top 15
theorem sc_law_whole : FnScope ["_law_found"] ["_law_found"] (defScope s_law_whole) := ⟨rfl, rfl, rfl, by decide +kernel, rfl, by decide +kernel, by decide +kernel⟩
abbrev s_law_row : Stmt := top 22
theorem sc_law_row : FnScope ["_law_found", "_law_due"] ["_law_found", "_law_due"] (defScope s_law_row) := ⟨rfl, rfl, rfl, by decide +kernel, rfl, by decide +kernel, by decide +kernel⟩
abbrev s_law_told : Stmt := top 23
theorem sc_law_told : FnScope ["_law_found", "_law_deeds", "_law_end_here", "_law_k"] ["_law_found", "_law_deeds", "_law_end_here"] (defScope s_law_told) := ⟨rfl, rfl, rfl, by decide +kernel, rfl, by decide +kernel, by decide +kernel⟩
section
variable {P : Program} {w : World} {K : PySem.W.Frag} {mg : Str → Option Value} {base : Heap}
def sp_whole : Sp := fun vs H Q _ => ∃ i : Int, vs = [.int i] ∧ Q (.bl true) H
theorem ok_whole {k : Nat} {f : Addr} {fd : FuncData} (F : Fun K "_law_whole" "_law_whole" s_law_whole f fd) (z_isinstance : mg "isinstance" = none) (z_int : mg "int" = none) (z_bool : mg "bool" = none) : FnOk P w K mg base CX0 (k + 1) f fd ["_law_found"] sp_whole := by
  refine F.ok sc_law_whole (fun vs H Q E h => ?_) (fun cdv A outer s H vs Q E hr h => ?_)
  · obtain ⟨i, rfl, _⟩ := h
    rfl
  obtain ⟨i, rfl, q⟩ := h
  refine ⟨_, (pss_one (ps_ret (pe_and (pe_callB call_isi (by rfl) z_isinstance PyProof.Rows.boot_isinstance (pa_cons (pv 0) (pa_cons (pe_bltn (v := .ty _) (by rfl) z_int PyProof.Rows.boot_int (by rfl)) pa_nil))) (pe_one (pe_not (pe_callB call_isi (by rfl) z_isinstance PyProof.Rows.boot_isinstance (pa_cons (pv 0) (pa_cons (pe_bltn (v := .ty _) (by rfl) z_bool PyProof.Rows.boot_bool (by rfl)) pa_nil)))))))), ?_⟩
  refine ⟨_, rfl, _, "int", _, true, rfl, .int i, rfl, true, rfl, ?_⟩
  exact ⟨_, rfl, _, "bool", _, false, rfl, .int i, rfl, false, rfl, q⟩
def sp_row : Sp := fun vs H Q _ => ∃ (r : DRow) (f d : V), vs = [f, d] ∧ RowRep H r f ∧ RowRep H r d ∧ Q (.bl true) H
theorem ok_row {k : Nat} {f g1 : Addr} {fd gd1 : FuncData} (F : Fun K "_law_row" "_law_row" s_law_row f fd) (z_isinstance : mg "isinstance" = none) (z_tuple : mg "tuple" = none) (z_str : mg "str" = none) (z_len : mg "len" = none)
    (G_law_whole : FnB P w K mg base k "_law_whole" g1 gd1 ["_law_found"] sp_whole) : FnOk P w K mg base CX0 (k + 1) f fd ["_law_found", "_law_due"] sp_row := by
  refine F.ok sc_law_row (fun vs H Q E h => ?_) (fun cdv A outer s H vs Q E hr h => ?_)
  · obtain ⟨r, f, d, rfl, _⟩ := h
    rfl
  obtain ⟨⟨r1, r2⟩, f, d, rfl, ⟨a, rfl, ha⟩, ⟨b, rfl, hb⟩, q⟩ := h
  refine ⟨_, (pss_cons (ps_if (pw_or (pt_not (pt_val (pe_callB call_isi (by rfl) z_isinstance PyProof.Rows.boot_isinstance (pa_cons (pv 0) (pa_cons (pe_bltn (v := .ty _) (by rfl) z_tuple PyProof.Rows.boot_tuple (by rfl)) pa_nil))))) (pw_or (pt_cmpR op_ne (pe_callB call_len_seq (by rfl) z_len PySem.boot_len (pa_cons (pv 0) pa_nil)) pe_int (nomark _)) (pw_or (pt_not (pt_val (pe_callB call_isi (by rfl) z_isinstance PyProof.Rows.boot_isinstance (pa_cons (pe_ix (r := rIxT K) ix_tup (pv 0) pe_int (fun _ _ => rfl)) (pa_cons (pe_bltn (v := .ty _) (by rfl) z_str PyProof.Rows.boot_str (by rfl)) pa_nil))))) (pw_or1 (pt_cmpR op_ne (pe_ix (r := rIxT K) ix_tup (pv 0) pe_int (fun _ _ => rfl)) (pe_ix (r := rIxT K) ix_tup (pv 1) pe_int (fun _ _ => rfl)) (nomark _)))))).pt (pss_one (ps_ret pe_bl)) pss_nil)
    (pss_cons (ps_if (pt_val (pe_callB call_isi (by rfl) z_isinstance PyProof.Rows.boot_isinstance (pa_cons (pe_ix (r := rIxT K) ix_tup (pv 1) pe_int (fun _ _ => rfl)) (pa_cons (pe_bltn (v := .ty _) (by rfl) z_str PyProof.Rows.boot_str (by rfl)) pa_nil)))) (pss_one (ps_ret (pe_and (pe_callB call_isi (by rfl) z_isinstance PyProof.Rows.boot_isinstance (pa_cons (pe_ix (r := rIxT K) ix_tup (pv 0) pe_int (fun _ _ => rfl)) (pa_cons (pe_bltn (v := .ty _) (by rfl) z_str PyProof.Rows.boot_str (by rfl)) pa_nil))) (pe_one (pe_cmpR op_eq (pe_ix (r := rIxT K) ix_tup (pv 0) pe_int (fun _ _ => rfl)) (pe_ix (r := rIxT K) ix_tup (pv 1) pe_int (fun _ _ => rfl)) (nomark _)))))) pss_nil)
    (pss_one (ps_ret (pe_and (pe_call G_law_whole.ok hr (by rfl) G_law_whole.gl G_law_whole.kp G_law_whole.bd .nil pass0 (pa_cons (pe_ix (r := rIxT K) ix_tup (pv 0) pe_int (fun _ _ => rfl)) pa_nil)) (pe_one (pe_cmpR op_eq (pe_ix (r := rIxT K) ix_tup (pv 0) pe_int (fun _ _ => rfl)) (pe_ix (r := rIxT K) ix_tup (pv 1) pe_int (fun _ _ => rfl)) (nomark _)))))))), ?_⟩
  refine ⟨_, rfl, _, "tuple", _, true, rfl, .tup ha, rfl, _, rfl, ?_⟩
  refine ⟨_, rfl, a, _, rfl, .inr (SqT.of ha), rfl, _, rfl, iteNS rfl ?_⟩
  refine ⟨_, rfl, a, _, 0, _, rfl, rfl, SqT.of ha, rfl, _, "str", _, true, rfl, .str _, rfl, _, rfl, ?_⟩
  refine ⟨_, rfl, a, _, 0, _, rfl, rfl, SqT.of ha, rfl, _, rfl, b, _, 0, _, rfl, rfl, SqT.of hb, rfl, rfl, _, rfl, iteNS rfl ?_⟩
  cases r2 with
  | inl x =>
    refine ⟨_, rfl, b, _, 1, _, rfl, rfl, SqT.of hb, rfl, _, "str", _, true, rfl, .str _, rfl, _, rfl, iteT ?_⟩
    refine ⟨_, rfl, a, _, 1, _, rfl, rfl, SqT.of ha, rfl, _, "str", _, true, rfl, .str _, rfl, true, rfl, ?_⟩
    refine ⟨_, rfl, a, _, 1, _, rfl, rfl, SqT.of ha, rfl, _, rfl, b, _, 1, _, rfl, rfl, SqT.of hb, rfl, rfl, ?_⟩
    rw [decide_eq_true rfl]
    exact q
  | inr n =>
    refine ⟨_, rfl, b, _, 1, _, rfl, rfl, SqT.of hb, rfl, _, "str", _, false, rfl, .int _, rfl, _, rfl, iteF ?_⟩
    refine ⟨_, rfl, a, _, 1, _, rfl, rfl, SqT.of ha, rfl, n, rfl, true, rfl, ?_⟩
    refine ⟨_, rfl, a, _, 1, _, rfl, rfl, SqT.of ha, rfl, _, rfl, b, _, 1, _, rfl, rfl, SqT.of hb, rfl, rfl, ?_⟩
    rw [decide_eq_true rfl]
    exact q
def sp_told : Sp := fun vs H Q _ => ∃ (f dl l : Addr) (en en' : V) (ds us : List V) (rs : List DRow) (re : DRow), vs = [.ref f, .ref l, en'] ∧ H f = some (.tup [.ref dl, en]) ∧ H dl = some (.lst ds) ∧ H l = some (.lst us) ∧
  Paired (RowRep H) rs ds ∧ Paired (RowRep H) rs us ∧ RowRep H re en ∧ RowRep H re en' ∧ rs.length ≤ 900 ∧ Q (.bl true) H
theorem ok_told {k : Nat} {f g1 : Addr} {fd gd1 : FuncData} (F : Fun K "_law_told" "_law_told" s_law_told f fd) (z_isinstance : mg "isinstance" = none) (z_tuple : mg "tuple" = none) (z_list : mg "list" = none) (z_len : mg "len" = none) (z_range : mg "range" = none)
    (G_law_row : FnB P w K mg base k "_law_row" g1 gd1 ["_law_found", "_law_due"] sp_row) : FnOk P w K mg base CX0 (k + 1) f fd ["_law_found", "_law_deeds", "_law_end_here"] sp_told := by
  refine F.ok sc_law_told (fun vs H Q E h => ?_) (fun cdv A outer s H vs Q E hr h => ?_)
  · obtain ⟨f, dl, l, en, en', ds, us, rs, re, rfl, _⟩ := h
    rfl
  obtain ⟨f, dl, l, en, en', ds, us, rs, re, rfl, hf, hd, hl, p1, p2, r1, r2, hz, q⟩ := h
  refine ⟨_, (pss_cons (ps_if (pw_or (pt_not (pt_val (pe_callB call_isi (by rfl) z_isinstance PyProof.Rows.boot_isinstance (pa_cons (pv 0) (pa_cons (pe_bltn (v := .ty _) (by rfl) z_tuple PyProof.Rows.boot_tuple (by rfl)) pa_nil))))) (pw_or (pt_cmpR op_ne (pe_callB call_len_seq (by rfl) z_len PySem.boot_len (pa_cons (pv 0) pa_nil)) pe_int (nomark _)) (pw_or1 (pt_not (pt_val (pe_callB call_isi (by rfl) z_isinstance PyProof.Rows.boot_isinstance (pa_cons (pe_ix (r := rIxT K) ix_tup (pv 0) pe_int (fun _ _ => rfl)) (pa_cons (pe_bltn (v := .ty _) (by rfl) z_list PyProof.Rows.boot_list (by rfl)) pa_nil)))))))).pt (pss_one (ps_ret pe_bl)) pss_nil)
    (pss_cons (ps_if (pw_or (pt_cmpR op_ne (pe_callB call_len_seq (by rfl) z_len PySem.boot_len (pa_cons (pe_ix (r := rIxT K) ix_tup (pv 0) pe_int (fun _ _ => rfl)) pa_nil)) (pe_callB call_len_seq (by rfl) z_len PySem.boot_len (pa_cons (pv 1) pa_nil)) (nomark _)) (pw_or1 (pt_not (pt_val (pe_call G_law_row.ok hr (by rfl) G_law_row.gl G_law_row.kp G_law_row.bd .nil pass0 (pa_cons (pe_ix (r := rIxT K) ix_tup (pv 0) pe_int (fun _ _ => rfl)) (pa_cons (pv 2) pa_nil))))))).pt (pss_one (ps_ret pe_bl)) pss_nil)
    (pss_cons (ps_for PassesOwn.never rfl (pi_range1 (by rfl) z_range (pa_cons (pe_callB call_len_seq (by rfl) z_len PySem.boot_len (pa_cons (pv 1) pa_nil)) pa_nil)) (pg_name (i := 3) sc_law_told.nd rfl (Or.inl rfl)) (pss_one (ps_if (pt_not (pt_val (pe_call G_law_row.ok hr (by rfl) G_law_row.gl G_law_row.kp G_law_row.bd .nil pass0 (pa_cons (pe_ix (r := rIxL K) ix_list (pe_ix (r := rIxT K) ix_tup (pv 0) pe_int (fun _ _ => rfl)) (pv 3) (fun _ _ => rfl)) (pa_cons (pe_ix (r := rIxL K) ix_list (pv 1) (pv 3) (fun _ _ => rfl)) pa_nil))))) (pss_one (ps_ret pe_bl)) pss_nil)))
    (pss_one (ps_ret pe_bl))))), ?_⟩
  have l1 : ds.length = rs.length := paired_len p1
  have l2 : us.length = rs.length := paired_len p2
  refine ⟨_, rfl, _, "tuple", _, true, rfl, .tup hf, rfl, _, rfl, ?_⟩
  refine ⟨_, rfl, f, _, rfl, .inr (SqT.of hf), rfl, _, rfl, iteNS rfl ?_⟩
  refine ⟨_, rfl, f, _, 0, _, rfl, rfl, SqT.of hf, rfl, _, "list", _, true, rfl, .lst hd, rfl, _, rfl, ?_⟩
  refine ⟨_, rfl, f, _, 0, _, rfl, rfl, SqT.of hf, rfl, dl, _, rfl, .inl (SqL.of hd), _, rfl, l, _, rfl, .inl (SqL.of hl), rfl, _, rfl, iteNS (by rw [l1, l2]) ?_⟩
  refine ⟨_, rfl, f, _, 1, _, rfl, rfl, SqT.of hf, rfl, _, rfl, re, _, _, rfl, r1, r2, _, rfl, ?_⟩
  refine ⟨_, rfl, l, _, rfl, .inl (SqL.of hl), _, rfl, by omega, by omega, ?_⟩
  refine for_range (n := ((us.length : Nat) : Int).toNat) (fun i σ' H' => ∃ s3 : Option V, σ' = [some (.ref f), some (.ref l), some en', s3] ∧ H' = H) ⟨none, rfl, rfl⟩ ?_ ?_
  · rintro i σ1 H1 hi ⟨s3, rfl, rfl⟩
    have hi1 : i < us.length := by simpa using hi
    have hi2 : i < ds.length := by omega
    obtain ⟨x, hx⟩ : ∃ x, ds[i]? = some x := ⟨_, List.getElem?_eq_getElem hi2⟩
    obtain ⟨y, hy⟩ : ∃ y, us[i]? = some y := ⟨_, List.getElem?_eq_getElem hi1⟩
    obtain ⟨ra, ea, fa⟩ := paired_get p1 hx
    obtain ⟨rb, eb, fb⟩ := paired_get p2 hy
    have er : rb = ra := Option.some.inj (eb.symm.trans ea)
    subst er
    have e0 : (0 : Int) + (i : Int) = ((i : Nat) : Int) := by omega
    refine ⟨_, rfl, f, _, 0, _, rfl, rfl, SqT.of hf, rfl, _, rfl, dl, _, _, x, rfl, rfl, SqL.of hd, by rw [e0]; exact atI_nat hx, _, rfl, _, rfl, l, _, _, y, rfl, rfl, SqL.of hl, by rw [e0]; exact atI_nat hy, rb, _, _, rfl, fa, fb, _, rfl, ?_⟩
    exact ⟨_, rfl, rfl⟩
  · rintro σ1 H1 ⟨s3, rfl, rfl⟩
    exact q
end
end K31
set_option Elab.async false
set_option linter.all false
set_option maxRecDepth 100000
set_option maxHeartbeats 4000000
namespace L2
open PySem
theorem cutInts {ns : List Int} {lo hi : Option Int} {i j : Nat} (h1 : HT.sIx ns.length 0 lo = i) (h2 : HT.sIx ns.length ns.length hi = j) (h : j ≤ ns.length) : ∃ ms : List Int, cutV (ns.map V.int) lo hi = ms.map V.int ∧ ms.length = j - i := by
  refine ⟨(ns.drop i).take (j - i), ?_, ?_⟩
  · unfold cutV
    rw [List.length_map, h1, h2, ← List.map_drop, ← List.map_take]
  · rw [List.length_take, List.length_drop]
    omega
theorem atI_in {α : Type} {xs : List α} {i : Int} (h0 : 0 ≤ i) (h1 : i < xs.length) : ∃ v, v ∈ xs ∧ atI xs i = some v := by
  have hl : i.toNat < xs.length := by omega
  have e : ((i.toNat : Nat) : Int) = i := by omega
  refine ⟨xs[i.toNat], List.getElem_mem hl, ?_⟩
  have := atI_nat (xs := xs) (j := i.toNat) (v := xs[i.toNat]) (List.getElem?_eq_getElem hl)
  rwa [e] at this
theorem atI_ints {ns : List Int} {i : Int} (h0 : 0 ≤ i) (h1 : i < ns.length) : ∃ n, atI (ns.map V.int) i = some (.int n) := by
  obtain ⟨v, hv, e⟩ := atI_in (xs := ns.map V.int) h0 (by rw [List.length_map]; exact h1)
  obtain ⟨n, _, rfl⟩ := List.mem_map.mp hv
  exact ⟨n, e⟩
theorem letter_at {L : Str} (h : L.length = 26) (z : Int) : ∃ c : Nat, atI L.cps.toList (z % 26) = some c := by
  have hl : ((L.cps.toList).length : Int) = 26 := by
    rw [Array.length_toList]
    exact_mod_cast h
  obtain ⟨v, _, e⟩ := atI_in (xs := L.cps.toList) (i := z % 26) (by omega) (by omega)
  exact ⟨v, e⟩
def nm (ws : List Str) (i : Int) : Str := ws.getD i.toNat ⟨#[]⟩
theorem nm_at {ws : List Str} {k : Nat} (hk : ws.length = k) (h0 : 0 < k) (z : Int) : atI (ws.map V.str) (z % (k : Int)) = some (.str (nm ws (z % (k : Int)))) := by
  have h1 := Int.emod_nonneg z (show (k : Int) ≠ 0 by omega)
  have h2 := Int.emod_lt_of_pos z (show (0 : Int) < (k : Int) by omega)
  have hl : (z % (k : Int)).toNat < ws.length := by omega
  have e : (((z % (k : Int)).toNat : Nat) : Int) = z % (k : Int) := by omega
  have := atI_nat (xs := ws.map V.str) (j := (z % (k : Int)).toNat) (v := .str ws[(z % (k : Int)).toNat]) (by simp [hl])
  rw [e] at this
  rw [this]
  congr 2
  unfold nm
  rw [List.getD_eq_getElem?_getD, List.getElem?_eq_getElem hl, Option.getD_some]
theorem sum_ones : ∀ {ys : List Str}, (∀ y ∈ ys, y.length = 1) → (ys.map (·.length)).sum = ys.length
  | [], _ => rfl
  | y :: ys, h => by
    rw [List.map_cons, List.sum_cons, List.length_cons, h y List.mem_cons_self, sum_ones fun z hz => h z (List.mem_cons_of_mem _ hz)]
    omega
end L2
namespace K31
open PySem PySem.Spec L2 PyProof.Rows
abbrev s_law_cell_at : Stmt := top 14
theorem sc_law_cell_at : FnScope ["_law_script", "_law_k"] ["_law_script", "_law_k"] (defScope s_law_cell_at) := ⟨rfl, rfl, rfl, by decide +kernel, rfl, by decide +kernel, by decide +kernel⟩
abbrev s_law_words : Stmt := top 16
theorem sc_law_words : FnScope ["_law_cell", "_law_letters", "_law_number", "_law_base", "_law_k", "_law_at", "_law_words_here", "_law_word"] ["_law_cell"] (defScope s_law_words) := ⟨rfl, rfl, rfl, by decide +kernel, rfl, by decide +kernel, by decide +kernel⟩
section
variable {P : Program} {w : World} {K : PySem.W.Frag} {mg : Str → Option Value} {base : Heap}
def sp_cell_at (K : PySem.W.Frag) : Sp := fun vs H Q _ => ∃ (a : Addr) (ns : List Int) (k : Int), vs = [.ref a, .int k] ∧ SqL K H a (ns.map V.int) ∧ 0 ≤ k ∧ Q (.int (ns.getD k.toNat 0)) H
theorem ok_cell_at {k : Nat} {f : Addr} {fd : FuncData} (F : Fun K "_law_cell_at" "_law_cell_at" s_law_cell_at f fd) (z_len : mg "len" = none) : FnOk P w K mg base CX0 (k + 1) f fd ["_law_script", "_law_k"] (sp_cell_at K) := by
  refine F.ok sc_law_cell_at (fun vs H Q E h => ?_) (fun cdv A outer s H vs Q E hr h => ?_)
  · obtain ⟨a, ns, k, rfl, _⟩ := h
    rfl
  obtain ⟨a, ns, k, rfl, hS, h0, q⟩ := h
  refine ⟨_, (pss_cons (ps_if (pt_cmpR op_lt (pv 1) (pe_callB call_len_seq (by rfl) z_len PySem.boot_len (pa_cons (pv 0) pa_nil)) (nomark _)) (pss_one (ps_ret (pe_ix (r := rIxL K) ix_list (pv 0) (pv 1) (fun _ _ => rfl)))) pss_nil)
    (pss_one (ps_ret pe_int))), ?_⟩
  refine ⟨_, rfl, _, rfl, a, _, rfl, .inl hS, _, _, rfl, rfl, _, rfl, ?_⟩
  refine ite2 (fun c => ?_) (fun c => ?_)
  · have c' : k < ((ns.map V.int).length : Int) := of_decide_eq_true c
    rw [List.length_map] at c'
    have hl : k.toNat < ns.length := by omega
    have e : ((k.toNat : Nat) : Int) = k := by omega
    have at_ := atI_nat (xs := ns.map V.int) (j := k.toNat) (v := .int ns[k.toNat]) (by simp [hl])
    rw [e] at at_
    refine ⟨_, rfl, _, rfl, a, _, k, _, rfl, rfl, hS, at_, ?_⟩
    have e2 : ns.getD k.toNat 0 = ns[k.toNat] := by rw [List.getD_eq_getElem?_getD, List.getElem?_eq_getElem hl, Option.getD_some]
    rw [← e2]
    exact q
  · have c' : ¬ k < ((ns.map V.int).length : Int) := fun z => c (decide_eq_true z)
    rw [List.length_map] at c'
    have e2 : ns.getD k.toNat 0 = 0 := by
      rw [List.getD_eq_getElem?_getD, List.getElem?_eq_none (by omega)]
      rfl
    rw [e2] at q
    exact q
def sp_words : Sp := fun vs H Q _ => ∃ (c : Int), vs = [.int c] ∧ ∀ (l : Addr) (H' : Hp) (ws : List Str), Same H H' → H' l = some (.lst (ws.map V.str)) → ws.length = 4 → Q (.ref l) H'
theorem ok_words {k : Nat} {f : Addr} {fd : FuncData} (F : Fun K "_law_words" "_law_words" s_law_words f fd) (z_range : mg "range" = none) (z_len : mg "len" = none) (z_int : mg "int" = none) : FnOk P w K mg base CX0 (k + 1) f fd ["_law_cell"] sp_words := by
  refine F.ok sc_law_words (fun vs H Q E h => ?_) (fun cdv A outer s H vs Q E hr h => ?_)
  · obtain ⟨c, rfl, _⟩ := h
    rfl
  obtain ⟨c, rfl, q⟩ := h
  refine ⟨_, (pss_cons (ps_set (i := 1) sc_law_words.nd rfl (Or.inr rfl) pe_str)
    (pss_cons (ps_set (i := 2) sc_law_words.nd rfl (Or.inl rfl) (pe_op op_add (pe_op op_mod (pv 0) pe_int) pe_int))
    (pss_cons (ps_set (i := 3) sc_law_words.nd rfl (Or.inr rfl) (pe_lst pa_nil : PE _ _ _))
    (pss_cons (ps_for PassesOwn.never rfl (pi_range1 (by rfl) z_range (pa_cons (pe_op op_add pe_int (pe_op op_mod (pv 2) pe_int)) pa_nil)) (pg_name (i := 4) sc_law_words.nd rfl (Or.inr rfl)) (pss_cons (ps_set (i := 2) sc_law_words.nd rfl (Or.inl rfl) (pe_op op_mod (pe_op op_mul (pv 2) pe_int) pe_int))
    (pss_one (ps_expr (pe_bm PySem.F.plainAttrs_list PySem.F.slot_list_append PySem.F.type_list_append mt_append (pv 3) (pa_cons (pe_op op_mod (pv 2) pe_int) pa_nil))))))
    (pss_cons (ps_set (i := 5) sc_law_words.nd rfl (Or.inr rfl) (pe_op op_mod (pe_op op_fdiv (pv 2) pe_int) (pe_callB call_len_seq (by rfl) z_len PySem.boot_len (pa_cons (pv 3) pa_nil))))
    (pss_cons (ps_set (i := 6) sc_law_words.nd rfl (Or.inl rfl) (pe_lst pa_nil : PE _ _ _))
    (pss_cons (ps_for PassesOwn.never rfl (pi_range1 (by rfl) z_range (pa_cons pe_int pa_nil)) (pg_name (i := 4) sc_law_words.nd rfl (Or.inr rfl)) (pss_cons (ps_set (i := 7) sc_law_words.nd rfl (Or.inl rfl) (pe_bm PySem.F.plainAttrs_str PySem.F.slot_str_join PySem.F.type_str_join mt_join pe_str (pa_cons (pe_compB ["_law_j", "_law_letters", "_law_base", "_law_k", "_law_at"] [none, some 1, some 3, some 4, some 5] rfl (pi_range1 (by rfl) z_range (pa_cons (pe_callB call_len_seq (by rfl) z_len PySem.boot_len (pa_cons (pv 3) pa_nil)) pa_nil)) (fun _ _ _ _ _ => (pg_name (i := 0) (show List.Nodup (["_law_j", "_law_letters", "_law_base", "_law_k", "_law_at"] : List Str) by decide +kernel) rfl (Or.inl rfl))) (fun _ _ _ _ _ => pts_nil) (fun _ _ _ _ _ => (pe_ix ix_str (pv 1) (pe_op op_mod (pe_op op_add (pe_ix (r := rIxL K) ix_list (pv 2) (pv 0) (fun _ _ => rfl)) (pe_op op_mul (pv 3) (pe_callTy call_int1 (by rfl) z_int PyProof.Rows.boot_int (pa_cons (pe_cmpR op_eq (pv 0) (pv 4) (nomark _)) pa_nil)))) pe_int) (fun _ _ => rfl))) rfl) pa_nil)))
    (pss_cons (ps_if (pt_cmpR (r := rIn K false) op_in_seq (pv 7) (pe_lstR [.str "let", .str "in", .str "if", .str "then", .str "else", .str "say", .str "ask", .str "stop", .str "where", .str "quiet", .str "number"] (by rfl) : PE _ _ _) rfl) (pss_one (ps_set (i := 7) sc_law_words.nd rfl (Or.inl rfl) (pe_op op_add_str (pv 7) pe_str))) pss_nil)
    (pss_one (ps_expr (pe_bm PySem.F.plainAttrs_list PySem.F.slot_list_append PySem.F.type_list_append mt_append (pv 6) (pa_cons (pv 7) pa_nil)))))))
    (pss_one (ps_ret (pv 6)))))))))), ?_⟩
  generalize hL : Str.ofString "abcdefghijklmnopqrstuvwxyz" = L
  have hLlen : L.length = 26 := by rw [← hL]; decide +kernel
  refine ⟨_, rfl, _, _, rfl, rfl, (show (0 : Int) < 2147483646 by decide), _, _, rfl, rfl, ?_⟩
  refine ⟨(by show 0 ≤ sizeLine; decide), fun lb hlb => ?_⟩
  dsimp only
  generalize c % 2147483646 + 1 = N
  have n0 := Int.emod_nonneg N (show (7 : Int) ≠ 0 by decide)
  have n1 := Int.emod_lt_of_pos N (show (0 : Int) < 7 by decide)
  refine ⟨_, rfl, _, _, rfl, rfl, (show (0 : Int) < 7 by decide), _, _, rfl, rfl, 1 + N % 7, rfl, by omega, by omega, ?_⟩
  refine for_range (n := (1 + N % 7).toNat) (fun i σ' H' => ∃ (bs : List Int) (M : Int) (s5 : Option V), σ' = [some (.int c), some (.str L), some (.int M), some (.ref lb), s5, none, none, none] ∧ Same H H' ∧ H' lb = some (.lst (bs.map V.int)) ∧ bs.length = i) ⟨[], N, none, rfl, same_upd hlb, upd_same, rfl⟩ ?_ ?_
  · rintro i σ1 H1 hi ⟨bs, M, s5, rfl, g1, e1, l1⟩
    refine ⟨_, rfl, _, _, rfl, rfl, .inr ⟨by decide, by decide⟩, _, _, rfl, rfl, (show (0 : Int) < 2147483647 by decide), ?_⟩
    refine ⟨_, rfl, .inl ⟨rfl, _, SqL.of e1⟩, _, rfl, _, _, rfl, rfl, (show (0 : Int) < 26 by decide), lb, _, _, rfl, rfl, e1, small1000 (by rw [List.length_map]; omega), ?_⟩
    refine ⟨bs ++ [M * 48271 % 2147483647 % 26], _, _, rfl, same_set g1 hlb, ?_, by simp [l1]⟩
    rw [upd_same, List.map_append]
    rfl
  · rintro σ1 H1 ⟨bs, M, s5, rfl, g1, e1, l1⟩
    have lb1 : (bs.map V.int).length = bs.length := List.length_map _
    have hbp : (0 : Int) < ((bs.map V.int).length : Int) := by omega
    refine ⟨_, rfl, _, _, rfl, rfl, ⟨(show (0 : Int) < 26 by decide), (show (26 : Int) < 1073741824 by decide)⟩, _, rfl, lb, _, rfl, .inl (SqL.of e1), _, _, rfl, rfl, hbp, ?_⟩
    dsimp only
    generalize M / 26 % ((bs.map V.int).length : Int) = at_
    refine ⟨(by show 0 ≤ sizeLine; decide), fun lw hlw => ?_⟩
    have hlwH : H lw = none := g1.free hlw
    refine ⟨4, rfl, by decide, by decide, ?_⟩
    refine for_range (n := (4 : Int).toNat) (fun i σ' H' => ∃ (ws : List Str) (s5 s8 : Option V), σ' = [some (.int c), some (.str L), some (.int M), some (.ref lb), s5, some (.int at_), some (.ref lw), s8] ∧ Same H H' ∧ H' lb = some (.lst (bs.map V.int)) ∧ H' lw = some (.lst (ws.map V.str)) ∧ ws.length = i) ⟨[], _, _, rfl, g1.trans (same_upd hlw), same_upd hlw _ _ e1, upd_same, rfl⟩ ?_ ?_
    · rintro i σ2 H2 hi ⟨ws, s5, s8, rfl, g2, e2, ew, l2⟩
      refine ⟨rfl, _, rfl, lb, _, rfl, .inl (SqL.of e2), _, rfl, by omega, by omega, fun acc hacc => ?_⟩
      refine comp_rangeR (n := (((bs.map V.int).length : Nat) : Int).toNat) (fun j H' => Same H2 H' ∧ ∃ ys : List Str, H' acc = some (.lst (ys.map V.str)) ∧ ys.length = j ∧ ∀ y ∈ ys, y.length = 1) ⟨same_upd hacc, [], upd_same, rfl, by simp⟩ ?_ ?_
      · rintro j H3 hj ⟨g3, ys, ey, ly, hy⟩
        have hj1 : j < bs.length := by
          have : j < (bs.map V.int).length := by simpa using hj
          omega
        obtain ⟨bn, hbn⟩ := atI_ints (ns := bs) (i := (0 : Int) + (j : Int)) (by omega) (by omega)
        refine ⟨.skip (.keep (.keep (.keep (.keep .nil)))), ?_⟩
        refine ⟨_, rfl, _, rfl, _, rfl, lb, _, _, _, rfl, rfl, SqL.of (g3 _ _ e2), hbn, _, rfl, _, rfl, _, rfl, rfl, ?_⟩
        refine .inr ⟨_, rfl, ?_⟩
        refine ⟨_, _, rfl, rfl, .inl ⟨by omega, by omega⟩, _, _, rfl, rfl, _, _, rfl, rfl, (show (0 : Int) < 26 by decide), ?_⟩
        obtain ⟨cc, ec⟩ := letter_at hLlen (bn + (0 + (i : Int)) * (if decide (V.int (0 + (j : Int)) = V.int at_) = true then 1 else 0))
        refine ⟨L, _, _, rfl, rfl, line1000 (by rw [hLlen]; decide), ec, _, ey, small1000 (by rw [List.length_map]; omega), same_set g3 hacc, ys ++ [⟨#[cc]⟩], ?_, by simp [ly], ?_⟩
        · rw [upd_same, List.map_append]
          rfl
        · intro y hy'
          rcases List.mem_append.mp hy' with z | z
          · exact hy y z
          · rw [List.mem_singleton.mp z]
            rfl
      · rintro H3 ⟨g3, ys, ey, ly, hy⟩
        have ly' : ys.length = bs.length := by
          rw [ly]
          simp
        have hs := sum_ones hy
        refine ⟨_, acc, ys, rfl, rfl, ey, by decide +kernel, by omega, ?_⟩
        have lj : (Txt.join (Str.ofString "") ys).length = ys.length := PySem.W.KT.join_ones ys hy
        generalize Txt.join (Str.ofString "") ys = x at lj ⊢
        refine ⟨_, rfl, (by show 11 ≤ sizeLine; decide), fun p hp => ⟨p, _, rfl, .inl (SqL.of upd_same), rfl, rfl, _, rfl, ?_⟩⟩
        have g4 := g3.trans (same_upd (o := .lst [.str "let", .str "in", .str "if", .str "then", .str "else", .str "say", .str "ask", .str "stop", .str "where", .str "quiet", .str "number"]) hp)
        generalize upd H3 p (.lst [.str "let", .str "in", .str "if", .str "then", .str "else", .str "say", .str "ask", .str "stop", .str "where", .str "quiet", .str "number"]) = H4 at g4 ⊢
        refine ite2 (fun _ => ?_) (fun _ => ?_)
        · refine ⟨_, rfl, _, _, rfl, rfl, line1000 ?_, ?_⟩
          · show x.length + 1 ≤ 1000
            omega
          refine ⟨_, rfl, .inl ⟨rfl, _, SqL.of (g4 _ _ ew)⟩, _, rfl, lw, _, _, rfl, rfl, g4 _ _ ew, small1000 (by rw [List.length_map]; omega), ?_⟩
          refine ⟨ws ++ [x ++ Str.ofString "s"], _, _, rfl, same_set (g2.trans g4) hlwH, ?_, ?_, by simp [l2]⟩
          · rw [upd_ne (ne_of_none e1 hlw)]
            exact g4 _ _ e2
          · rw [upd_same, List.map_append]
            rfl
        · refine ⟨_, rfl, .inl ⟨rfl, _, SqL.of (g4 _ _ ew)⟩, _, rfl, lw, _, _, rfl, rfl, g4 _ _ ew, small1000 (by rw [List.length_map]; omega), ?_⟩
          refine ⟨ws ++ [x], _, _, rfl, same_set (g2.trans g4) hlwH, ?_, ?_, by simp [l2]⟩
          · rw [upd_ne (ne_of_none e1 hlw)]
            exact g4 _ _ e2
          · rw [upd_same, List.map_append]
            rfl
    · rintro σ2 H2 ⟨ws, s5, s8, rfl, g2, e2, ew, l2⟩
      exact ⟨_, rfl, q lw H2 ws g2 ew l2⟩
end
end K31
set_option Elab.async false
set_option linter.all false
set_option maxRecDepth 100000
set_option maxHeartbeats 4000000
namespace L2
open PySem PySem.Spec PyProof.Rows
structure Sd (p : Prop) : Prop where
  un : p
section
variable {X : Cx} {st : Stmt} {rest : List Stmt} {t u : TS} {e a b : Expr} {es : List Expr} {te ta tb : TE} {tA : TA} {pos : Pos}
theorem pss_consS (h1 : Sd (PS X st t)) (h2 : Sd (PSs X rest u)) : Sd (PSs X (st :: rest) (tSeq t u)) := ⟨pss_cons h1.un h2.un⟩
theorem pss_oneS (h1 : Sd (PS X st t)) : Sd (PSs X [st] t) := ⟨pss_one h1.un⟩
theorem ps_ifS {c : Expr} {x y : List Stmt} {tc : TT} (hc : Sd (PT X c tc)) (ha : Sd (PSs X x t)) (hb : Sd (PSs X y u)) : Sd (PS X (.If c x y pos) (tIfS tc t u)) := ⟨ps_if hc.un ha.un hb.un⟩
theorem ps_retS (he : Sd (PE X e te)) : Sd (PS X (.Return (some e) pos) (tRet te)) := ⟨ps_ret he.un⟩
theorem ps_setS {i : Nat} {x : Str} {pos' : Pos} (hN : X.N.Nodup) (hi : X.N[i]? = some x) (hx : Loc X.env.scope x) (he : Sd (PE X e te)) (hs : swapsWith e (some (.Name x pos')) pos.line X.env = pure false := by rfl) (hf : X.fn x = true ∨ X.env.scope.names.lookup x = some .local := by first | exact .inl rfl | exact .inr rfl | assumption) :
    Sd (PS X (.Assign [.Name x pos'] e pos) (tAsg te (gName i))) := ⟨ps_set hN hi hx he.un hs hf⟩
theorem pe_tupS {k : Nat} (h : Sd (PA X es tA)) : Sd (PE X (.Tuple es k pos) (tTup tA)) := ⟨pe_tup h.un⟩
theorem pe_lstS (h : Sd (PA X es tA)) : Sd (PE X (.List es pos) (tLst tA)) := ⟨pe_lst h.un⟩
theorem pa_consS (ha : Sd (PE X e te)) (hr : Sd (PA X es tA)) (hs : starEach (e :: es) X.env = (false, eval e X.env) :: starEach es X.env := by rfl) : Sd (PA X (e :: es) (tCons te tA)) := ⟨pa_cons ha.un hr.un hs⟩
theorem pe_ixS {r : R2} (hr : IxR X r) (ha : Sd (PE X a ta)) (hb : Sd (PE X b tb)) (hs : PlainIx b) : Sd (PE X (.Subscript a b pos) (tOp r ta tb)) := ⟨pe_ix hr ha.un hb.un hs⟩
end
def NoGap : Tr → Prop
  | .gap _ _ => False
  | .say a => NoGap a | .bin _ a b => NoGap a ∧ NoGap b | .ite a b c => NoGap a ∧ NoGap b ∧ NoGap c | .lett _ a b => NoGap a ∧ NoGap b
  | _ => True
def GdT (t : Tr) : Prop := NoGap t ∧ TrB t
def PR (H : Hp) (t : Tr) (v : V) : Prop := GdT t ∧ ∃ (p : Addr) (u : V) (d : Int), v = .ref p ∧ H p = some (.tup [u, .int d]) ∧ Rep H t u
theorem PR.mono {H H' : Hp} (k : Tk H H') {t : Tr} {v : V} : PR H t v → PR H' t v
  | ⟨g, p, u, d, e, h, r⟩ => ⟨g, p, u, d, e, k _ _ h, r.mono k⟩
def szT (ts : List Tr) : Nat := (ts.map Tr.size).sum
theorem szT_app (a b : List Tr) : szT (a ++ b) = szT a + szT b := by simp [szT]
theorem szT_cons (a : Tr) (b : List Tr) : szT (a :: b) = a.size + szT b := by simp [szT]
theorem szT_nil : szT [] = 0 := rfl
theorem szT_len : ∀ ts : List Tr, ts.length ≤ szT ts
  | [] => Nat.le_refl _
  | t :: ts => by
    rw [szT_cons, List.length_cons]
    have := szT_len ts
    have := size_pos' t
    omega
theorem nm4 {ws : List Str} (hw : ws.length = 4) (z : Int) : atI (ws.map V.str) (z % 4) = some (.str (nm ws (z % 4))) := nm_at hw (by decide) z
theorem pickNum (z : Int) : ∃ n, InB n ∧ atI [V.int 0, V.int 1, V.int (10 ^ (30 : Int).toNat - 1), V.int 2] (z % 4) = some (.int n) := by
  obtain ⟨v, hv, e⟩ := atI_in (xs := [V.int 0, V.int 1, V.int (10 ^ (30 : Int).toNat - 1), V.int 2]) (i := z % 4) (by omega) (by show z % 4 < 4; omega)
  simp only [List.mem_cons, List.not_mem_nil, or_false] at hv
  rcases hv with rfl | rfl | rfl | rfl
  · exact ⟨_, ⟨by decide, by decide⟩, e⟩
  · exact ⟨_, ⟨by decide, by decide⟩, e⟩
  · exact ⟨_, ⟨by decide, by decide⟩, e⟩
  · exact ⟨_, ⟨by decide, by decide⟩, e⟩
def bw : Bin → Int
  | .add => 6 | .sub => 7 | .mul => 8 | .thn => 9
def Ways (way : Int) (n : Nat) : Prop := (way = 5 ∧ n = 1) ∨ (∃ o : Bin, way = bw o ∧ n = 2) ∨ (way = 10 ∧ n = 2) ∨ (way = 11 ∧ n = 3)
def needV : List V := [.int 0, .int 0, .int 0, .int 0, .int 0, .int 1, .int 2, .int 2, .int 2, .int 2, .int 2, .int 3]
theorem pickNeed (z : Int) : ∃ n : Nat, atI needV (z % 12) = some (.int n) ∧ (n = 0 ∨ Ways (z % 12) n) := by
  have h : z % 12 = 0 ∨ z % 12 = 1 ∨ z % 12 = 2 ∨ z % 12 = 3 ∨ z % 12 = 4 ∨ z % 12 = 5 ∨ z % 12 = 6 ∨ z % 12 = 7 ∨ z % 12 = 8 ∨ z % 12 = 9 ∨ z % 12 = 10 ∨ z % 12 = 11 := by omega
  rcases h with h | h | h | h | h | h | h | h | h | h | h | h <;> rw [h]
  · exact ⟨0, rfl, .inl rfl⟩
  · exact ⟨0, rfl, .inl rfl⟩
  · exact ⟨0, rfl, .inl rfl⟩
  · exact ⟨0, rfl, .inl rfl⟩
  · exact ⟨0, rfl, .inl rfl⟩
  · exact ⟨1, rfl, .inr (.inl ⟨rfl, rfl⟩)⟩
  · exact ⟨2, rfl, .inr (.inr (.inl ⟨.add, rfl, rfl⟩))⟩
  · exact ⟨2, rfl, .inr (.inr (.inl ⟨.sub, rfl, rfl⟩))⟩
  · exact ⟨2, rfl, .inr (.inr (.inl ⟨.mul, rfl, rfl⟩))⟩
  · exact ⟨2, rfl, .inr (.inr (.inl ⟨.thn, rfl, rfl⟩))⟩
  · exact ⟨2, rfl, .inr (.inr (.inr (.inl ⟨rfl, rfl⟩)))⟩
  · exact ⟨3, rfl, .inr (.inr (.inr (.inr ⟨rfl, rfl⟩)))⟩
def sgnV : List V := [.str "say", .str "add", .str "sub", .str "mul", .str "then", .str "let", .str "if"]
def headV (way : Int) (x sg : Str) : List V := if way = 10 then [.str "let", .str x] else [.str sg]
theorem node {ts : List Tr} {n : Nat} {way : Int} (hl : ts.length = n) (hn : Ways way n) (hg : ∀ t ∈ ts, GdT t) (x : Str) : ∃ (t : Tr) (sg : Str), atI sgnV (way - 5) = some (.str sg) ∧ GdT t ∧ t.size ≤ szT ts + 1 ∧
    ∀ (us : List V) (H : Hp) (p : Addr), Paired (Rep H) ts us → H p = some (.tup (headV way x sg ++ us)) → Rep H t (.ref p) := by
  rcases hn with ⟨rfl, rfl⟩ | ⟨o, rfl, rfl⟩ | ⟨rfl, rfl⟩ | ⟨rfl, rfl⟩
  · match ts, hl with
    | [a], _ =>
      refine ⟨.say a, "say", rfl, ⟨(hg a (by simp)).1, (hg a (by simp)).2⟩, by simp [Tr.size, szT], fun us H p pr e => ?_⟩
      cases pr with
      | cons r q =>
        cases q
        exact ⟨p, _, rfl, e, r⟩
  · match ts, hl with
    | [a, b], _ =>
      have ga := hg a (by simp)
      have gb := hg b (by simp)
      have e1 : atI sgnV (bw o - 5) = some (.str o.s) := by cases o <;> rfl
      refine ⟨.bin o a b, o.s, e1, ⟨⟨ga.1, gb.1⟩, ga.2, gb.2⟩, by simp [Tr.size, szT], fun us H p pr e => ?_⟩
      cases pr with
      | cons r q =>
        cases q with
        | cons r2 q =>
          cases q
          have eh : headV (bw o) x o.s = [.str o.s] := by cases o <;> rfl
          rw [eh] at e
          exact ⟨p, _, _, rfl, e, r, r2⟩
  · match ts, hl with
    | [a, b], _ =>
      have ga := hg a (by simp)
      have gb := hg b (by simp)
      refine ⟨.lett x a b, "let", rfl, ⟨⟨ga.1, gb.1⟩, ga.2, gb.2⟩, by simp [Tr.size, szT], fun us H p pr e => ?_⟩
      cases pr with
      | cons r q =>
        cases q with
        | cons r2 q =>
          cases q
          exact ⟨p, _, _, rfl, e, r, r2⟩
  · match ts, hl with
    | [a, b, c], _ =>
      have ga := hg a (by simp)
      have gb := hg b (by simp)
      have gc := hg c (by simp)
      refine ⟨.ite a b c, "if", rfl, ⟨⟨ga.1, gb.1, gc.1⟩, ga.2, gb.2, gc.2⟩, by simp [Tr.size, szT]; omega, fun us H p pr e => ?_⟩
      cases pr with
      | cons r q =>
        cases q with
        | cons r2 q =>
          cases q with
          | cons r3 q =>
            cases q
            exact ⟨p, _, _, _, rfl, e, r, r2, r3⟩
theorem cut_tail {us : List V} {n : Nat} (h0 : 0 < n) (h : n ≤ us.length) : cutV us (some (-(n : Int))) none = us.drop (us.length - n) := by
  have e : HT.sIx us.length us.length none = us.length := rfl
  unfold cutV
  rw [sIx_neg h0 h, e]
  exact List.take_of_length_le (by rw [List.length_drop]; omega)
theorem cut_head {us : List V} {n : Nat} (h0 : 0 < n) (h : n ≤ us.length) : cutV us none (some (-(n : Int))) = us.take (us.length - n) := by
  have e : HT.sIx us.length 0 none = 0 := rfl
  unfold cutV
  rw [sIx_neg h0 h, e]
  rfl
theorem paired_split {α : Type} {F : α → V → Prop} : ∀ {as : List α} {us : List V} (k : Nat), Paired F as us → Paired F (as.take k) (us.take k) ∧ Paired F (as.drop k) (us.drop k)
  | _, _, _, .nil => by simp; exact .nil
  | _, _, 0, .cons r q => ⟨.nil, .cons r q⟩
  | _, _, k + 1, .cons r q => ⟨.cons r (paired_split k q).1, (paired_split k q).2⟩
theorem pr_all {H : Hp} : ∀ {ts : List Tr} {us : List V}, Paired (PR H) ts us → ∀ t ∈ ts, GdT t
  | _, _, .nil, _, h => by cases h
  | _, _, .cons r q, t, h => by
    rcases List.mem_cons.mp h with rfl | z
    · exact r.1
    · exact pr_all q t z
end L2
namespace K31
open PySem PySem.Spec L2 PyProof.Rows
abbrev s_law_leaf : Stmt := top 17
theorem sc_law_leaf : FnScope ["_law_way", "_law_more", "_law_words_here"] ["_law_way", "_law_more", "_law_words_here"] (defScope s_law_leaf) := ⟨rfl, rfl, rfl, by decide +kernel, rfl, by decide +kernel, by decide +kernel⟩
section
variable {P : Program} {w : World} {K : PySem.W.Frag} {mg : Str → Option Value} {base : Heap}
def sp_leaf : Sp := fun vs H Q _ => ∃ (wy m : Int) (l : Addr) (ws : List Str), vs = [.int wy, .int m, .ref l] ∧ H l = some (.lst (ws.map V.str)) ∧ ws.length = 4 ∧ ∀ (t : Tr) (v : V) (H' : Hp), Same H H' → Rep H' t v → t.size = 1 → GdT t → Q v H'
theorem ok_leaf {k : Nat} {f : Addr} {fd : FuncData} (F : Fun K "_law_leaf" "_law_leaf" s_law_leaf f fd) : FnOk P w K mg base CX0 (k + 1) f fd ["_law_way", "_law_more", "_law_words_here"] sp_leaf := by
  refine F.ok sc_law_leaf (fun vs H Q E h => ?_) (fun cdv A outer s H vs Q E hr h => ?_)
  · obtain ⟨wy, m, l, ws, rfl, _⟩ := h
    rfl
  obtain ⟨wy, m, l, ws, rfl, hl, hw, q⟩ := h
  refine ⟨_, ((pss_consS ⟨ps_if (pt_cmpR op_eq (pv 0) pe_int (nomark _)) (pss_one (ps_ret (pe_tup (pa_cons pe_str (pa_cons (pe_op op_mod (pv 1) (pe_op op_pow pe_int pe_int)) pa_nil)) : PE _ _ _))) pss_nil⟩
    (pss_consS (ps_ifS ⟨pt_cmpR op_eq (pv 0) pe_int (nomark _)⟩ (pss_oneS (ps_retS (pe_tupS (pa_consS ⟨pe_str⟩ (pa_consS (pe_ixS (r := rIxL K) ix_list (pe_lstS (pa_consS ⟨pe_int⟩ (pa_consS ⟨pe_int⟩ (pa_consS ⟨pe_op op_sub (pe_op op_pow pe_int pe_int) pe_int⟩ (pa_consS ⟨pe_int⟩ ⟨pa_nil⟩))))) ⟨pe_op op_mod (pv 1) pe_int⟩ (fun _ _ => rfl)) ⟨pa_nil⟩))))) ⟨pss_nil⟩)
    (pss_consS ⟨ps_if (pt_cmpR op_eq (pv 0) pe_int (nomark _)) (pss_one (ps_ret (pe_tup (pa_cons pe_str (pa_cons (pe_ix (r := rIxL K) ix_list (pv 2) (pe_op op_mod (pv 1) pe_int) (fun _ _ => rfl)) pa_nil)) : PE _ _ _))) pss_nil⟩
    (pss_consS ⟨ps_if (pw_and (pt_cmpR op_eq (pv 0) pe_int (nomark _)) (pw_and1 (pt_cmpR op_eq (pe_op op_mod (pe_op op_fdiv (pv 1) pe_int) pe_int) pe_int (nomark _)))).pt (pss_one (ps_ret (pe_tup (pa_cons pe_str (pa_cons (pe_ix (r := rIxL K) ix_list (pv 2) (pe_op op_mod (pv 1) pe_int) (fun _ _ => rfl)) pa_nil)) : PE _ _ _))) pss_nil⟩
    ⟨pss_one (ps_ret (pe_tup (pa_cons pe_str (pa_cons (pe_ix (r := rIxL K) ix_list (pv 2) (pe_op op_mod (pv 1) pe_int) (fun _ _ => rfl)) pa_nil)) : PE _ _ _))⟩))))).un, ?_⟩
  have d2 : 2 ≤ sizeLine := by decide
  have z4 : (0 : Int) < 4 := by decide
  refine ⟨_, rfl, rfl, _, rfl, ?_⟩
  refine ite2 (fun _ => ?_) (fun _ => ⟨_, rfl, rfl, _, rfl, ite2 (fun _ => ?_) (fun _ => ⟨_, rfl, rfl, _, rfl, ite2 (fun _ => ?_) (fun _ => ⟨_, rfl, rfl, _, rfl, ite2 (fun _ => ?_) (fun _ => ?_)⟩)⟩)⟩)
  · refine ⟨_, rfl, _, _, rfl, rfl, ⟨by decide, by decide, by decide⟩, _, _, rfl, rfl, (show (0 : Int) < 10 ^ 30 by decide), d2, fun p hp => ?_⟩
    exact q (.num (m % 10 ^ 30)) _ _ (same_upd hp) ⟨p, rfl, upd_same⟩ rfl ⟨trivial, InB.mod _⟩
  · obtain ⟨n, hn, en⟩ := pickNum m
    refine ⟨_, _, rfl, rfl, ⟨by decide, by decide, by decide⟩, _, _, rfl, rfl, (by show 4 ≤ sizeLine; decide), fun p1 hp1 => ⟨_, rfl, _, _, rfl, rfl, z4, p1, _, _, _, rfl, rfl, SqL.of upd_same, en, d2, fun p hp => ?_⟩⟩
    exact q (.num n) _ _ ((same_upd hp1).trans (same_upd hp)) ⟨p, rfl, upd_same⟩ rfl ⟨trivial, hn⟩
  · refine ⟨_, rfl, _, rfl, _, _, rfl, rfl, z4, l, _, _, _, rfl, rfl, SqL.of hl, nm4 hw _, d2, fun p hp => ?_⟩
    exact q (.ask (nm ws (m % 4))) _ _ (same_upd hp) ⟨p, rfl, upd_same⟩ rfl ⟨trivial, trivial⟩
  · refine ⟨_, rfl, _, _, rfl, rfl, ⟨(show (0 : Int) < 4 by decide), (show (4 : Int) < 1073741824 by decide)⟩, _, _, rfl, rfl, z4, rfl, _, rfl, ite2 (fun _ => ?_) (fun _ => ?_)⟩
    · refine ⟨_, rfl, _, rfl, _, _, rfl, rfl, z4, l, _, _, _, rfl, rfl, SqL.of hl, nm4 hw _, d2, fun p hp => ?_⟩
      exact q (.stop (nm ws (m % 4))) _ _ (same_upd hp) ⟨p, rfl, upd_same⟩ rfl ⟨trivial, trivial⟩
    · refine ⟨_, rfl, _, rfl, _, _, rfl, rfl, z4, l, _, _, _, rfl, rfl, SqL.of hl, nm4 hw _, d2, fun p hp => ?_⟩
      exact q (.name (nm ws (m % 4))) _ _ (same_upd hp) ⟨p, rfl, upd_same⟩ rfl ⟨trivial, trivial⟩
  · refine iteF ?_
    refine ⟨_, rfl, _, rfl, _, _, rfl, rfl, z4, l, _, _, _, rfl, rfl, SqL.of hl, nm4 hw _, d2, fun p hp => ?_⟩
    exact q (.name (nm ws (m % 4))) _ _ (same_upd hp) ⟨p, rfl, upd_same⟩ rfl ⟨trivial, trivial⟩
end
end K31
set_option Elab.async false
set_option linter.all false
set_option maxRecDepth 100000
set_option maxHeartbeats 1000000
namespace K31
open PySem PySem.Spec L2 PyProof.Rows
abbrev s_law_put : Stmt := top 18
theorem sc_law_put : FnScope ["_law_row_here", "_law_cell", "_law_words_here", "_law_way", "_law_more", "_law_need", "_law_pieces", "_law_head", "_law_tree"] ["_law_row_here", "_law_cell", "_law_words_here"] (defScope s_law_put) := ⟨rfl, rfl, rfl, by decide +kernel, rfl, by decide +kernel, by decide +kernel⟩
section
variable {P : Program} {w : World} {K : PySem.W.Frag} {mg : Str → Option Value} {base : Heap}
def sp_put : Sp := fun vs H Q _ => ∃ (r : Addr) (c : Int) (l : Addr) (ws : List Str) (ts : List Tr) (us : List V), vs = [.ref r, .int c, .ref l] ∧ H l = some (.lst (ws.map V.str)) ∧ ws.length = 4 ∧ H r = some (.lst us) ∧ Paired (PR H) ts us ∧ szT ts ≤ 300 ∧
  ∀ (r' : Addr) (ts' : List Tr) (us' : List V) (H' : Hp), Same H H' → H' r' = some (.lst us') → Paired (PR H') ts' us' → szT ts' ≤ szT ts + 1 → 0 < ts'.length → Q (.ref r') H'
theorem ok_put {k : Nat} {f g1 : Addr} {fd gd1 : FuncData} (F : Fun K "_law_put" "_law_put" s_law_put f fd) (z_len : mg "len" = none) (z_max : mg "max" = none) (z_tuple : mg "tuple" = none)
    (G_law_leaf : FnB P w K mg base k "_law_leaf" g1 gd1 ["_law_way", "_law_more", "_law_words_here"] sp_leaf) : FnOk P w K mg base CX0 (k + 1) f fd ["_law_row_here", "_law_cell", "_law_words_here"] sp_put := by
  refine F.ok sc_law_put (fun vs H Q E h => ?_) (fun cdv A outer s H vs Q E hr h => ?_)
  · obtain ⟨r, c, l, ws, ts, us, rfl, _⟩ := h
    rfl
  obtain ⟨r, c, l, ws, ts, us, rfl, hl, hw, hrr, pr, hsz, q⟩ := h
  refine ⟨_, ((pss_consS ⟨ps_set (i := 3) sc_law_put.nd rfl (Or.inl rfl) (pe_op op_mod (pv 1) pe_int)⟩
    (pss_consS ⟨ps_set (i := 4) sc_law_put.nd rfl (Or.inl rfl) (pe_op op_fdiv (pv 1) pe_int)⟩
    (pss_consS (ps_setS (i := 5) sc_law_put.nd rfl (Or.inl rfl) (pe_ixS (r := rIxL K) ix_list ⟨pe_lstR [.int 0, .int 0, .int 0, .int 0, .int 0, .int 1, .int 2, .int 2, .int 2, .int 2, .int 2, .int 3] (by rfl)⟩ ⟨pv 3⟩ (fun _ _ => rfl)))
    (pss_consS ⟨ps_if (pw_or (pt_cmpR op_eq (pv 5) pe_int (nomark _)) (pw_or (pt_cmpR op_lt (pe_callB call_len_seq (by rfl) z_len PySem.boot_len (pa_cons (pv 0) pa_nil)) (pv 5) (nomark _)) (pw_or1 (pt_cmpR op_gt (pe_callB (call_maxL rfl) (by rfl) z_max PyProof.Rows.boot_max (pa_cons (pe_compB ["_law_item"] [none] rfl (pi_list (pe_slice (r := rSlL K) sl_list (pv 0) (po_some (pe_un un_neg (pv 5))) po_none)) (fun _ _ _ _ _ => (pg_name (i := 0) (show List.Nodup (["_law_item"] : List Str) by decide +kernel) rfl (Or.inl rfl))) (fun _ _ _ _ _ => pts_nil) (fun _ _ _ _ _ => (pe_ix (r := rIxT K) ix_tup (pv 0) pe_int (fun _ _ => rfl))) rfl) pa_nil)) pe_int (nomark _))))).pt (pss_one (ps_ret (pe_op op_cat (pv 0) (pe_lst (pa_cons (pe_tup (pa_cons (pe_call G_law_leaf.ok hr (by rfl) G_law_leaf.gl G_law_leaf.kp G_law_leaf.bd .nil pass0 (pa_cons (pe_op op_mod (pv 3) pe_int) (pa_cons (pv 4) (pa_cons (pv 2) pa_nil)))) (pa_cons pe_int pa_nil)) : PE _ _ _) pa_nil) : PE _ _ _)))) pss_nil⟩
    (pss_consS ⟨ps_set (i := 6) sc_law_put.nd rfl (Or.inl rfl) (pe_slice (r := rSlL K) sl_list (pv 0) (po_some (pe_un un_neg (pv 5))) po_none)⟩
    (pss_consS (ps_setS (i := 7) sc_law_put.nd rfl (Or.inl rfl) (pe_tupS (pa_consS (pe_ixS (r := rIxL K) ix_list ⟨pe_lstR [.str "say", .str "add", .str "sub", .str "mul", .str "then", .str "let", .str "if"] (by rfl)⟩ ⟨pe_op op_sub (pv 3) pe_int⟩ (fun _ _ => rfl)) ⟨pa_nil⟩)))
    (pss_consS ⟨ps_if (pt_cmpR op_eq (pv 3) pe_int (nomark _)) (pss_one (ps_set (i := 7) sc_law_put.nd rfl (Or.inl rfl) (pe_tup (pa_cons pe_str (pa_cons (pe_ix (r := rIxL K) ix_list (pv 2) (pe_op op_mod (pv 4) pe_int) (fun _ _ => rfl)) pa_nil)) : PE _ _ _))) pss_nil⟩
    (pss_consS ⟨ps_set (i := 8) sc_law_put.nd rfl (Or.inl rfl) (pe_op op_catV (pv 7) (pe_callTy call_tuple_of (by rfl) z_tuple PyProof.Rows.boot_tuple (pa_cons (pe_compB ["_law_item"] [none] rfl (pi_list (pv 6)) (fun _ _ _ _ _ => (pg_name (i := 0) (show List.Nodup (["_law_item"] : List Str) by decide +kernel) rfl (Or.inl rfl))) (fun _ _ _ _ _ => pts_nil) (fun _ _ _ _ _ => (pe_ix (r := rIxT K) ix_tup (pv 0) pe_int (fun _ _ => rfl))) rfl) pa_nil)))⟩
    ⟨pss_one (ps_ret (pe_op op_cat (pe_slice (r := rSlL K) sl_list (pv 0) po_none (po_some (pe_un un_neg (pv 5)))) (pe_lst (pa_cons (pe_tup (pa_cons (pv 8) (pa_cons (pe_op op_add pe_int (pe_callB (call_maxL rfl) (by rfl) z_max PyProof.Rows.boot_max (pa_cons (pe_compB ["_law_item"] [none] rfl (pi_list (pv 6)) (fun _ _ _ _ _ => (pg_name (i := 0) (show List.Nodup (["_law_item"] : List Str) by decide +kernel) rfl (Or.inl rfl))) (fun _ _ _ _ _ => pts_nil) (fun _ _ _ _ _ => (pe_ix (r := rIxT K) ix_tup (pv 0) pe_int (fun _ _ => rfl))) rfl) pa_nil))) pa_nil)) : PE _ _ _) pa_nil) : PE _ _ _)))⟩))))))))).un, ?_⟩
  have d1 : 1 ≤ sizeLine := by decide
  have d2 : 2 ≤ sizeLine := by decide
  have z4 : (0 : Int) < 4 := by decide
  have hlt := szT_len ts
  have hlu : us.length = ts.length := paired_len pr
  obtain ⟨n, en, hn⟩ := pickNeed c
  refine ⟨_, rfl, _, _, rfl, rfl, (show (0 : Int) < 12 by decide), ?_⟩
  refine ⟨_, rfl, _, _, rfl, rfl, ⟨(show (0 : Int) < 12 by decide), (show (12 : Int) < 1073741824 by decide)⟩, ?_⟩
  refine ⟨(by show 12 ≤ sizeLine; decide), fun pn hpn => ⟨_, rfl, pn, needV, _, _, rfl, rfl, SqL.of upd_same, en, ?_⟩⟩
  dsimp only
  generalize c % 12 = way at en hn ⊢
  generalize c / 12 = more
  have g1 : Same H (upd H pn (.lst needV)) := same_upd hpn
  have hl1 := g1 _ _ hl
  have hr1 := g1 _ _ hrr
  have pr1 : Paired (PR (upd H pn (.lst needV))) ts us := Paired.mapP pr fun _ _ z => z.mono g1.tk
  show tIfS _ _ _ _ _ (upd H pn (.lst needV))
  generalize upd H pn (.lst needV) = H1 at g1 hl1 hr1 pr1 ⊢
  have leafy : ∀ (H2 : Hp) (pl pt : Addr) (t : Tr) (v : V) (H3 : Hp), Same H1 H2 → Same H2 H3 → Rep H3 t v → t.size = 1 → GdT t → H3 pt = none → upd H3 pt (.tup [v, .int 1]) pl = none → ∀ px, upd (upd H3 pt (.tup [v, .int 1])) pl (.lst [.ref pt]) px = none →
      Q (.ref px) (upd (upd (upd H3 pt (.tup [v, .int 1])) pl (.lst [.ref pt])) px (.lst (us ++ [.ref pt]))) := by
    intro H2 pl pt t v H3 g2 g3 rt s1 gd hpt hpl px hpx
    have g4 := same_upd (o := .tup [v, .int 1]) hpt
    have g5 := same_upd (o := .lst [.ref pt]) hpl
    have g6 := same_upd (o := .lst (us ++ [.ref pt])) hpx
    have G := g2.trans (g3.trans (g4.trans (g5.trans g6)))
    refine q px (ts ++ [t]) _ _ (g1.trans G) upd_same (paired_append (Paired.mapP pr1 fun _ _ z => z.mono G.tk) (.cons ⟨gd, pt, v, 1, rfl, g6 _ _ (g5 _ _ upd_same), rt.mono (g4.trans (g5.trans g6)).tk⟩ .nil)) ?_ (by simp)
    rw [szT_app, szT_cons, szT_nil]
    omega
  refine ⟨_, rfl, rfl, _, rfl, ite2 (fun _ => ?_) (fun c0 => ?_)⟩
  · refine iteT ?_
    refine ⟨_, rfl, _, rfl, _, _, rfl, rfl, (show (0 : Int) < 5 by decide), _, rfl, _, rfl, _, more, l, ws, rfl, hl1, hw, fun t v H3 g3 rt s1 gd => ⟨d2, fun pt hpt => ⟨d1, fun pl hpl => ⟨r, pl, us, [.ref pt], rfl, rfl, ?_, upd_same, ?_, fun px hpx => ?_⟩⟩⟩⟩
    · exact same_upd hpl _ _ (same_upd hpt _ _ (g3 _ _ (hr1)))
    · exact line1000 (by simp; omega)
    · exact leafy _ pl pt t v H3 (.refl _) g3 rt s1 gd hpt hpl px hpx
  have c0' : n ≠ 0 := fun z => c0 (decide_eq_true (by rw [z]; rfl))
  have hn' : Ways way n := hn.resolve_left c0'
  have hn0 : 0 < n := Nat.pos_of_ne_zero c0'
  have hn3 : n ≤ 3 := by
    rcases hn' with ⟨_, e⟩ | ⟨_, _, e⟩ | ⟨_, e⟩ | ⟨_, e⟩ <;> omega
  refine ⟨_, rfl, r, _, rfl, .inl (SqL.of hr1), _, rfl, _, _, rfl, rfl, _, rfl, ite2 (fun _ => ?_) (fun c1 => ?_)⟩
  · refine iteT ?_
    refine ⟨_, rfl, _, rfl, _, _, rfl, rfl, (show (0 : Int) < 5 by decide), _, rfl, _, rfl, _, more, l, ws, rfl, hl1, hw, fun t v H3 g3 rt s1 gd => ⟨d2, fun pt hpt => ⟨d1, fun pl hpl => ⟨r, pl, us, [.ref pt], rfl, rfl, ?_, upd_same, ?_, fun px hpx => ?_⟩⟩⟩⟩
    · exact same_upd hpl _ _ (same_upd hpt _ _ (g3 _ _ (hr1)))
    · exact line1000 (by simp; omega)
    · exact leafy _ pl pt t v H3 (.refl _) g3 rt s1 gd hpt hpl px hpx
  have hnu : n ≤ us.length := by
    have : ¬ ((us.length : Int) < (n : Int)) := fun z => c1 (decide_eq_true z)
    omega
  obtain ⟨sp1, sp2⟩ := paired_split (us.length - n) pr1
  have ct := cut_tail (us := us) hn0 hnu
  have ch := cut_head (us := us) hn0 hnu
  obtain ⟨tl, etl⟩ : ∃ tl, us.drop (us.length - n) = tl := ⟨_, rfl⟩
  obtain ⟨hd, ehd⟩ : ∃ hd, us.take (us.length - n) = hd := ⟨_, rfl⟩
  obtain ⟨t2, et2⟩ : ∃ t2, ts.drop (us.length - n) = t2 := ⟨_, rfl⟩
  obtain ⟨t1, et1⟩ : ∃ t1, ts.take (us.length - n) = t1 := ⟨_, rfl⟩
  have ets : szT ts = szT t1 + szT t2 := by rw [← szT_app, ← et1, ← et2, List.take_append_drop]
  have ltl : tl.length = n := by rw [← etl, List.length_drop]; omega
  have lhd : hd.length ≤ us.length := by rw [← ehd, List.length_take]; omega
  rw [etl, et2] at sp2
  rw [ehd, et1] at sp1
  rw [etl] at ct
  rw [ehd] at ch
  have lt2 : t2.length = n := by rw [← paired_len sp2]; exact ltl
  refine ⟨_, rfl, _, rfl, _, rfl, _, rfl, r, _, rfl, SqL.of hr1, fun pc hpc => ?_⟩
  rw [ct]
  refine ⟨pc, rfl, ⟨_, SqL.of upd_same⟩, fun acc hacc => ?_⟩
  have g2 := same_upd (o := .lst tl) hpc
  obtain ⟨G0, hG0⟩ : ∃ G0 : Hp, upd H1 pc (.lst tl) = G0 := ⟨_, rfl⟩
  have epc : (upd H1 pc (.lst tl)) pc = some (.lst tl) := upd_same
  have sp2c : Paired (PR (upd H1 pc (.lst tl))) t2 tl := Paired.mapP sp2 fun _ _ z => z.mono g2.tk
  rw [hG0] at g2 epc sp2c hacc ⊢
  refine comp_listR (xs := tl) (fun i H' => Same G0 H' ∧ ∃ ns : List Int, H' acc = some (.lst (ns.map V.int)) ∧ ns.length = i) ⟨same_upd hacc, [], upd_same, rfl⟩ (fun i H' _ h => SqL.of (h.1 _ _ epc)) ?_ ?_
  · rintro i x Hx hx ⟨gx, ns, ex, lx⟩
    obtain ⟨ti, _, _, pi, ui, di, rfl, hpi, _⟩ := paired_get sp2c hx
    have hi : i < tl.length := (List.getElem?_eq_some_iff.mp hx).1
    refine ⟨.skip .nil, _, rfl, pi, _, 1, _, rfl, rfl, SqT.of (gx _ _ hpi), rfl, ns.map V.int, ex, small1000 (by rw [List.length_map]; omega), same_set gx hacc, ns ++ [di], ?_, by simp [lx]⟩
    rw [upd_same, List.map_append]
    rfl
  rintro H2 ⟨g3, ns, ea, lns⟩
  refine ⟨acc, ns, rfl, ea, by omega, fun M => ⟨_, _, rfl, rfl, _, rfl, ite2 (fun _ => ?_) (fun _ => ?_)⟩⟩
  · refine ⟨_, rfl, _, rfl, _, _, rfl, rfl, (show (0 : Int) < 5 by decide), _, rfl, _, rfl, _, more, l, ws, rfl, g3 _ _ (g2 _ _ hl1), hw, fun t v H3 gL rt s1 gd => ⟨d2, fun pt hpt => ⟨d1, fun pl hpl => ⟨r, pl, us, [.ref pt], rfl, rfl, ?_, upd_same, ?_, fun px hpx => ?_⟩⟩⟩⟩
    · exact same_upd hpl _ _ (same_upd hpt _ _ (gL _ _ (g3 _ _ (g2 _ _ hr1))))
    · exact line1000 (by simp; omega)
    · exact leafy _ pl pt t v H3 (g2.trans g3) gL rt s1 gd hpt hpl px hpx
  have hl2 := g3 _ _ (g2 _ _ hl1)
  have hr2 := g3 _ _ (g2 _ _ hr1)
  have sp1' : Paired (PR H2) t1 hd := Paired.mapP sp1 fun _ _ z => z.mono (g2.trans g3).tk
  have sp2' : Paired (PR H2) t2 tl := Paired.mapP sp2 fun _ _ z => z.mono (g2.trans g3).tk
  have gA := g1.trans (g2.trans g3)
  refine ⟨_, rfl, _, rfl, _, rfl, _, rfl, r, _, rfl, SqL.of hr2, fun pp hpp => ?_⟩
  rw [ct]
  have g4 := same_upd (o := .lst tl) hpp
  obtain ⟨t, sg, esg, gdt, szt, rept⟩ := node lt2 hn' (pr_all sp2) (nm ws (more % 4))
  refine ⟨(by show 7 ≤ sizeLine; decide), fun pl hpl => ⟨_, rfl, _, _, rfl, rfl, pl, sgnV, _, _, rfl, rfl, SqL.of upd_same, esg, d1, fun ph hph => ?_⟩⟩
  have g5 := same_upd (o := .lst [.str "say", .str "add", .str "sub", .str "mul", .str "then", .str "let", .str "if"]) hpl
  have g6 := same_upd (o := .tup [.str sg]) hph
  have G6 := g4.trans (g5.trans g6)
  have epp := g6 _ _ (g5 _ _ (upd_same (H := H2) (a := pp) (o := .lst tl)))
  have eph : (upd (upd (upd H2 pp (.lst tl)) pl (.lst [.str "say", .str "add", .str "sub", .str "mul", .str "then", .str "let", .str "if"])) ph (.tup [.str sg])) ph = some (.tup [.str sg]) := upd_same
  refine ⟨_, rfl, rfl, _, rfl, ?_⟩
  refine ite2 (fun c10 => ?_) (fun c10 => ?_)
  · have e10 : way = 10 := V.int.inj (of_decide_eq_true c10)
    have ehv : headV way (nm ws (more % 4)) sg = [.str "let", .str (nm ws (more % 4))] := by unfold headV; rw [if_pos e10]
    rw [ehv] at rept
    refine ⟨_, rfl, _, rfl, _, _, rfl, rfl, z4, l, _, _, _, rfl, rfl, SqL.of (G6 _ _ hl2), nm4 hw _, d2, fun pk hpk => ?_⟩
    have g7 := same_upd (o := .tup [.str "let", .str (nm ws (more % 4))]) hpk
    have ehh : _ = some (HO.tup [.str "let", .str (nm ws (more % 4))]) := upd_same (H := upd (upd (upd H2 pp (.lst tl)) pl (.lst [.str "say", .str "add", .str "sub", .str "mul", .str "then", .str "let", .str "if"])) ph (.tup [.str sg])) (a := pk) (o := .tup [.str "let", .str (nm ws (more % 4))])
    have epp3 := g7 _ _ epp
    have hr3 := g7 _ _ (G6 _ _ hr2)
    have gB := gA.trans (G6.trans g7)
    have sp1'' : Paired (PR _) t1 hd := Paired.mapP sp1' fun _ _ z => z.mono (G6.trans g7).tk
    have sp2'' : Paired (PR _) t2 tl := Paired.mapP sp2' fun _ _ z => z.mono (G6.trans g7).tk
    generalize upd (upd (upd (upd H2 pp (.lst tl)) pl (.lst [.str "say", .str "add", .str "sub", .str "mul", .str "then", .str "let", .str "if"])) ph (.tup [.str sg])) pk (.tup [.str "let", .str (nm ws (more % 4))]) = H3 at ehh epp3 hr3 gB sp1'' sp2'' ⊢
    refine ⟨_, rfl, _, rfl, pp, rfl, ⟨_, SqL.of epp3⟩, fun ac hac => ?_⟩
    refine comp_listR (xs := tl) (fun i H' => Same H3 H' ∧ ∃ us0 : List V, H' ac = some (.lst us0) ∧ Paired (Rep H') (t2.take i) us0) ⟨same_upd hac, [], upd_same, by rw [List.take_zero]; exact .nil⟩ (fun i H' _ h => SqL.of (h.1 _ _ epp3)) ?_ ?_
    · rintro i x Hx hx ⟨gx, us0, ex, px⟩
      obtain ⟨ti, eti, _, pi, ui, di, rfl, hpi, ri⟩ := paired_get sp2'' hx
      have hi : i < tl.length := (List.getElem?_eq_some_iff.mp hx).1
      have lu0 : us0.length ≤ i := by rw [paired_len px, List.length_take]; omega
      have gx' : Same H3 (upd Hx ac (.lst (us0 ++ [ui]))) := same_set gx hac
      have tk : Tk Hx (upd Hx ac (.lst (us0 ++ [ui]))) := Tk.lst ex
      refine ⟨.skip .nil, _, rfl, pi, _, 0, _, rfl, rfl, SqT.of (gx _ _ hpi), rfl, us0, ex, small1000 (by omega), gx', us0 ++ [ui], upd_same, ?_⟩
      rw [take_next eti]
      exact paired_append (Paired.mapP px fun _ _ z => z.mono tk) (.cons (ri.mono gx'.tk) .nil)
    rintro H4 ⟨g8, us0, eac, pac⟩
    rw [List.take_of_length_le (by omega)] at pac
    have lu0 : us0.length = n := by rw [paired_len pac]; exact lt2
    refine ⟨ac, us0, rfl, .inl ⟨SqL.of eac, fun pu hpu => ?_⟩⟩
    have g9 := same_upd (o := .tup us0) hpu
    refine ⟨pk, pu, _, _, rfl, rfl, g9 _ _ (g8 _ _ ehh), upd_same, line1000 (by simp; omega), fun px H5 g10 epx => ?_⟩
    have G5 := g8.trans (g9.trans g10)
    have rx : Rep H5 t (.ref px) := rept us0 H5 px (Paired.mapP pac fun _ _ z => z.mono (g9.trans g10).tk) epx
    have epp5 := G5 _ _ epp3
    have sp2e : Paired (PR H5) t2 tl := Paired.mapP sp2'' fun _ _ z => z.mono G5.tk
    refine ⟨_, rfl, _, rfl, _, rfl, _, rfl, r, _, rfl, SqL.of (G5 _ _ hr3), fun pq hpq => ?_⟩
    rw [ch]
    have g11 := same_upd (o := .lst hd) hpq
    have epq : (upd H5 pq (.lst hd)) pq = some (.lst hd) := upd_same
    have epp6 := g11 _ _ epp5
    have sp2f : Paired (PR (upd H5 pq (.lst hd))) t2 tl := Paired.mapP sp2e fun _ _ z => z.mono g11.tk
    generalize upd H5 pq (.lst hd) = H6 at g11 epq epp6 sp2f ⊢
    refine ⟨_, rfl, _, rfl, pp, rfl, ⟨_, SqL.of epp6⟩, fun ad had => ?_⟩
    refine comp_listR (xs := tl) (fun i H' => Same H6 H' ∧ ∃ ns : List Int, H' ad = some (.lst (ns.map V.int)) ∧ ns.length = i) ⟨same_upd had, [], upd_same, rfl⟩ (fun i H' _ h => SqL.of (h.1 _ _ epp6)) ?_ ?_
    · rintro i x Hx hx ⟨gx, ns, ex, lx⟩
      obtain ⟨ti, _, _, pi, ui, di, rfl, hpi, _⟩ := paired_get sp2f hx
      have hi : i < tl.length := (List.getElem?_eq_some_iff.mp hx).1
      refine ⟨.skip .nil, _, rfl, pi, _, 1, _, rfl, rfl, SqT.of (gx _ _ hpi), rfl, ns.map V.int, ex, small1000 (by rw [List.length_map]; omega), same_set gx had, ns ++ [di], ?_, by simp [lx]⟩
      rw [upd_same, List.map_append]
      rfl
    rintro H7 ⟨g12, ns2, ead, lns2⟩
    refine ⟨ad, ns2, rfl, ead, by omega, fun M2 => ⟨_, _, rfl, rfl, d2, fun pt hpt => ⟨d1, fun pz hpz => ⟨pq, pz, hd, [.ref pt], rfl, rfl, ?_, upd_same, line1000 (by simp; omega), fun pw hpw => ?_⟩⟩⟩⟩
    · exact same_upd hpz _ _ (same_upd hpt _ _ (g12 _ _ epq))
    have g13 := same_upd (o := .tup [.ref px, .int (1 + M2)]) hpt
    have g14 := same_upd (o := .lst [.ref pt]) hpz
    have g15 := same_upd (o := .lst (hd ++ [.ref pt])) hpw
    have G15 := g13.trans (g14.trans g15)
    have Gz := g11.trans (g12.trans G15)
    refine q pw (t1 ++ [t]) _ _ (gB.trans (G5.trans Gz)) upd_same (paired_append (Paired.mapP sp1'' fun _ _ z => z.mono (G5.trans Gz).tk) (.cons ⟨gdt, pt, .ref px, _, rfl, g15 _ _ (g14 _ _ upd_same), rx.mono Gz.tk⟩ .nil)) ?_ (by simp)
    rw [szT_app, szT_cons, szT_nil]
    omega
  · have e10 : way ≠ 10 := fun z => c10 (decide_eq_true (by rw [z]))
    have ehv : headV way (nm ws (more % 4)) sg = [.str sg] := by unfold headV; rw [if_neg e10]
    rw [ehv] at rept
    have ehh := eph
    have epp3 := epp
    have hr3 := G6 _ _ hr2
    have gB := gA.trans G6
    have sp1'' : Paired (PR _) t1 hd := Paired.mapP sp1' fun _ _ z => z.mono G6.tk
    have sp2'' : Paired (PR _) t2 tl := Paired.mapP sp2' fun _ _ z => z.mono G6.tk
    generalize upd (upd (upd H2 pp (.lst tl)) pl (.lst [.str "say", .str "add", .str "sub", .str "mul", .str "then", .str "let", .str "if"])) ph (.tup [.str sg]) = H3 at ehh epp3 hr3 gB sp1'' sp2'' ⊢
    refine ⟨_, rfl, _, rfl, pp, rfl, ⟨_, SqL.of epp3⟩, fun ac hac => ?_⟩
    refine comp_listR (xs := tl) (fun i H' => Same H3 H' ∧ ∃ us0 : List V, H' ac = some (.lst us0) ∧ Paired (Rep H') (t2.take i) us0) ⟨same_upd hac, [], upd_same, by rw [List.take_zero]; exact .nil⟩ (fun i H' _ h => SqL.of (h.1 _ _ epp3)) ?_ ?_
    · rintro i x Hx hx ⟨gx, us0, ex, px⟩
      obtain ⟨ti, eti, _, pi, ui, di, rfl, hpi, ri⟩ := paired_get sp2'' hx
      have hi : i < tl.length := (List.getElem?_eq_some_iff.mp hx).1
      have lu0 : us0.length ≤ i := by rw [paired_len px, List.length_take]; omega
      have gx' : Same H3 (upd Hx ac (.lst (us0 ++ [ui]))) := same_set gx hac
      have tk : Tk Hx (upd Hx ac (.lst (us0 ++ [ui]))) := Tk.lst ex
      refine ⟨.skip .nil, _, rfl, pi, _, 0, _, rfl, rfl, SqT.of (gx _ _ hpi), rfl, us0, ex, small1000 (by omega), gx', us0 ++ [ui], upd_same, ?_⟩
      rw [take_next eti]
      exact paired_append (Paired.mapP px fun _ _ z => z.mono tk) (.cons (ri.mono gx'.tk) .nil)
    rintro H4 ⟨g8, us0, eac, pac⟩
    rw [List.take_of_length_le (by omega)] at pac
    have lu0 : us0.length = n := by rw [paired_len pac]; exact lt2
    refine ⟨ac, us0, rfl, .inl ⟨SqL.of eac, fun pu hpu => ?_⟩⟩
    have g9 := same_upd (o := .tup us0) hpu
    refine ⟨ph, pu, _, _, rfl, rfl, g9 _ _ (g8 _ _ ehh), upd_same, line1000 (by simp; omega), fun px H5 g10 epx => ?_⟩
    have G5 := g8.trans (g9.trans g10)
    have rx : Rep H5 t (.ref px) := rept us0 H5 px (Paired.mapP pac fun _ _ z => z.mono (g9.trans g10).tk) epx
    have epp5 := G5 _ _ epp3
    have sp2e : Paired (PR H5) t2 tl := Paired.mapP sp2'' fun _ _ z => z.mono G5.tk
    refine ⟨_, rfl, _, rfl, _, rfl, _, rfl, r, _, rfl, SqL.of (G5 _ _ hr3), fun pq hpq => ?_⟩
    rw [ch]
    have g11 := same_upd (o := .lst hd) hpq
    have epq : (upd H5 pq (.lst hd)) pq = some (.lst hd) := upd_same
    have epp6 := g11 _ _ epp5
    have sp2f : Paired (PR (upd H5 pq (.lst hd))) t2 tl := Paired.mapP sp2e fun _ _ z => z.mono g11.tk
    generalize upd H5 pq (.lst hd) = H6 at g11 epq epp6 sp2f ⊢
    refine ⟨_, rfl, _, rfl, pp, rfl, ⟨_, SqL.of epp6⟩, fun ad had => ?_⟩
    refine comp_listR (xs := tl) (fun i H' => Same H6 H' ∧ ∃ ns : List Int, H' ad = some (.lst (ns.map V.int)) ∧ ns.length = i) ⟨same_upd had, [], upd_same, rfl⟩ (fun i H' _ h => SqL.of (h.1 _ _ epp6)) ?_ ?_
    · rintro i x Hx hx ⟨gx, ns, ex, lx⟩
      obtain ⟨ti, _, _, pi, ui, di, rfl, hpi, _⟩ := paired_get sp2f hx
      have hi : i < tl.length := (List.getElem?_eq_some_iff.mp hx).1
      refine ⟨.skip .nil, _, rfl, pi, _, 1, _, rfl, rfl, SqT.of (gx _ _ hpi), rfl, ns.map V.int, ex, small1000 (by rw [List.length_map]; omega), same_set gx had, ns ++ [di], ?_, by simp [lx]⟩
      rw [upd_same, List.map_append]
      rfl
    rintro H7 ⟨g12, ns2, ead, lns2⟩
    refine ⟨ad, ns2, rfl, ead, by omega, fun M2 => ⟨_, _, rfl, rfl, d2, fun pt hpt => ⟨d1, fun pz hpz => ⟨pq, pz, hd, [.ref pt], rfl, rfl, ?_, upd_same, line1000 (by simp; omega), fun pw hpw => ?_⟩⟩⟩⟩
    · exact same_upd hpz _ _ (same_upd hpt _ _ (g12 _ _ epq))
    have g13 := same_upd (o := .tup [.ref px, .int (1 + M2)]) hpt
    have g14 := same_upd (o := .lst [.ref pt]) hpz
    have g15 := same_upd (o := .lst (hd ++ [.ref pt])) hpw
    have G15 := g13.trans (g14.trans g15)
    have Gz := g11.trans (g12.trans G15)
    refine q pw (t1 ++ [t]) _ _ (gB.trans (G5.trans Gz)) upd_same (paired_append (Paired.mapP sp1'' fun _ _ z => z.mono (G5.trans Gz).tk) (.cons ⟨gdt, pt, .ref px, _, rfl, g15 _ _ (g14 _ _ upd_same), rx.mono Gz.tk⟩ .nil)) ?_ (by simp)
    rw [szT_app, szT_cons, szT_nil]
    omega
end
end K31
set_option Elab.async false
set_option linter.all false
set_option maxRecDepth 100000
set_option maxHeartbeats 2000000
namespace L2
open PySem
theorem take_two {α : Type} {as : List α} {i : Nat} {a b : α} (h : as[2 * i]? = some a) (h' : as[2 * i + 1]? = some b) : as.take (2 * (i + 1)) = as.take (2 * i) ++ [a, b] := by
  rw [show 2 * (i + 1) = 2 * i + 1 + 1 by omega, take_next h', take_next h, List.append_assoc]
  rfl
theorem atI_end {xs : List V} {v : V} {n : Nat} (h : xs.length = n + 1) (e : xs[n]? = some v) : atI xs (-1) = some v := by
  have e1 : xs = xs.take n ++ [v] := by
    rw [← take_next e, List.take_of_length_le (by omega)]
  rw [e1]
  exact atI_last _ _
end L2
namespace K31
open PySem PySem.Spec L2 PyProof.Rows
abbrev s_law_program : Stmt := top 19
theorem sc_law_program : FnScope ["_law_cells", "_law_words_here", "_law_row_here", "_law_cell", "_law_trees", "_law_joined"] ["_law_cells", "_law_words_here"] (defScope s_law_program) := ⟨rfl, rfl, rfl, by decide +kernel, rfl, by decide +kernel, by decide +kernel⟩
section
variable {P : Program} {w : World} {K : PySem.W.Frag} {mg : Str → Option Value} {base : Heap}
def sp_program (K : PySem.W.Frag) : Sp := fun vs H Q _ => ∃ (a l : Addr) (cs : List Int) (ws : List Str), vs = [.ref a, .ref l] ∧ SqL K H a (cs.map V.int) ∧ cs.length ≤ 60 ∧ H l = some (.lst (ws.map V.str)) ∧ ws.length = 4 ∧
  ∀ (t : Tr) (v : V) (H' : Hp), Same H H' → Rep H' t v → GdT t → t.size ≤ 121 → Q v H'
def Wt (H0 : Hp) (av lv : V) (m : Nat) (σ : L2.St) (H : Hp) : Prop := ∃ (a : Addr) (vs : List V) (ts : List Tr) (s2 s3 s5 : Option V), σ = [some av, some lv, s2, s3, some (.ref a), s5] ∧ Same H0 H ∧ H a = some (.lst vs) ∧ Paired (Rep H) ts vs ∧ (∀ t ∈ ts, GdT t) ∧ 0 < ts.length ∧ ts.length = m ∧ szT ts + ts.length ≤ 122
theorem ok_program {k : Nat} {f g1 : Addr} {fd gd1 : FuncData} (F : Fun K "_law_program" "_law_program" s_law_program f fd) (z_len : mg "len" = none) (z_range : mg "range" = none)
    (G_law_put : FnB P w K mg base k "_law_put" g1 gd1 ["_law_row_here", "_law_cell", "_law_words_here"] sp_put) : FnOk P w K mg base CX0 (k + 1) f fd ["_law_cells", "_law_words_here"] (sp_program K) := by
  refine F.ok sc_law_program (fun vs H Q E h => ?_) (fun cdv A outer s H vs Q E hr h => ?_)
  · obtain ⟨a, l, cs, ws, rfl, _⟩ := h
    rfl
  obtain ⟨a, l, cs, ws, rfl, hS, h60, hl, hw, q⟩ := h
  refine ⟨_, (pss_cons (ps_set (i := 2) sc_law_program.nd rfl (Or.inl rfl) (pe_lst (pa_cons (pe_tup (pa_cons (pe_tup (pa_cons pe_str (pa_cons pe_int pa_nil)) : PE _ _ _) (pa_cons pe_int pa_nil)) : PE _ _ _) pa_nil) : PE _ _ _))
    (pss_cons (ps_for PassesOwn.never rfl (pi_list (pv 0)) (pg_name (i := 3) sc_law_program.nd rfl (Or.inl rfl)) (pss_one (ps_set (i := 2) sc_law_program.nd rfl (Or.inl rfl) (pe_call G_law_put.ok hr (by rfl) G_law_put.gl G_law_put.kp G_law_put.bd .nil pass0 (pa_cons (pv 2) (pa_cons (pv 3) (pa_cons (pv 1) pa_nil)))))))
    (pss_cons (ps_set (i := 4) sc_law_program.nd rfl (Or.inr rfl) (pe_compB ["_law_item"] [none] rfl (pi_list (pv 2)) (fun _ _ _ _ _ => (pg_name (i := 0) (show List.Nodup (["_law_item"] : List Str) by decide +kernel) rfl (Or.inl rfl))) (fun _ _ _ _ _ => pts_nil) (fun _ _ _ _ _ => (pe_ix (r := rIxT K) ix_tup (pv 0) pe_int (fun _ _ => rfl))) rfl))
    (pss_cons (ps_while PassesOwn.never (pt_cmpR op_gt (pe_callB call_len_seq (by rfl) z_len PySem.boot_len (pa_cons (pv 4) pa_nil)) pe_int (nomark _)) (pss_cons (ps_compB (jj := 5) ["_law_k", "_law_trees"] [none, some 4] rfl (pi_range3 (by rfl) z_range (pa_cons pe_int (pa_cons (pe_op op_sub (pe_callB call_len_seq (by rfl) z_len PySem.boot_len (pa_cons (pv 4) pa_nil)) pe_int) (pa_cons pe_int pa_nil)))) (fun _ _ _ _ _ => (pg_name (i := 0) (show List.Nodup (["_law_k", "_law_trees"] : List Str) by decide +kernel) rfl (Or.inl rfl))) (fun _ _ _ _ _ => pts_nil) (fun _ _ _ _ _ => (pe_tup (pa_cons pe_str (pa_cons (pe_ix (r := rIxL K) ix_list (pv 1) (pv 0) (fun _ _ => rfl)) (pa_cons (pe_ix (r := rIxL K) ix_list (pv 1) (pe_op op_add (pv 0) pe_int) (fun _ _ => rfl)) pa_nil))) : PE _ _ _)) rfl sc_law_program.nd rfl (Or.inl rfl) (by first | exact .inl rfl | exact .inr rfl))
    (pss_cons (ps_if (pt_cmpR op_eq (pe_op op_mod (pe_callB call_len_seq (by rfl) z_len PySem.boot_len (pa_cons (pv 4) pa_nil)) pe_int) pe_int (nomark _)) (pss_one (ps_expr (pe_bm PySem.F.plainAttrs_list PySem.F.slot_list_append PySem.F.type_list_append mt_append (pv 5) (pa_cons (pe_ix (r := rIxL K) ix_list (pv 4) (pe_un un_neg pe_int) (fun _ _ => rfl)) pa_nil)))) pss_nil)
    (pss_one (ps_set (i := 4) sc_law_program.nd rfl (Or.inr rfl) (pv 5))))))
    (pss_one (ps_ret (pe_ix (r := rIxL K) ix_list (pv 4) pe_int (fun _ _ => rfl)))))))), ?_⟩
  have d1 : 1 ≤ sizeLine := by decide
  have d2 : 2 ≤ sizeLine := by decide
  refine ⟨d2, fun p0 hp0 => ⟨d2, fun p1 hp1 => ⟨d1, fun p2 hp2 => ?_⟩⟩⟩
  have g0 := same_upd (o := .tup [.str "num", .int 0]) hp0
  have g1 := same_upd (o := .tup [.ref p0, .int 1]) hp1
  have g2 := same_upd (o := .lst [.ref p1]) hp2
  have gA := g0.trans (g1.trans g2)
  refine ⟨_, rfl, a, rfl, ⟨_, gA.seq hS⟩, ?_⟩
  refine for_list (xs := cs.map V.int) (fun i σ' H' => ∃ (r : Addr) (us : List V) (ts : List Tr) (s3 : Option V), σ' = [some (.ref a), some (.ref l), some (.ref r), s3, none, none] ∧ Same H H' ∧ H' r = some (.lst us) ∧ Paired (PR H') ts us ∧ 0 < ts.length ∧ szT ts ≤ i + 1) ?_ ?_ ?_ ?_
  · exact ⟨p2, [.ref p1], [.num 0], none, rfl, gA, upd_same, .cons ⟨⟨trivial, ⟨by decide, by decide⟩⟩, p1, .ref p0, 1, rfl, g2 _ _ upd_same, p0, rfl, g2 _ _ (g1 _ _ upd_same)⟩ .nil, by decide, by decide⟩
  · rintro i σ1 H1 _ ⟨r, us, ts, s3, rfl, g3, _⟩
    exact g3.seq hS
  · rintro i x σ1 H1 hx ⟨r, us, ts, s3, rfl, g3, er, pr, l0, sz⟩
    rw [List.getElem?_map] at hx
    obtain ⟨c, hc, rfl⟩ := Option.map_eq_some_iff.mp hx
    have hi : i < cs.length := (List.getElem?_eq_some_iff.mp hc).1
    refine ⟨_, rfl, _, rfl, _, rfl, r, c, l, ws, ts, us, rfl, g3 _ _ hl, hw, er, pr, by omega, fun r' ts' us' H2 g4 er' pr' sz' l' => ?_⟩
    exact ⟨r', us', ts', _, rfl, g3.trans g4, er', pr', l', by omega⟩
  rintro σ1 H1 ⟨r, us, ts, s3, rfl, g3, er, pr, l0, sz⟩
  rw [List.length_map] at sz
  have hlt := szT_len ts
  have hlu : us.length = ts.length := paired_len pr
  refine ⟨_, rfl, r, rfl, ⟨_, SqL.of er⟩, fun ac hac => ?_⟩
  refine comp_listR (xs := us) (fun i H' => Same H1 H' ∧ ∃ us0 : List V, H' ac = some (.lst us0) ∧ Paired (Rep H') (ts.take i) us0) ⟨same_upd hac, [], upd_same, by rw [List.take_zero]; exact .nil⟩ (fun i H' _ h => SqL.of (h.1 _ _ er)) ?_ ?_
  · rintro i x Hx hx ⟨gx, us0, ex, px⟩
    obtain ⟨ti, eti, _, pi, ui, di, rfl, hpi, ri⟩ := paired_get pr hx
    have hi : i < us.length := (List.getElem?_eq_some_iff.mp hx).1
    have lu0 : us0.length ≤ i := by rw [paired_len px, List.length_take]; omega
    have gx' : Same H1 (upd Hx ac (.lst (us0 ++ [ui]))) := same_set gx hac
    have tk : Tk Hx (upd Hx ac (.lst (us0 ++ [ui]))) := Tk.lst ex
    refine ⟨.skip .nil, _, rfl, pi, _, 0, _, rfl, rfl, SqT.of (gx _ _ hpi), rfl, us0, ex, small1000 (by omega), gx', us0 ++ [ui], upd_same, ?_⟩
    rw [take_next eti]
    exact paired_append (Paired.mapP px fun _ _ z => z.mono tk) (.cons (ri.mono gx'.tk) .nil)
  rintro H4 ⟨g8, us0, eac, pac⟩
  rw [List.take_of_length_le (by omega)] at pac
  refine ⟨Wt H (.ref a) (.ref l), ⟨_, ac, us0, ts, _, _, _, rfl, g3.trans g8, eac, pac, pr_all pr, l0, rfl, by omega⟩, ?_⟩
  rintro m σ2 H5 ⟨ta, vs, tt, s2, s3, s5, rfl, g9, eta, pt, gd, lp, lm, bd⟩
  have lv : vs.length = tt.length := paired_len pt
  have hlt2 := szT_len tt
  refine ⟨_, rfl, ta, _, rfl, .inl (SqL.of eta), _, _, rfl, rfl, _, rfl, ite2 (fun c1 => ?_) (fun c1 => ?_)⟩
  · have c1' : (1 : Int) < (vs.length : Int) := of_decide_eq_true c1
    refine ⟨fun σ' H' => ∃ m', m' < m ∧ Wt H (.ref a) (.ref l) m' σ' H', fun σ' H' z => z, ?_⟩
    refine ⟨_, rfl, ta, _, rfl, .inl (SqL.of eta), _, _, rfl, rfl, (vs.length : Int) - 1, rfl, by omega, by omega, fun ad had => ?_⟩
    refine comp_range3R (n := (((vs.length : Int) - 1 + 1) / 2).toNat) (fun i H' => Same H5 H' ∧ ∃ (js : List Tr) (zs : List V), H' ad = some (.lst zs) ∧ Paired (Rep H') js zs ∧ (∀ t ∈ js, GdT t) ∧ js.length = i ∧ szT js = szT (tt.take (2 * i)) + i) ⟨same_upd had, [], [], upd_same, .nil, by simp, rfl, by simp [szT]⟩ ?_ ?_
    · rintro i Hx hi ⟨gx, js, zs, ez, pz, gj, lj, sj⟩
      have hi2 : 2 * i + 1 < vs.length := by omega
      obtain ⟨x, hx⟩ : ∃ x, vs[2 * i]? = some x := ⟨_, List.getElem?_eq_getElem (by omega)⟩
      obtain ⟨y, hy⟩ : ∃ y, vs[2 * i + 1]? = some y := ⟨_, List.getElem?_eq_getElem hi2⟩
      obtain ⟨tx, ex, rx⟩ := paired_get pt hx
      obtain ⟨ty, ey, ry⟩ := paired_get pt hy
      have i0 : (i : Int) * 2 = ((2 * i : Nat) : Int) := by omega
      have i1 : (i : Int) * 2 + 1 = ((2 * i + 1 : Nat) : Int) := by omega
      have lz : zs.length = i := by rw [paired_len pz, lj]
      refine ⟨.skip (.keep .nil), _, rfl, _, rfl, ta, _, _, x, rfl, rfl, SqL.of (gx _ _ eta), by rw [i0]; exact atI_nat hx, _, rfl, _, rfl, _, _, rfl, rfl, ta, _, _, y, rfl, rfl, SqL.of (gx _ _ eta), by rw [i1]; exact atI_nat hy, (by show 3 ≤ sizeLine; decide), fun p hp => ?_⟩
      have g10 := same_upd (o := .tup [.str "then", x, y]) hp
      have ez' := g10 _ _ ez
      have g11 : Same H5 (upd (upd Hx p (.tup [.str "then", x, y])) ad (.lst (zs ++ [.ref p]))) := same_set (gx.trans g10) had
      have tk : Tk (upd Hx p (.tup [.str "then", x, y])) (upd (upd Hx p (.tup [.str "then", x, y])) ad (.lst (zs ++ [.ref p]))) := Tk.lst ez'
      have gx1 : GdT tx := gd tx (List.mem_of_getElem? ex)
      have gy1 : GdT ty := gd ty (List.mem_of_getElem? ey)
      refine ⟨zs, ez', small1000 (by omega), g11, js ++ [.bin .thn tx ty], zs ++ [.ref p], upd_same, ?_, ?_, by simp [lj], ?_⟩
      · exact paired_append (Paired.mapP pz fun _ _ z => z.mono (g10.tk.trans tk)) (.cons ⟨p, x, y, rfl, tk _ _ upd_same, rx.mono g11.tk, ry.mono g11.tk⟩ .nil)
      · intro t ht
        rcases List.mem_append.mp ht with z | z
        · exact gj t z
        · rw [List.mem_singleton.mp z]
          exact ⟨⟨gx1.1, gy1.1⟩, gx1.2, gy1.2⟩
      · rw [szT_app, take_two ex ey, szT_app, szT_cons, szT_cons, szT_cons, szT_nil, sj]
        show _ + (tx.size + ty.size + 1 + 0) = _
        omega
    rintro H6 ⟨g10, js, zs, ez, pz, gj, lj, sj⟩
    have hn : (((vs.length : Int) - 1 + 1) / 2).toNat = vs.length / 2 := by omega
    rw [hn] at lj sj
    have lz : zs.length = vs.length / 2 := by rw [paired_len pz, lj]
    have hada : H ad = none := g9.free had
    refine ⟨_, rfl, ta, _, rfl, .inl (SqL.of (g10 _ _ eta)), _, _, rfl, rfl, (show (0 : Int) < 2 by decide), rfl, _, rfl, ite2 (fun c2 => ?_) (fun c2 => ?_)⟩
    · have c2' : (vs.length : Int) % 2 = 1 := V.int.inj (of_decide_eq_true c2)
      obtain ⟨x, hx⟩ : ∃ x, vs[vs.length - 1]? = some x := ⟨_, List.getElem?_eq_getElem (by omega)⟩
      obtain ⟨tx, ex, rx⟩ := paired_get pt hx
      have g11 : Same H5 (upd H6 ad (.lst (zs ++ [x]))) := same_set g10 had
      have tk : Tk H6 (upd H6 ad (.lst (zs ++ [x]))) := Tk.lst ez
      refine ⟨_, rfl, .inl ⟨rfl, _, SqL.of ez⟩, _, rfl, _, rfl, ta, _, _, x, rfl, rfl, SqL.of (g10 _ _ eta), atI_end (n := vs.length - 1) (by omega) hx, ad, _, _, rfl, rfl, ez, small1000 (by omega), ?_⟩
      refine ⟨_, rfl, vs.length / 2 + 1, by omega, ad, zs ++ [x], js ++ [tx], _, _, _, rfl, g9.trans g11, upd_same, paired_append (Paired.mapP pz fun _ _ z => z.mono tk) (.cons (rx.mono g11.tk) .nil), ?_, by simp, by simp [lj], ?_⟩
      · intro t ht
        rcases List.mem_append.mp ht with z | z
        · exact gj t z
        · rw [List.mem_singleton.mp z]
          exact gd tx (List.mem_of_getElem? ex)
      · have e1 : tt.take (vs.length - 1 + 1) = tt.take (vs.length - 1) ++ [tx] := take_next ex
        rw [List.take_of_length_le (by omega)] at e1
        have e2 : szT tt = szT (tt.take (vs.length - 1)) + tx.size := by
          have := congrArg szT e1
          rw [szT_app, szT_cons, szT_nil] at this
          omega
        have e3 : 2 * (vs.length / 2) = vs.length - 1 := by omega
        rw [e3] at sj
        rw [szT_app, szT_cons, szT_nil, List.length_append, List.length_singleton, lj, sj]
        omega
    · have c2' : ¬ (vs.length : Int) % 2 = 1 := fun z => c2 (decide_eq_true (by show V.int _ = V.int _; rw [z]))
      have e3 : 2 * (vs.length / 2) = vs.length := by omega
      rw [e3, List.take_of_length_le (by omega)] at sj
      exact ⟨_, rfl, vs.length / 2, by omega, ad, zs, js, _, _, _, rfl, g9.trans g10, ez, pz, gj, by omega, by omega, by omega⟩
  · have c1' : ¬ (1 : Int) < (vs.length : Int) := fun z => c1 (decide_eq_true z)
    obtain ⟨x, hx⟩ : ∃ x, vs[0]? = some x := ⟨_, List.getElem?_eq_getElem (by omega)⟩
    obtain ⟨tx, ex, rx⟩ := paired_get pt hx
    have sx : tx.size ≤ szT tt := by
      match tt, ex with
      | t :: r, ex =>
        have : t = tx := Option.some.inj ex
        rw [szT_cons, this]
        omega
    exact ⟨_, rfl, ta, _, 0, x, rfl, rfl, SqL.of eta, atI_nat (j := 0) hx, q tx x H5 g9 rx (gd tx (List.mem_of_getElem? ex)) (by omega)⟩
end
end K31
set_option Elab.async false
set_option linter.all false
set_option maxRecDepth 100000
set_option maxHeartbeats 2000000
namespace L2
open PySem
def K1 (dl : Addr) (H H' : Hp) : Prop := ∀ b o, H b = some o → b ≠ dl → H' b = some o
theorem K1.refl {dl : Addr} (H : Hp) : K1 dl H H := fun _ _ h _ => h
theorem K1.trans {dl : Addr} {H H1 H2 : Hp} (a : K1 dl H H1) (b : K1 dl H1 H2) : K1 dl H H2 := fun c o h n => b c o (a c o h n) n
theorem Same.k1 {dl : Addr} {H H' : Hp} (g : Same H H') : K1 dl H H' := fun b o h _ => g b o h
theorem k1_d {dl : Addr} {H : Hp} {o : HO} : K1 dl H (upd H dl o) := fun b _ h n => by rw [upd_ne n]; exact h
theorem K1.td {dl : Addr} {H H' : Hp} {ds : List V} (k : K1 dl H H') (h : H dl = some (.lst ds)) : TD H H' :=
  ⟨fun b xs e => k b _ e (ne_of e h (by intro z; cases z)), fun b kvs e => k b _ e (ne_of e h (by intro z; cases z))⟩
theorem EnvAt.le {H : Hp} {m n : Nat} {e : En} {v : V} (h : m ≤ n) : EnvAt H m e v → EnvAt H n e v
  | ⟨d, kvs, a, b, c, f⟩ => ⟨d, kvs, a, b, Nat.le_trans c h, f⟩
def Rb : Int ⊕ Str → Prop
  | .inl n => InB n
  | .inr _ => True
theorem ev_all {a : En} (ha : EnB a) : ∀ (t : Tr) (e : En), NoGap t → TrB t → EnB e → ∃ D r, ev a t e = some (D, r) ∧ Rb r ∧ D.length ≤ t.size
  | .num n, e, _, tb, _ => ⟨[], .inl n, rfl, tb, Nat.zero_le _⟩
  | .name x, e, _, _, eb => ⟨[], .inl (e x), rfl, eb x, Nat.zero_le _⟩
  | .ask x, e, _, _, _ => ⟨[askR x], .inl (a x), rfl, ha x, Nat.le_refl _⟩
  | .stop x, e, _, _, _ => ⟨[], .inr x, rfl, trivial, Nat.zero_le _⟩
  | .gap _ _, _, ng, _, _ => ng.elim
  | .say t, e, ng, tb, eb => by
    obtain ⟨D1, r1, e1, b1, l1⟩ := ev_all ha t e ng tb eb
    cases r1 with
    | inr w => exact ⟨D1, .inr w, by rw [ev, e1]; rfl, trivial, by show _ ≤ t.size + 1; omega⟩
    | inl n => exact ⟨D1 ++ [sayR n], .inl n, by rw [ev, e1]; rfl, b1, by show _ ≤ t.size + 1; simp; omega⟩
  | .bin o s t, e, ng, tb, eb => by
    obtain ⟨D1, r1, e1, b1, l1⟩ := ev_all ha s e ng.1 tb.1 eb
    obtain ⟨D2, r2, e2, b2, l2⟩ := ev_all ha t e ng.2 tb.2 eb
    cases r1 with
    | inr w => exact ⟨D1, .inr w, by rw [ev, e1]; rfl, trivial, by show _ ≤ s.size + t.size + 1; omega⟩
    | inl n =>
      cases r2 with
      | inr w => exact ⟨D1 ++ D2, .inr w, by rw [ev, e1, seq_one, e2]; rfl, trivial, by show _ ≤ s.size + t.size + 1; simp; omega⟩
      | inl k => exact ⟨D1 ++ (D2 ++ []), .inl (o.op n k), by rw [ev, e1, seq_one, e2]; rfl, InB.op o b2, by show _ ≤ s.size + t.size + 1; simp; omega⟩
  | .ite c s t, e, ng, tb, eb => by
    obtain ⟨D1, r1, e1, b1, l1⟩ := ev_all ha c e ng.1 tb.1 eb
    obtain ⟨D2, r2, e2, b2, l2⟩ := ev_all ha s e ng.2.1 tb.2.1 eb
    obtain ⟨D3, r3, e3, b3, l3⟩ := ev_all ha t e ng.2.2 tb.2.2 eb
    cases r1 with
    | inr w => exact ⟨D1, .inr w, by rw [ev, e1]; rfl, trivial, by show _ ≤ c.size + s.size + t.size + 1; omega⟩
    | inl n =>
      by_cases hn : n = 0
      · exact ⟨D1 ++ D3, r3, by rw [ev, e1, seq_one, if_pos hn, e3]; rfl, b3, by show _ ≤ c.size + s.size + t.size + 1; simp; omega⟩
      · exact ⟨D1 ++ D2, r2, by rw [ev, e1, seq_one, if_neg hn, e2]; rfl, b2, by show _ ≤ c.size + s.size + t.size + 1; simp; omega⟩
  | .lett x s t, e, ng, tb, eb => by
    obtain ⟨D1, r1, e1, b1, l1⟩ := ev_all ha s e ng.1 tb.1 eb
    cases r1 with
    | inr w => exact ⟨D1, .inr w, by rw [ev, e1]; rfl, trivial, by show _ ≤ s.size + t.size + 1; omega⟩
    | inl n =>
      obtain ⟨D2, r2, e2, b2, l2⟩ := ev_all ha t (e.set x n) ng.2 tb.2 (eb.set b1)
      exact ⟨D1 ++ D2, r2, by rw [ev, e1, seq_one, e2]; rfl, b2, by show _ ≤ s.size + t.size + 1; simp; omega⟩
theorem kd_ne {a b : Kd} (h : a ≠ b) : ¬ V.str a.s = V.str b.s := fun z => h (Kd.eq_iff.mp z)
theorem n_is_stop : ¬ V.str "is" = V.str "stop" := by decide +kernel
theorem in_if : inV (.str "if") [.str "if", .str "then"] = true := by decide +kernel
theorem in_then : inV (.str "then") [.str "if", .str "then"] = true := by decide +kernel
theorem ni_add : ¬ inV (.str "add") [.str "if", .str "then"] = true := by decide +kernel
theorem ni_sub : ¬ inV (.str "sub") [.str "if", .str "then"] = true := by decide +kernel
theorem ni_mul : ¬ inV (.str "mul") [.str "if", .str "then"] = true := by decide +kernel
def leaf4V : List V := [.str "num", .str "name", .str "ask", .str "stop"]
theorem in_leaf4 (k : Kd) (h : k ≠ .gap) : inV (.str k.s) leaf4V = k.leaf := by
  cases k with
  | gap => exact absurd rfl h
  | _ => decide +kernel
end L2
namespace K31
open PySem PySem.Spec L2 PyProof.Rows
abbrev s_law_leaf_end : Stmt := top 20
theorem sc_law_leaf_end : FnScope ["_law_tree", "_law_known", "_law_asked", "_law_deeds"] ["_law_tree", "_law_known", "_law_asked", "_law_deeds"] (defScope s_law_leaf_end) := ⟨rfl, rfl, rfl, by decide +kernel, rfl, by decide +kernel, by decide +kernel⟩
abbrev s_law_end : Stmt := top 21
theorem sc_law_end : FnScope ["_law_tree", "_law_known", "_law_asked", "_law_deeds", "_law_sign", "_law_first", "_law_inner", "_law_second"] ["_law_tree", "_law_known", "_law_asked", "_law_deeds"] (defScope s_law_end) := ⟨rfl, rfl, rfl, by decide +kernel, rfl, by decide +kernel, by decide +kernel⟩
section
variable {P : Program} {w : World} {K : PySem.W.Frag} {mg : Str → Option Value} {base : Heap}
def sp_leaf_end : Sp := fun vs H Q _ => ∃ (t : Tr) (v kv av : V) (dl : Addr) (ds : List V) (e a : En) (D D' : List DRow) (r : Int ⊕ Str), vs = [v, kv, av, .ref dl] ∧ t.kd.leaf = true ∧ Rep H t v ∧ EnvAt H 900 e kv ∧ EnvAt H 900 a av ∧ H dl = some (.lst ds) ∧ ds.length < 900 ∧ Paired (RowRep H) D ds ∧ ev a t e = some (D', r) ∧
  ∀ (u : V) (ds' : List V) (H' : Hp), K1 dl H H' → H' dl = some (.lst ds') → Paired (RowRep H') (D ++ D') ds' → RowRep H' (endR r) u → Q u H'
theorem ok_leaf_end {k : Nat} {f : Addr} {fd : FuncData} (F : Fun K "_law_leaf_end" "_law_leaf_end" s_law_leaf_end f fd) : FnOk P w K mg base CX0 (k + 1) f fd ["_law_tree", "_law_known", "_law_asked", "_law_deeds"] sp_leaf_end := by
  refine F.ok sc_law_leaf_end (fun vs H Q E h => ?_) (fun cdv A outer s H vs Q E hr h => ?_)
  · obtain ⟨t, v, kv, av, dl, ds, e, a, D, D', r, rfl, _⟩ := h
    rfl
  obtain ⟨t, v, kv, av, dl, ds, e, a, D, D', r, rfl, lf, rt, ⟨kd, kvs, rfl, hk, lk, vk⟩, ⟨ad, avs, rfl, ha, la, va⟩, hd, ld, pd, hev, q⟩ := h
  have hu := hu_of hr
  refine ⟨_, (pss_cons (ps_if (pt_cmpR op_eq (pe_ix (r := rIxT K) ix_tup (pv 0) pe_int (fun _ _ => rfl)) pe_str (nomark _)) (pss_one (ps_ret (pe_tup (pa_cons pe_str (pa_cons (pe_ix (r := rIxT K) ix_tup (pv 0) pe_int (fun _ _ => rfl)) pa_nil)) : PE _ _ _))) pss_nil)
    (pss_cons (ps_if (pt_cmpR op_eq (pe_ix (r := rIxT K) ix_tup (pv 0) pe_int (fun _ _ => rfl)) pe_str (nomark _)) (pss_one (ps_ret (pe_tup (pa_cons pe_str (pa_cons (pe_dget2 hu (pv 1) (pe_ix (r := rIxT K) ix_tup (pv 0) pe_int (fun _ _ => rfl)) pe_int ⟨rfl, rfl, rfl, rfl⟩) pa_nil)) : PE _ _ _))) pss_nil)
    (pss_cons (ps_if (pt_cmpR op_eq (pe_ix (r := rIxT K) ix_tup (pv 0) pe_int (fun _ _ => rfl)) pe_str (nomark _)) (pss_cons (ps_expr (pe_bm PySem.F.plainAttrs_list PySem.F.slot_list_append PySem.F.type_list_append mt_append (pv 3) (pa_cons (pv 0) pa_nil)))
    (pss_one (ps_ret (pe_tup (pa_cons pe_str (pa_cons (pe_dget2 hu (pv 2) (pe_ix (r := rIxT K) ix_tup (pv 0) pe_int (fun _ _ => rfl)) pe_int ⟨rfl, rfl, rfl, rfl⟩) pa_nil)) : PE _ _ _)))) pss_nil)
    (pss_one (ps_ret (pv 0)))))), ?_⟩
  have d2 : 2 ≤ sizeLine := by decide
  cases t with
  | num n =>
    obtain ⟨p, rfl, hp⟩ := rt
    have z : some (D', r) = some ([], Sum.inl n) := hev.symm
    cases z
    refine ⟨_, rfl, p, _, 0, _, rfl, rfl, SqT.of hp, rfl, rfl, _, rfl, iteY rfl ?_⟩
    refine ⟨_, rfl, p, _, 1, _, rfl, rfl, SqT.of hp, rfl, d2, fun x hx => ?_⟩
    have g := same_upd (o := .tup [.str "is", .int n]) hx
    exact q _ ds _ g.k1 (g _ _ hd) (by rw [List.append_nil]; exact Paired.mapP pd fun _ _ z => z.mono g.tk) ⟨x, rfl, upd_same⟩
  | name y =>
    obtain ⟨p, rfl, hp⟩ := rt
    have z : some (D', r) = some ([], Sum.inl (e y)) := hev.symm
    cases z
    refine ⟨_, rfl, p, _, 0, _, rfl, rfl, SqT.of hp, rfl, rfl, _, rfl, iteN (by decide +kernel) ?_⟩
    refine ⟨_, rfl, p, _, 0, _, rfl, rfl, SqT.of hp, rfl, rfl, _, rfl, iteY rfl ?_⟩
    refine ⟨_, rfl, kd, rfl, .inl ⟨kvs, .inl hk⟩, _, rfl, p, _, 1, _, rfl, rfl, SqT.of hp, rfl, _, DGet.k (k := Sum.inr y) hk, ?_⟩
    rw [vk y]
    refine ⟨d2, fun x hx => ?_⟩
    have g := same_upd (o := .tup [.str "is", .int (e y)]) hx
    exact q _ ds _ g.k1 (g _ _ hd) (by rw [List.append_nil]; exact Paired.mapP pd fun _ _ z => z.mono g.tk) ⟨x, rfl, upd_same⟩
  | ask y =>
    obtain ⟨p, rfl, hp⟩ := rt
    have z : some (D', r) = some ([askR y], Sum.inl (a y)) := hev.symm
    cases z
    refine ⟨_, rfl, p, _, 0, _, rfl, rfl, SqT.of hp, rfl, rfl, _, rfl, iteN (by decide +kernel) ?_⟩
    refine ⟨_, rfl, p, _, 0, _, rfl, rfl, SqT.of hp, rfl, rfl, _, rfl, iteN (by decide +kernel) ?_⟩
    refine ⟨_, rfl, p, _, 0, _, rfl, rfl, SqT.of hp, rfl, rfl, _, rfl, iteY rfl ?_⟩
    refine ⟨_, rfl, .inl ⟨rfl, _, SqL.of hd⟩, _, rfl, dl, ds, _, rfl, rfl, hd, small1000 (by omega), ?_⟩
    have tk := TD.lst (o := .lst (ds ++ [.ref p])) hd
    have hp' := tk.tk _ _ hp
    have ha' := tk.dk _ _ ha
    refine ⟨_, rfl, ad, rfl, .inl ⟨avs, .inl ha'⟩, _, rfl, p, _, 1, _, rfl, rfl, SqT.of hp', rfl, _, DGet.k (k := Sum.inr y) ha', ?_⟩
    rw [va y]
    refine ⟨d2, fun x hx => ?_⟩
    have g := same_upd (o := .tup [.str "is", .int (a y)]) hx
    exact q _ (ds ++ [.ref p]) _ (k1_d.trans g.k1) (g _ _ upd_same) (paired_append (Paired.mapP pd fun _ _ z => z.mono (tk.tk.trans g.tk)) (.cons ⟨p, rfl, g _ _ hp'⟩ .nil)) ⟨x, rfl, upd_same⟩
  | stop y =>
    obtain ⟨p, rfl, hp⟩ := rt
    have z : some (D', r) = some ([], Sum.inr y) := hev.symm
    cases z
    refine ⟨_, rfl, p, _, 0, _, rfl, rfl, SqT.of hp, rfl, rfl, _, rfl, iteN (by decide +kernel) ?_⟩
    refine ⟨_, rfl, p, _, 0, _, rfl, rfl, SqT.of hp, rfl, rfl, _, rfl, iteN (by decide +kernel) ?_⟩
    refine ⟨_, rfl, p, _, 0, _, rfl, rfl, SqT.of hp, rfl, rfl, _, rfl, iteN (by decide +kernel) ?_⟩
    exact ⟨_, rfl, q _ ds _ (K1.refl _) hd (by rw [List.append_nil]; exact pd) ⟨p, rfl, hp⟩⟩
  | gap g as => cases hev
  | bin o s t => cases o <;> cases lf
  | _ => cases lf
def sp_end (n : Nat) : Sp := fun vs H Q _ => ∃ (t : Tr) (v kv av : V) (dl : Addr) (ds : List V) (e a : En) (D D' : List DRow) (r : Int ⊕ Str) (m : Nat), vs = [v, kv, av, .ref dl] ∧ t.size < n ∧ NoGap t ∧ TrB t ∧ Rep H t v ∧ EnvAt H m e kv ∧ m + t.size ≤ 900 ∧ EnB e ∧ EnvAt H 900 a av ∧ EnB a ∧ H dl = some (.lst ds) ∧ ds.length + t.size ≤ 900 ∧ Paired (RowRep H) D ds ∧ ev a t e = some (D', r) ∧
  ∀ (u : V) (ds' : List V) (H' : Hp), K1 dl H H' → H' dl = some (.lst ds') → Paired (RowRep H') (D ++ D') ds' → RowRep H' (endR r) u → Q u H'
theorem ok_end {k n : Nat} {f g1 : Addr} {fd gd1 : FuncData} (F : Fun K "_law_end" "_law_end" s_law_end f fd) (z_dict : mg "dict" = none) (G_law_leaf_end : FnB P w K mg base k "_law_leaf_end" g1 gd1 ["_law_tree", "_law_known", "_law_asked", "_law_deeds"] sp_leaf_end)
    (G_law_end : FnB P w K mg base k "_law_end" f fd ["_law_tree", "_law_known", "_law_asked", "_law_deeds"] (sp_end n)) : FnOk P w K mg base CX0 (k + 1) f fd ["_law_tree", "_law_known", "_law_asked", "_law_deeds"] (sp_end (n + 1)) := by
  refine F.ok sc_law_end (fun vs H Q E h => ?_) (fun cdv A outer s H vs Q E hr h => ?_)
  · obtain ⟨t, v, kv, av, dl, ds, e, a, D, D', r, m, rfl, _⟩ := h
    rfl
  obtain ⟨t, v, kv, av, dl, ds, e, a, D, D', r, m, rfl, hz, ng, tb, rt, hk, hm, eb, ha, ab, hd, hdz, pd, hev, q⟩ := h
  have hu := hu_of hr
  refine ⟨_, (pss_cons (ps_set (i := 4) sc_law_end.nd rfl (Or.inl rfl) (pe_ix (r := rIxT K) ix_tup (pv 0) pe_int (fun _ _ => rfl)))
    (pss_cons (ps_if (pt_cmpR (r := rIn K false) op_in_seq (pv 4) (pe_lstR [.str "num", .str "name", .str "ask", .str "stop"] (by rfl) : PE _ _ _) rfl) (pss_one (ps_ret (pe_call G_law_leaf_end.ok hr (by rfl) G_law_leaf_end.gl G_law_leaf_end.kp G_law_leaf_end.bd .nil pass0 (pa_cons (pv 0) (pa_cons (pv 1) (pa_cons (pv 2) (pa_cons (pv 3) pa_nil))))))) pss_nil)
    (pss_cons (ps_if (pt_cmpR op_eq (pv 4) pe_str (nomark _)) (pss_cons (ps_set (i := 5) sc_law_end.nd rfl (Or.inl rfl) (pe_call G_law_end.ok hr (by rfl) G_law_end.gl G_law_end.kp G_law_end.bd .nil pass0 (pa_cons (pe_ix (r := rIxT K) ix_tup (pv 0) pe_int (fun _ _ => rfl)) (pa_cons (pv 1) (pa_cons (pv 2) (pa_cons (pv 3) pa_nil))))))
    (pss_cons (ps_if (pt_cmpR op_eq (pe_ix (r := rIxT K) ix_tup (pv 5) pe_int (fun _ _ => rfl)) pe_str (nomark _)) (pss_one (ps_ret (pv 5))) pss_nil)
    (pss_cons (ps_set (i := 6) sc_law_end.nd rfl (Or.inl rfl) (pe_callTy call_dictD (by rfl) z_dict PyProof.Rows.boot_dict (pa_cons (pv 1) pa_nil)))
    (pss_cons (ps_dput hu (pv 6) (pe_ix (r := rIxT K) ix_tup (pv 0) pe_int (fun _ _ => rfl)) (pe_ix (r := rIxT K) ix_tup (pv 5) pe_int (fun _ _ => rfl)) rfl)
    (pss_one (ps_ret (pe_call G_law_end.ok hr (by rfl) G_law_end.gl G_law_end.kp G_law_end.bd .nil pass0 (pa_cons (pe_ix (r := rIxT K) ix_tup (pv 0) pe_int (fun _ _ => rfl)) (pa_cons (pv 6) (pa_cons (pv 2) (pa_cons (pv 3) pa_nil))))))))))) pss_nil)
    (pss_cons (ps_set (i := 5) sc_law_end.nd rfl (Or.inl rfl) (pe_call G_law_end.ok hr (by rfl) G_law_end.gl G_law_end.kp G_law_end.bd .nil pass0 (pa_cons (pe_ix (r := rIxT K) ix_tup (pv 0) pe_int (fun _ _ => rfl)) (pa_cons (pv 1) (pa_cons (pv 2) (pa_cons (pv 3) pa_nil))))))
    (pss_cons (ps_if (pt_cmpR op_eq (pe_ix (r := rIxT K) ix_tup (pv 5) pe_int (fun _ _ => rfl)) pe_str (nomark _)) (pss_one (ps_ret (pv 5))) pss_nil)
    (pss_cons (ps_if (pt_cmpR op_eq (pv 4) pe_str (nomark _)) (pss_cons (ps_expr (pe_bm PySem.F.plainAttrs_list PySem.F.slot_list_append PySem.F.type_list_append mt_append (pv 3) (pa_cons (pe_tup (pa_cons pe_str (pa_cons (pe_ix (r := rIxT K) ix_tup (pv 5) pe_int (fun _ _ => rfl)) pa_nil)) : PE _ _ _) pa_nil)))
    (pss_one (ps_ret (pv 5)))) pss_nil)
    (pss_cons (ps_if (pw_and (pt_cmpR op_eq (pv 4) pe_str (nomark _)) (pw_and1 (pt_cmpR op_eq (pe_ix (r := rIxT K) ix_tup (pv 5) pe_int (fun _ _ => rfl)) pe_int (nomark _)))).pt (pss_one (ps_ret (pe_call G_law_end.ok hr (by rfl) G_law_end.gl G_law_end.kp G_law_end.bd .nil pass0 (pa_cons (pe_ix (r := rIxT K) ix_tup (pv 0) pe_int (fun _ _ => rfl)) (pa_cons (pv 1) (pa_cons (pv 2) (pa_cons (pv 3) pa_nil))))))) pss_nil)
    (pss_cons (ps_set (i := 7) sc_law_end.nd rfl (Or.inl rfl) (pe_call G_law_end.ok hr (by rfl) G_law_end.gl G_law_end.kp G_law_end.bd .nil pass0 (pa_cons (pe_ix (r := rIxT K) ix_tup (pv 0) pe_int (fun _ _ => rfl)) (pa_cons (pv 1) (pa_cons (pv 2) (pa_cons (pv 3) pa_nil))))))
    (pss_cons (ps_if (pw_or (pt_cmpR (r := rIn K false) op_in_seq (pv 4) (pe_lst (pa_cons pe_str (pa_cons pe_str pa_nil)) : PE _ _ _) rfl) (pw_or1 (pt_cmpR op_eq (pe_ix (r := rIxT K) ix_tup (pv 7) pe_int (fun _ _ => rfl)) pe_str (nomark _)))).pt (pss_one (ps_ret (pv 7))) pss_nil)
    (pss_cons (ps_if (pt_cmpR op_eq (pv 4) pe_str (nomark _)) (pss_one (ps_ret (pe_tup (pa_cons pe_str (pa_cons (pe_op op_mod (pe_op op_add (pe_ix (r := rIxT K) ix_tup (pv 5) pe_int (fun _ _ => rfl)) (pe_ix (r := rIxT K) ix_tup (pv 7) pe_int (fun _ _ => rfl))) (pe_op op_pow pe_int pe_int)) pa_nil)) : PE _ _ _))) pss_nil)
    (pss_cons (ps_if (pt_cmpR op_eq (pv 4) pe_str (nomark _)) (pss_one (ps_ret (pe_tup (pa_cons pe_str (pa_cons (pe_op op_mod (pe_op op_sub (pe_ix (r := rIxT K) ix_tup (pv 5) pe_int (fun _ _ => rfl)) (pe_ix (r := rIxT K) ix_tup (pv 7) pe_int (fun _ _ => rfl))) (pe_op op_pow pe_int pe_int)) pa_nil)) : PE _ _ _))) pss_nil)
    (pss_one (ps_ret (pe_tup (pa_cons pe_str (pa_cons (pe_op op_mod (pe_op op_mulB (pe_ix (r := rIxT K) ix_tup (pv 5) pe_int (fun _ _ => rfl)) (pe_ix (r := rIxT K) ix_tup (pv 7) pe_int (fun _ _ => rfl))) (pe_op op_pow pe_int pe_int)) pa_nil)) : PE _ _ _)))))))))))))), ?_⟩
  have d2 : 2 ≤ sizeLine := by decide
  have sp0 := size_pos' t
  have lD : ds.length = D.length := paired_len pd
  obtain ⟨p, hs, us, rfl, hp, _, _⟩ := rt.all
  have at0 : atI (.str t.sign :: hs ++ us) 0 = some (.str t.sign) := atI_nat (j := 0) rfl
  refine ⟨_, rfl, p, _, 0, _, rfl, rfl, SqT.of hp, at0, ?_⟩
  refine ⟨_, rfl, (by show 4 ≤ sizeLine; decide), fun pl hpl => ⟨pl, leaf4V, rfl, .inl (SqL.of upd_same), rfl, rfl, _, rfl, ?_⟩⟩
  have g1 : Same H (upd H pl (.lst [.str "num", .str "name", .str "ask", .str "stop"])) := same_upd hpl
  have rt1 := rt.mono g1.tk
  have hk1 := hk.mono g1.td
  have ha1 := ha.mono g1.td
  have hd1 := g1 _ _ hd
  have pd1 : Paired (RowRep (upd H pl (.lst [.str "num", .str "name", .str "ask", .str "stop"]))) D ds := Paired.mapP pd fun _ _ z => z.mono g1.tk
  have q1 : ∀ (u : V) (ds' : List V) (H' : Hp), K1 dl (upd H pl (.lst [.str "num", .str "name", .str "ask", .str "stop"])) H' → H' dl = some (.lst ds') → Paired (RowRep H') (D ++ D') ds' → RowRep H' (endR r) u → Q u H' := fun u ds' H' k1 => q u ds' H' (g1.k1.trans k1)
  change if inV (.str t.sign) leaf4V = true then _ else _
  have ngk : t.kd ≠ .gap := by
    cases t with
    | gap g as => exact ng.elim
    | bin o s t => cases o <;> intro z <;> cases z
    | _ => intro z; cases z
  have lf4 : inV (.str t.sign) leaf4V = t.kd.leaf := in_leaf4 t.kd ngk
  rw [lf4]
  clear q rt hk ha hd pd at0 hp
  generalize upd H pl (.lst [.str "num", .str "name", .str "ask", .str "stop"]) = H1 at g1 rt1 hk1 ha1 hd1 pd1 q1 ⊢
  refine ite2 (fun lf => ?_) (fun lf => ?_)
  · exact ⟨_, rfl, _, rfl, _, rfl, _, rfl, t, _, kv, av, dl, ds, e, a, D, D', r, rfl, lf, rt1, hk1.le (by omega), ha1, hd1, by omega, pd1, hev, q1⟩
  refine ⟨_, rfl, rfl, _, rfl, ?_⟩
  cases t with
  | num n => exact absurd rfl lf
  | name n => exact absurd rfl lf
  | ask n => exact absurd rfl lf
  | stop n => exact absurd rfl lf
  | gap g as => exact ng.elim
  | lett x s b =>
    obtain ⟨p', w1, w2, e0, hp, r1, r2⟩ := rt1
    cases e0
    have sz : (Tr.lett x s b).size = s.size + b.size + 1 := rfl
    rw [sz] at hz hm hdz
    have sps := size_pos' s
    have spb := size_pos' b
    refine iteY rfl ?_
    obtain ⟨D1, x1, ev1, b1, l1⟩ := ev_all ab s e ng.1 tb.1 eb
    refine ⟨_, rfl, p, _, 2, _, rfl, rfl, SqT.of hp, rfl, _, rfl, _, rfl, _, rfl, s, w1, kv, av, dl, ds, e, a, D, D1, x1, m, rfl, by omega, ng.1, tb.1, r1, hk1, by omega, eb, ha1, ab, hd1, by omega, pd1, ev1, fun v1 ds1 H2 k2 hd2 pd2 ru2 => ?_⟩
    obtain ⟨u, rfl, hu2⟩ := ru2
    have ld1 : ds1.length = ds.length + D1.length := by rw [paired_len pd2, List.length_append, lD]
    have td2 := k2.td hd1
    have hp2 := td2.tk _ _ hp
    have hk2 := hk1.mono td2
    have ha2 := ha1.mono td2
    refine ⟨_, rfl, u, _, 0, _, rfl, rfl, SqT.of hu2, rfl, rfl, _, rfl, ?_⟩
    cases x1 with
    | inr wd =>
      refine iteY rfl ?_
      have z : some (D', r) = some (D1, Sum.inr wd) := hev.symm.trans (by rw [ev, ev1]; rfl)
      cases z
      exact ⟨_, rfl, q1 _ _ _ k2 hd2 pd2 ⟨u, rfl, hu2⟩⟩
    | inl n =>
      refine iteN n_is_stop ?_
      obtain ⟨D2, x2, ev2, b2, l2⟩ := ev_all ab b (e.set x n) ng.2 tb.2 (eb.set b1)
      have z : some (D', r) = some (D1 ++ D2, x2) := hev.symm.trans (by rw [ev, ev1, seq_one, ev2]; rfl)
      cases z
      obtain ⟨kd, kvs, rfl, hkd, lkd, vk⟩ := hk2
      refine ⟨_, rfl, kd, kvs, rfl, hkd, fun tdd htd => ?_⟩
      have g2 := same_upd (o := .dK kvs) htd
      refine ⟨_, rfl, u, _, 1, _, rfl, rfl, SqT.of (g2 _ _ hu2), rfl, _, rfl, _, rfl, p, _, 1, _, rfl, rfl, SqT.of (g2 _ _ hp2), rfl, tdd, _, rfl, DPut.k (k := Sum.inr x) upd_same (small1000 (by omega)), ?_⟩
      have g3 : Same H2 (upd (upd H2 tdd (.dK kvs)) tdd (.dK (putK kvs (Sum.inr x) (.int n)))) := same_set g2 htd
      have env3 : EnvAt (upd (upd H2 tdd (.dK kvs)) tdd (.dK (putK kvs (Sum.inr x) (.int n)))) (m + 1) (e.set x n) (.ref tdd) := ⟨tdd, _, rfl, upd_same, Nat.le_trans (length_putK _ _ _) (by omega), fun y => by
        rw [valV_put]
        by_cases h : y = x
        · subst h
          simp [En.set]
        · rw [if_neg (fun z => h (Sum.inr.inj z)), vk y]
          simp [En.set, h]⟩
      refine ⟨_, rfl, p, _, 3, _, rfl, rfl, SqT.of (g3 _ _ hp2), rfl, _, rfl, _, rfl, _, rfl, b, w2, .ref tdd, av, dl, ds1, e.set x n, a, D ++ D1, D2, _, m + 1, rfl, by omega, ng.2, tb.2, (r2.mono (td2.tk.trans g3.tk)), env3, by omega, (eb.set b1), (ha2.mono g3.td), ab, (g3 _ _ hd2), by omega, (Paired.mapP pd2 fun _ _ z => z.mono g3.tk), ev2, fun v3 ds3 H4 k4 hd4 pd4 ru4 => ?_⟩
      exact q1 v3 ds3 H4 (k2.trans (g3.k1.trans k4)) hd4 (by rw [← List.append_assoc]; exact pd4) ru4
  | say s =>
    obtain ⟨p', w1, e0, hp, r1⟩ := rt1
    cases e0
    have sz : (Tr.say s).size = s.size + 1 := rfl
    rw [sz] at hz hm hdz
    refine iteN (kd_ne (a := .say) (b := .lett) (by decide)) ?_
    obtain ⟨D1, x1, ev1, b1, l1⟩ := ev_all ab s e ng tb eb
    refine ⟨_, rfl, p, _, 1, _, rfl, rfl, SqT.of hp, rfl, _, rfl, _, rfl, _, rfl, s, w1, kv, av, dl, ds, e, a, D, D1, x1, m, rfl, by omega, ng, tb, r1, hk1, by omega, eb, ha1, ab, hd1, by omega, pd1, ev1, fun v1 ds1 H2 k2 hd2 pd2 ru2 => ?_⟩
    obtain ⟨u, rfl, hu2⟩ := ru2
    have ld1 : ds1.length = ds.length + D1.length := by rw [paired_len pd2, List.length_append, lD]
    have td2 := k2.td hd1
    have hp2 := td2.tk _ _ hp
    have hk2 := hk1.mono td2
    have ha2 := ha1.mono td2
    refine ⟨_, rfl, u, _, 0, _, rfl, rfl, SqT.of hu2, rfl, rfl, _, rfl, ?_⟩
    cases x1 with
    | inr wd =>
      refine iteY rfl ?_
      have z : some (D', r) = some (D1, Sum.inr wd) := hev.symm.trans (by rw [ev, ev1]; rfl)
      cases z
      exact ⟨_, rfl, q1 _ _ _ k2 hd2 pd2 ⟨u, rfl, hu2⟩⟩
    | inl n =>
      refine iteN n_is_stop ?_
      refine ⟨_, rfl, rfl, _, rfl, iteY rfl ?_⟩
      have z : some (D', r) = some (D1 ++ [sayR n], Sum.inl n) := hev.symm.trans (by rw [ev, ev1]; rfl)
      cases z
      refine ⟨_, rfl, .inl ⟨rfl, _, SqL.of hd2⟩, _, rfl, u, _, 1, _, rfl, rfl, SqT.of hu2, rfl, d2, fun pt hpt => ?_⟩
      have g2 := same_upd (o := .tup [.str "say", .int n]) hpt
      refine ⟨dl, ds1, _, rfl, rfl, g2 _ _ hd2, small1000 (by omega), ?_⟩
      have tk := Tk.lst (o := .lst (ds1 ++ [.ref pt])) (g2 _ _ hd2)
      refine ⟨_, rfl, q1 _ _ _ (k2.trans (g2.k1.trans k1_d)) upd_same ?_ ⟨u, rfl, tk _ _ (g2 _ _ hu2)⟩⟩
      rw [← List.append_assoc]
      exact paired_append (Paired.mapP pd2 fun _ _ z => z.mono (g2.tk.trans tk)) (.cons ⟨pt, rfl, tk _ _ upd_same⟩ .nil)
  | ite c s b =>
    obtain ⟨p', w1, w2, w3, e0, hp, r1, r2, r3⟩ := rt1
    cases e0
    have sz : (Tr.ite c s b).size = c.size + s.size + b.size + 1 := rfl
    rw [sz] at hz hm hdz
    have sps := size_pos' s
    have spb := size_pos' b
    have spc := size_pos' c
    refine iteN (kd_ne (a := .ite) (b := .lett) (by decide)) ?_
    obtain ⟨D1, x1, ev1, b1, l1⟩ := ev_all ab c e ng.1 tb.1 eb
    refine ⟨_, rfl, p, _, 1, _, rfl, rfl, SqT.of hp, rfl, _, rfl, _, rfl, _, rfl, c, w1, kv, av, dl, ds, e, a, D, D1, x1, m, rfl, by omega, ng.1, tb.1, r1, hk1, by omega, eb, ha1, ab, hd1, by omega, pd1, ev1, fun v1 ds1 H2 k2 hd2 pd2 ru2 => ?_⟩
    obtain ⟨u, rfl, hu2⟩ := ru2
    have ld1 : ds1.length = ds.length + D1.length := by rw [paired_len pd2, List.length_append, lD]
    have td2 := k2.td hd1
    have hp2 := td2.tk _ _ hp
    have hk2 := hk1.mono td2
    have ha2 := ha1.mono td2
    refine ⟨_, rfl, u, _, 0, _, rfl, rfl, SqT.of hu2, rfl, rfl, _, rfl, ?_⟩
    cases x1 with
    | inr wd =>
      refine iteY rfl ?_
      have z : some (D', r) = some (D1, Sum.inr wd) := hev.symm.trans (by rw [ev, ev1]; rfl)
      cases z
      exact ⟨_, rfl, q1 _ _ _ k2 hd2 pd2 ⟨u, rfl, hu2⟩⟩
    | inl n =>
      refine iteN n_is_stop ?_
      refine ⟨_, rfl, rfl, _, rfl, iteN (kd_ne (a := .ite) (b := .say) (by decide)) ?_⟩
      refine ⟨_, rfl, rfl, _, rfl, iteY rfl ?_⟩
      refine ⟨_, rfl, u, _, 1, _, rfl, rfl, SqT.of hu2, rfl, rfl, _, rfl, ite2 (fun c0 => ?_) (fun c0 => ?_)⟩
      · have n0 : n = 0 := V.int.inj (of_decide_eq_true c0)
        obtain ⟨D2, x2, ev2, b2, l2⟩ := ev_all ab b e ng.2.2 tb.2.2 eb
        have z : some (D', r) = some (D1 ++ D2, x2) := hev.symm.trans (by rw [ev, ev1, seq_one, if_pos n0, ev2]; rfl)
        cases z
        refine ⟨_, rfl, p, _, 3, _, rfl, rfl, SqT.of hp2, rfl, _, rfl, _, rfl, _, rfl, b, w3, kv, av, dl, ds1, e, a, D ++ D1, D2, _, m, rfl, by omega, ng.2.2, tb.2.2, (r3.mono td2.tk), hk2, by omega, eb, ha2, ab, hd2, by omega, pd2, ev2, fun v3 ds3 H4 k4 hd4 pd4 ru4 => ?_⟩
        exact q1 v3 ds3 H4 (k2.trans k4) hd4 (by rw [← List.append_assoc]; exact pd4) ru4
      · have n0 : n ≠ 0 := fun z => c0 (decide_eq_true (by rw [z]; rfl))
        obtain ⟨D2, x2, ev2, b2, l2⟩ := ev_all ab s e ng.2.1 tb.2.1 eb
        have z : some (D', r) = some (D1 ++ D2, x2) := hev.symm.trans (by rw [ev, ev1, seq_one, if_neg n0, ev2]; rfl)
        cases z
        refine ⟨_, rfl, p, _, 2, _, rfl, rfl, SqT.of hp2, rfl, _, rfl, _, rfl, _, rfl, s, w2, kv, av, dl, ds1, e, a, D ++ D1, D2, _, m, rfl, by omega, ng.2.1, tb.2.1, (r2.mono td2.tk), hk2, by omega, eb, ha2, ab, hd2, by omega, pd2, ev2, fun v3 ds3 H4 k4 hd4 pd4 ru4 => ?_⟩
        refine ⟨_, rfl, d2, fun pz hpz => ⟨pz, _, rfl, .inl (SqL.of upd_same), rfl, rfl, _, rfl, ite2 (fun _ => iteT ?_) (fun cc => (cc in_if).elim)⟩⟩
        have g5 := same_upd (o := .lst [.str "if", .str "then"]) hpz
        exact ⟨_, rfl, q1 v3 ds3 _ (k2.trans (k4.trans g5.k1)) (g5 _ _ hd4) (by rw [← List.append_assoc]; exact Paired.mapP pd4 fun _ _ z => z.mono g5.tk) (ru4.mono g5.tk)⟩
  | bin o s b =>
    obtain ⟨p', w1, w2, e0, hp, r1, r2⟩ := rt1
    cases e0
    have sz : (Tr.bin o s b).size = s.size + b.size + 1 := rfl
    rw [sz] at hz hm hdz
    have sps := size_pos' s
    have spb := size_pos' b
    have so : (Tr.bin o s b).sign = o.s := Bin.kd_s o
    refine iteN (kd_ne (a := o.kd) (b := .lett) (by cases o <;> decide)) ?_
    obtain ⟨D1, x1, ev1, b1, l1⟩ := ev_all ab s e ng.1 tb.1 eb
    refine ⟨_, rfl, p, _, 1, _, rfl, rfl, SqT.of hp, rfl, _, rfl, _, rfl, _, rfl, s, w1, kv, av, dl, ds, e, a, D, D1, x1, m, rfl, by omega, ng.1, tb.1, r1, hk1, by omega, eb, ha1, ab, hd1, by omega, pd1, ev1, fun v1 ds1 H2 k2 hd2 pd2 ru2 => ?_⟩
    obtain ⟨u, rfl, hu2⟩ := ru2
    have ld1 : ds1.length = ds.length + D1.length := by rw [paired_len pd2, List.length_append, lD]
    have td2 := k2.td hd1
    have hp2 := td2.tk _ _ hp
    have hk2 := hk1.mono td2
    have ha2 := ha1.mono td2
    refine ⟨_, rfl, u, _, 0, _, rfl, rfl, SqT.of hu2, rfl, rfl, _, rfl, ?_⟩
    cases x1 with
    | inr wd =>
      refine iteY rfl ?_
      have z : some (D', r) = some (D1, Sum.inr wd) := hev.symm.trans (by rw [ev, ev1]; rfl)
      cases z
      exact ⟨_, rfl, q1 _ _ _ k2 hd2 pd2 ⟨u, rfl, hu2⟩⟩
    | inl n =>
      refine iteN n_is_stop ?_
      refine ⟨_, rfl, rfl, _, rfl, iteN (kd_ne (a := o.kd) (b := .say) (by cases o <;> decide)) ?_⟩
      refine ⟨_, rfl, rfl, _, rfl, iteN (kd_ne (a := o.kd) (b := .ite) (by cases o <;> decide)) (iteF ?_)⟩
      obtain ⟨D2, x2, ev2, b2, l2⟩ := ev_all ab b e ng.2 tb.2 eb
      refine ⟨_, rfl, p, _, 2, _, rfl, rfl, SqT.of hp2, rfl, _, rfl, _, rfl, _, rfl, b, w2, kv, av, dl, ds1, e, a, D ++ D1, D2, x2, m, rfl, by omega, ng.2, tb.2, (r2.mono td2.tk), hk2, by omega, eb, ha2, ab, hd2, by omega, pd2, ev2, fun v3 ds3 H4 k4 hd4 pd4 ru4 => ?_⟩
      obtain ⟨u', rfl, hu4⟩ := ru4
      have td4 := k4.td hd2
      have hu2' := td4.tk _ _ hu2
      refine ⟨_, rfl, d2, fun pz hpz => ⟨pz, _, rfl, .inl (SqL.of upd_same), rfl, rfl, _, rfl, ?_⟩⟩
      have g5 := same_upd (o := .lst [.str "if", .str "then"]) hpz
      have hd5 := g5 _ _ hd4
      have hu4' := g5 _ _ hu4
      have hu2'' := g5 _ _ hu2'
      have K5 := k2.trans (k4.trans (g5.k1 (dl := dl)))
      have pd5 : Paired (RowRep _) ((D ++ D1) ++ D2) ds3 := Paired.mapP pd4 fun _ _ z => z.mono g5.tk
      generalize upd H4 pz (.lst [.str "if", .str "then"]) = H5 at g5 hd5 hu4' hu2'' K5 pd5 ⊢
      cases x2 with
      | inr wd =>
        have z : some (D', r) = some (D1 ++ D2, Sum.inr wd) := hev.symm.trans (by rw [ev, ev1, seq_one, ev2]; rfl)
        cases z
        have fin : Q (.ref u') H5 := q1 _ _ _ K5 hd5 (by rw [← List.append_assoc]; exact pd5) ⟨u', rfl, hu4'⟩
        refine ite2 (fun _ => iteT ⟨_, rfl, fin⟩) (fun _ => ?_)
        exact ⟨_, rfl, u', _, 0, _, rfl, rfl, SqT.of hu4', rfl, rfl, _, rfl, iteY rfl ⟨_, rfl, fin⟩⟩
      | inl n2 =>
        have z : some (D', r) = some (D1 ++ (D2 ++ []), Sum.inl (o.op n n2)) := hev.symm.trans (by rw [ev, ev1, seq_one, ev2]; rfl)
        cases z
        rw [List.append_nil] at q1
        have pd6 : Paired (RowRep H5) (D ++ (D1 ++ D2)) ds3 := by rw [← List.append_assoc]; exact pd5
        cases o with
        | thn =>
          refine ite2 (fun _ => iteT ⟨_, rfl, q1 _ _ _ K5 hd5 pd6 ⟨u', rfl, hu4'⟩⟩) (fun cc => (cc in_then).elim)
        | add =>
          refine ite2 (fun cc => (ni_add cc).elim) (fun _ => ?_)
          refine ⟨_, rfl, u', _, 0, _, rfl, rfl, SqT.of hu4', rfl, rfl, _, rfl, iteN n_is_stop ?_⟩
          refine ⟨_, rfl, rfl, _, rfl, iteY rfl ?_⟩
          refine ⟨_, rfl, u, _, 1, _, rfl, rfl, SqT.of hu2'', rfl, _, rfl, u', _, 1, _, rfl, rfl, SqT.of hu4', rfl, _, _, rfl, rfl, _, _, rfl, rfl, ⟨by decide, by decide, by decide⟩, _, _, rfl, rfl, (show (0 : Int) < 10 ^ 30 by decide), d2, fun y hy => ?_⟩
          have g6 := same_upd (o := .tup [.str "is", .int (Bin.op .add n n2)]) hy
          exact q1 _ _ _ (K5.trans g6.k1) (g6 _ _ hd5) (Paired.mapP pd6 fun _ _ z => z.mono g6.tk) ⟨y, rfl, upd_same⟩
        | sub =>
          refine ite2 (fun cc => (ni_sub cc).elim) (fun _ => ?_)
          refine ⟨_, rfl, u', _, 0, _, rfl, rfl, SqT.of hu4', rfl, rfl, _, rfl, iteN n_is_stop ?_⟩
          refine ⟨_, rfl, rfl, _, rfl, iteN (kd_ne (a := .sub) (b := .add) (by decide)) ?_⟩
          refine ⟨_, rfl, rfl, _, rfl, iteY rfl ?_⟩
          refine ⟨_, rfl, u, _, 1, _, rfl, rfl, SqT.of hu2'', rfl, _, rfl, u', _, 1, _, rfl, rfl, SqT.of hu4', rfl, _, _, rfl, rfl, _, _, rfl, rfl, ⟨by decide, by decide, by decide⟩, _, _, rfl, rfl, (show (0 : Int) < 10 ^ 30 by decide), d2, fun y hy => ?_⟩
          have g6 := same_upd (o := .tup [.str "is", .int (Bin.op .sub n n2)]) hy
          exact q1 _ _ _ (K5.trans g6.k1) (g6 _ _ hd5) (Paired.mapP pd6 fun _ _ z => z.mono g6.tk) ⟨y, rfl, upd_same⟩
        | mul =>
          refine ite2 (fun cc => (ni_mul cc).elim) (fun _ => ?_)
          refine ⟨_, rfl, u', _, 0, _, rfl, rfl, SqT.of hu4', rfl, rfl, _, rfl, iteN n_is_stop ?_⟩
          refine ⟨_, rfl, rfl, _, rfl, iteN (kd_ne (a := .mul) (b := .add) (by decide)) ?_⟩
          refine ⟨_, rfl, rfl, _, rfl, iteN (kd_ne (a := .mul) (b := .sub) (by decide)) ?_⟩
          refine ⟨_, rfl, u, _, 1, _, rfl, rfl, SqT.of hu2'', rfl, _, rfl, u', _, 1, _, rfl, rfl, SqT.of hu4', rfl, _, _, rfl, rfl, ⟨b1.abs, b2.abs⟩, _, _, rfl, rfl, ⟨by decide, by decide, by decide⟩, _, _, rfl, rfl, (show (0 : Int) < 10 ^ 30 by decide), d2, fun y hy => ?_⟩
          have g6 := same_upd (o := .tup [.str "is", .int (Bin.op .mul n n2)]) hy
          exact q1 _ _ _ (K5.trans g6.k1) (g6 _ _ hd5) (Paired.mapP pd6 fun _ _ z => z.mono g6.tk) ⟨y, rfl, upd_same⟩
theorem none_end {k : Nat} {f : Addr} {fd : FuncData} : FnOk P w K mg base CX0 k f fd ["_law_tree", "_law_known", "_law_asked", "_law_deeds"] (sp_end 0) := by
  have no : ∀ vs H Q E, ¬ sp_end 0 vs H Q E := fun vs H Q E h => by
    obtain ⟨t, v, kv, av, dl, ds, e, a, D, D', r, m, _, hz, _⟩ := h
    omega
  exact ⟨fun vs H Q E h => absurd h (no vs H Q E), fun A outer s H args us vs Q E _ _ _ _ h => absurd h (no vs H Q E)⟩
theorem all_end {k : Nat} {f g1 : Addr} {fd gd1 : FuncData} (F : Fun K "_law_end" "_law_end" s_law_end f fd) (b : Binds K fd ["_law_tree", "_law_known", "_law_asked", "_law_deeds"] []) (m : mg "_law_end" = some (.ref f)) (z_dict : mg "dict" = none)
    (G : FnB P w K mg base k "_law_leaf_end" g1 gd1 ["_law_tree", "_law_known", "_law_asked", "_law_deeds"] sp_leaf_end) : ∀ n : Nat, FnB P w K mg base (k + n) "_law_end" f fd ["_law_tree", "_law_known", "_law_asked", "_law_deeds"] (sp_end n)
  | 0 => ⟨none_end, b, F.kp, m⟩
  | n + 1 => ⟨ok_end F z_dict (G.up (Nat.le_add_right _ _)) (all_end F b m z_dict G n), b, F.kp, m⟩
end
end K31
set_option Elab.async false
set_option linter.all false
set_option maxRecDepth 100000
set_option maxHeartbeats 2000000
namespace K31
open PySem PySem.Spec L2 PyProof.Rows
abbrev s_law : Stmt := top 24
theorem sc_law : FnScope ["_law_script", "_law_words_here", "_law_tree", "_law_known", "_law_asked", "_law_kept", "_law_deeds", "_law_end_here", "_law_found"] ["_law_script"] (defScope s_law) := ⟨rfl, rfl, rfl, by decide +kernel, rfl, by decide +kernel, by decide +kernel⟩
section
variable {P : Program} {w : World} {K : PySem.W.Frag} {mg : Str → Option Value} {base : Heap}
theorem enb_no : EnB (fun _ => 0) := fun _ => ⟨(by show (0 : Int) ≤ 0; decide), (by show (0 : Int) < 10 ^ 30; decide)⟩
theorem eq_selfK : ∀ {kvs : List (Key × V)}, (kvs.map (·.1)).Nodup → (∀ p ∈ kvs, ∃ n, p.2 = V.int n) → eqDk kvs kvs = true := fun {kvs} nd hi => by
  unfold eqDk
  rw [beq_self_eq_true, Bool.true_and, List.all_eq_true]
  intro p hp
  have e : valV kvs p.1 = some p.2 := by
    clear hi
    induction kvs with
    | nil => exact absurd hp (by simp)
    | cons q r ih =>
      by_cases h : q.1 = p.1
      · rcases List.mem_cons.mp hp with z | z
        · rw [z]
          exact valV_pos rfl
        · exact absurd (List.mem_map.mpr ⟨p, z, h.symm⟩) (List.nodup_cons.mp nd).1
      · rw [valV_neg h]
        rcases List.mem_cons.mp hp with z | z
        · exact absurd (by rw [z]) h
        · exact ih (List.nodup_cons.mp nd).2 z
  rw [e]
  obtain ⟨n, hn⟩ := hi p hp
  simp [hn, eqV]
def sp_law (K : PySem.W.Frag) : Sp := fun vs H Q _ => ∃ (a : Addr) (ns : List Int), vs = [.ref a] ∧ SqL K H a (ns.map V.int) ∧ ns.length ≤ 63 ∧ ∀ H', Q (.bl true) H'
structure KnOk (kvs : List (Key × V)) (e : En) : Prop where
  len : kvs.length ≤ 2
  nd : (kvs.map (·.1)).Nodup
  nums : ∀ p ∈ kvs, ∃ n, p.2 = V.int n
  get : ∀ x : Str, (valV kvs (Sum.inr x : Key)).getD (.int 0) = .int (e x)
  bd : EnB e
theorem KnOk.flat {kvs : List (Key × V)} {e : En} (h : KnOk kvs e) : ∀ p ∈ kvs, flatV p.2 = true := fun p hp => by
  obtain ⟨n, hn⟩ := h.nums p hp
  rw [hn]
  rfl
theorem kn_one (x : Str) {n : Int} (h : InB n) : KnOk [((Sum.inr x : Key), V.int n)] (En.set (fun _ => 0) x n) where
  len := by simp
  nd := by simp
  nums := by simp
  get := fun z => by
    by_cases e : z = x
    · subst e
      rw [valV_pos rfl]
      simp [En.set]
    · rw [valV_neg (fun q => e (Sum.inr.inj q).symm), valV_nil]
      simp [En.set, e]
  bd := enb_no.set h
theorem kn_two (x y : Str) {n m : Int} (h : InB n) (h' : InB m) : KnOk (putK [((Sum.inr x : Key), V.int n)] (Sum.inr y) (V.int m)) ((En.set (fun _ => 0) x n).set y m) where
  len := by have := length_putK [((Sum.inr x : Key), V.int n)] (Sum.inr y : Key) (V.int m); simpa using this
  nd := by
    by_cases e : x = y
    · subst e
      simp [putK]
    · rw [putK_new _ (by rw [valV_neg (fun q => e (Sum.inr.inj q)), valV_nil])]
      simp [e]
  nums := by
    by_cases e : x = y
    · subst e
      simp [putK]
    · rw [putK_new _ (by rw [valV_neg (fun q => e (Sum.inr.inj q)), valV_nil])]
      simp
  get := fun z => by
    rw [valV_put]
    by_cases e : z = y
    · subst e
      simp [En.set]
    · rw [if_neg (fun q => e (Sum.inr.inj q)), (kn_one x h).get z]
      simp [En.set, e]
  bd := (enb_no.set h).set h'
theorem ok_law {k : Nat} {f g1 g2 g3 g4 g5 g6 : Addr} {fd gd1 gd2 gd3 gd4 gd5 gd6 : FuncData} (F : Fun K "law" "law" s_law f fd) (z_dict : mg "dict" = none)
    (G_law_words : FnB P w K mg base k "_law_words" g1 gd1 ["_law_cell"] sp_words) (G_law_cell_at : FnB P w K mg base k "_law_cell_at" g2 gd2 ["_law_script", "_law_k"] (sp_cell_at K))
    (G_law_program : FnB P w K mg base k "_law_program" g3 gd3 ["_law_cells", "_law_words_here"] (sp_program K)) (G_law_end : FnB P w K mg base k "_law_end" g4 gd4 ["_law_tree", "_law_known", "_law_asked", "_law_deeds"] (sp_end 122))
    (G_law_told : FnB P w K mg base k "_law_told" g5 gd5 ["_law_found", "_law_deeds", "_law_end_here"] sp_told) (G_run : FnD P w K mg base k "run" g6 gd6 ["tree", "known", "asked"] sp_run) :
    FnOk P w K mg base CX0 (k + 1) f fd ["_law_script"] (sp_law K) := by
  refine F.ok sc_law (fun vs H Q E h => ?_) (fun cdv A outer s H vs Q E hr h => ?_)
  · obtain ⟨a, ns, rfl, _⟩ := h
    rfl
  obtain ⟨a, ns, rfl, hS, h63, q⟩ := h
  have hu := hu_of hr
  have hu8 : (A.deeper (envOfC "law" (defScope s_law) s.heap.objs.size f cdv)).units + 8 < cLine := by
    have := hr.units
    omega
  refine ⟨_, (pss_cons (ps_set (i := 1) sc_law.nd rfl (Or.inl rfl) (pe_call G_law_words.ok hr (by rfl) G_law_words.gl G_law_words.kp G_law_words.bd .nil pass0 (pa_cons (pe_call G_law_cell_at.ok hr (by rfl) G_law_cell_at.gl G_law_cell_at.kp G_law_cell_at.bd .nil pass0 (pa_cons (pv 0) (pa_cons pe_int pa_nil))) pa_nil)))
    (pss_cons (ps_set (i := 2) sc_law.nd rfl (Or.inl rfl) (pe_call G_law_program.ok hr (by rfl) G_law_program.gl G_law_program.kp G_law_program.bd .nil pass0 (pa_cons (pe_slice (r := rSlL K) sl_list (pv 0) (po_some pe_int) (po_some pe_int)) (pa_cons (pv 1) pa_nil))))
    (pss_cons (ps_set (i := 3) sc_law.nd rfl (Or.inl rfl) (pe_disp (pps_cons (pe_ix (r := rIxL K) ix_list (pv 1) pe_int (fun _ _ => rfl)) (pe_op op_mod (pe_call G_law_cell_at.ok hr (by rfl) G_law_cell_at.gl G_law_cell_at.kp G_law_cell_at.bd .nil pass0 (pa_cons (pv 0) (pa_cons pe_int pa_nil))) (pe_op op_pow pe_int pe_int)) (pps_cons (pe_ix (r := rIxL K) ix_list (pv 1) pe_int (fun _ _ => rfl)) (pe_op op_mod (pe_call G_law_cell_at.ok hr (by rfl) G_law_cell_at.gl G_law_cell_at.kp G_law_cell_at.bd .nil pass0 (pa_cons (pv 0) (pa_cons pe_int pa_nil))) pe_int) pps_nil)) rfl rfl (by simp) (by decide)))
    (pss_cons (ps_set (i := 4) sc_law.nd rfl (Or.inl rfl) (pe_disp (pps_cons (pe_ix (r := rIxL K) ix_list (pv 1) pe_int (fun _ _ => rfl)) (pe_op op_mod (pe_call G_law_cell_at.ok hr (by rfl) G_law_cell_at.gl G_law_cell_at.kp G_law_cell_at.bd .nil pass0 (pa_cons (pv 0) (pa_cons pe_int pa_nil))) (pe_op op_pow pe_int pe_int)) (pps_cons (pe_ix (r := rIxL K) ix_list (pv 1) pe_int (fun _ _ => rfl)) (pe_op op_mod (pe_call G_law_cell_at.ok hr (by rfl) G_law_cell_at.gl G_law_cell_at.kp G_law_cell_at.bd .nil pass0 (pa_cons (pv 0) (pa_cons pe_int pa_nil))) pe_int) pps_nil)) rfl rfl (by simp) (by decide)))
    (pss_cons (ps_set (i := 5) sc_law.nd rfl (Or.inl rfl) (pe_lst (pa_cons (pe_callTy call_dictD (by rfl) z_dict PyProof.Rows.boot_dict (pa_cons (pv 3) pa_nil)) (pa_cons (pe_callTy call_dictD (by rfl) z_dict PyProof.Rows.boot_dict (pa_cons (pv 4) pa_nil)) pa_nil)) : PE _ _ _))
    (pss_cons (ps_set (i := 6) sc_law.nd rfl (Or.inl rfl) (pe_lst pa_nil : PE _ _ _))
    (pss_cons (ps_set (i := 7) sc_law.nd rfl (Or.inl rfl) (pe_call G_law_end.ok hr (by rfl) G_law_end.gl G_law_end.kp G_law_end.bd .nil pass0 (pa_cons (pv 2) (pa_cons (pe_callTy call_dictD (by rfl) z_dict PyProof.Rows.boot_dict (pa_cons (pv 3) pa_nil)) (pa_cons (pv 4) (pa_cons (pv 6) pa_nil))))))
    (pss_cons (ps_set (i := 8) sc_law.nd rfl (Or.inl rfl) (pe_call G_run.ok hr (by rfl) G_run.gl G_run.kp G_run.bd0 .nil pass0 (pa_cons (pv 2) (pa_cons (pv 3) (pa_cons (pv 4) pa_nil)))))
    (pss_cons (ps_if (pw_or (pt_not (pt_val (pe_call G_law_told.ok hr (by rfl) G_law_told.gl G_law_told.kp G_law_told.bd .nil pass0 (pa_cons (pv 8) (pa_cons (pv 6) (pa_cons (pv 7) pa_nil)))))) (pw_or1 (pt_cmpR (op_neLD hu8) (pe_lst (pa_cons (pv 3) (pa_cons (pv 4) pa_nil)) : PE _ _ _) (pv 5) (nomark _)))).pt (pss_one (ps_ret pe_bl)) pss_nil)
    (pss_cons (ps_expr (pe_bm PySem.F.plainAttrs_list PySem.F.slot_list_append PySem.F.type_list_append mt_append (pe_ix (r := rIxT K) ix_tup (pv 8) pe_int (fun _ _ => rfl)) (pa_cons (pe_tup (pa_cons pe_str (pa_cons pe_int pa_nil)) : PE _ _ _) pa_nil)))
    (pss_one (ps_ret (pe_and (pe_call G_law_told.ok hr (by rfl) G_law_told.gl G_law_told.kp G_law_told.bd .nil pass0 (pa_cons (pe_call G_run.ok hr (by rfl) G_run.gl G_run.kp G_run.bd0 .nil pass0 (pa_cons (pv 2) (pa_cons (pv 3) (pa_cons (pv 4) pa_nil)))) (pa_cons (pv 6) (pa_cons (pv 7) pa_nil)))) (pe_one (pe_cmpR (op_eqLD hu8) (pe_lst (pa_cons (pv 3) (pa_cons (pv 4) pa_nil)) : PE _ _ _) (pv 5) (nomark _)))))))))))))))), ?_⟩
  have d2 : 2 ≤ sizeLine := by decide
  refine ⟨_, rfl, a, ns, 0, rfl, hS, Int.le_refl 0, _, rfl, fun l H1 ws g1 el hw => ?_⟩
  have x0 : atI (ws.map V.str) 0 = some (.str (nm ws 0)) := nm4 hw 0
  have x1 : atI (ws.map V.str) 1 = some (.str (nm ws 1)) := nm4 hw 1
  have x2 : atI (ws.map V.str) 2 = some (.str (nm ws 2)) := nm4 hw 2
  obtain ⟨cs, ecs, lcs⟩ : ∃ cs : List Int, cutV (ns.map V.int) (some 3) (some 63) = cs.map V.int ∧ cs.length ≤ 60 := by
    have e27 : HT.sIx ns.length ns.length (some ((63 : Nat) : Int)) = min 63 ns.length := HT.sIx_nat _ _ _
    have e2' : HT.sIx ns.length 0 (some ((3 : Nat) : Int)) = min 3 ns.length := HT.sIx_nat _ _ _
    rw [show ((63 : Nat) : Int) = 63 from rfl] at e27
    rw [show ((3 : Nat) : Int) = 3 from rfl] at e2'
    obtain ⟨ms, e, h⟩ := cutInts (ns := ns) (lo := some 3) (hi := some 63) e2' e27 (by omega)
    exact ⟨ms, e, by omega⟩
  refine ⟨_, rfl, _, rfl, _, rfl, a, _, rfl, g1.seq hS, fun pc hpc => ?_⟩
  rw [ecs]
  have g2 := same_upd (o := .lst (cs.map V.int)) hpc
  refine ⟨_, rfl, pc, l, cs, ws, rfl, SqL.of upd_same, lcs, g2 _ _ el, hw, fun t tv H2 g3 rt gd szt => ?_⟩
  have gA := g1.trans (g2.trans g3)
  have el2 := g3 _ _ (g2 _ _ el)
  obtain ⟨n0, en0, b0⟩ : ∃ n, ns.getD (1 : Int).toNat 0 % 10 ^ (30 : Int).toNat = n ∧ InB n := ⟨_, rfl, InB.mod _⟩
  obtain ⟨n1, en1, b1⟩ : ∃ n, ns.getD (1 : Int).toNat 0 % 3 = n ∧ InB n := ⟨_, rfl, Int.emod_nonneg _ (by decide), Int.lt_trans (Int.emod_lt_of_pos _ (show (0 : Int) < 3 by decide)) (by decide)⟩
  have kn := kn_two (nm ws 0) (nm ws 1) b0 b1
  refine fun dk hdk => ⟨_, rfl, l, _, 0, _, rfl, rfl, SqL.of (same_upd hdk _ _ el2), x0, _, rfl, a, ns, 1, rfl, (gA.trans (same_upd hdk)).seq hS, by decide, _, _, rfl, rfl, ⟨by decide, by decide, by decide⟩, _, _, rfl, rfl, (show (0 : Int) < 10 ^ 30 by decide), _, rfl, l, _, 1, _, rfl, rfl, SqL.of (same_upd hdk _ _ el2), x1, _, rfl, a, ns, 1, rfl, (gA.trans (same_upd hdk)).seq hS, by decide, _, _, rfl, rfl, (show (0 : Int) < 3 by decide), upd_same, [((Sum.inr (nm ws 0) : Key), V.int n0), ((Sum.inr (nm ws 1) : Key), V.int n1)], (by rw [← en0, ← en1]; rfl), (by show 2 ≤ 15; decide), ?_⟩
  have g4 : Same H2 (upd (upd H2 dk (.dK [])) dk (.dK (mergeK [] [((Sum.inr (nm ws 0) : Key), V.int n0), ((Sum.inr (nm ws 1) : Key), V.int n1)]))) := same_set (same_upd hdk) hdk
  have e4 : (upd (upd H2 dk (.dK [])) dk (.dK (mergeK [] [((Sum.inr (nm ws 0) : Key), V.int n0), ((Sum.inr (nm ws 1) : Key), V.int n1)]))) dk = some (.dK (putK [((Sum.inr (nm ws 0) : Key), V.int n0)] (Sum.inr (nm ws 1)) (V.int n1))) := upd_same
  generalize upd (upd H2 dk (.dK [])) dk (.dK (mergeK [] [((Sum.inr (nm ws 0) : Key), V.int n0), ((Sum.inr (nm ws 1) : Key), V.int n1)])) = H3 at g4 e4 ⊢
  generalize putK [((Sum.inr (nm ws 0) : Key), V.int n0)] (Sum.inr (nm ws 1)) (V.int n1) = kvs at kn e4
  generalize (En.set (fun _ => 0) (nm ws 0) n0).set (nm ws 1) n1 = e at kn
  have gB := gA.trans g4
  have el3 := g4 _ _ el2
  obtain ⟨m0, em0, c0⟩ : ∃ n, ns.getD (2 : Int).toNat 0 % 10 ^ (30 : Int).toNat = n ∧ InB n := ⟨_, rfl, InB.mod _⟩
  obtain ⟨m1, em1, c1⟩ : ∃ n, ns.getD (2 : Int).toNat 0 % 3 = n ∧ InB n := ⟨_, rfl, Int.emod_nonneg _ (by decide), Int.lt_trans (Int.emod_lt_of_pos _ (show (0 : Int) < 3 by decide)) (by decide)⟩
  have an := kn_two (nm ws 1) (nm ws 2) c0 c1
  refine fun da hda => ⟨_, rfl, l, _, 1, _, rfl, rfl, SqL.of (same_upd hda _ _ el3), x1, _, rfl, a, ns, 2, rfl, (gB.trans (same_upd hda)).seq hS, by decide, _, _, rfl, rfl, ⟨by decide, by decide, by decide⟩, _, _, rfl, rfl, (show (0 : Int) < 10 ^ 30 by decide), _, rfl, l, _, 2, _, rfl, rfl, SqL.of (same_upd hda _ _ el3), x2, _, rfl, a, ns, 2, rfl, (gB.trans (same_upd hda)).seq hS, by decide, _, _, rfl, rfl, (show (0 : Int) < 3 by decide), upd_same, [((Sum.inr (nm ws 1) : Key), V.int m0), ((Sum.inr (nm ws 2) : Key), V.int m1)], (by rw [← em0, ← em1]; rfl), (by show 2 ≤ 15; decide), ?_⟩
  have g5 : Same H3 (upd (upd H3 da (.dK [])) da (.dK (mergeK [] [((Sum.inr (nm ws 1) : Key), V.int m0), ((Sum.inr (nm ws 2) : Key), V.int m1)]))) := same_set (same_upd hda) hda
  have e5 : (upd (upd H3 da (.dK [])) da (.dK (mergeK [] [((Sum.inr (nm ws 1) : Key), V.int m0), ((Sum.inr (nm ws 2) : Key), V.int m1)]))) da = some (.dK (putK [((Sum.inr (nm ws 1) : Key), V.int m0)] (Sum.inr (nm ws 2)) (V.int m1))) := upd_same
  generalize upd (upd H3 da (.dK [])) da (.dK (mergeK [] [((Sum.inr (nm ws 1) : Key), V.int m0), ((Sum.inr (nm ws 2) : Key), V.int m1)])) = H4 at g5 e5 ⊢
  generalize putK [((Sum.inr (nm ws 1) : Key), V.int m0)] (Sum.inr (nm ws 2)) (V.int m1) = avs at an e5
  generalize (En.set (fun _ => 0) (nm ws 1) m0).set (nm ws 2) m1 = ask at an
  have e4' := g5 _ _ e4
  have rt4 := rt.mono (g4.trans g5).tk
  refine ⟨_, rfl, dk, kvs, rfl, e4', fun kc hkc => ⟨_, rfl, da, avs, rfl, same_upd hkc _ _ e5, fun ac hac => ⟨d2, fun pk hpk => ?_⟩⟩⟩
  have g6 := same_upd (o := .dK kvs) hkc
  have g7 := same_upd (o := .dK avs) hac
  have g8 := same_upd (o := .lst [.ref kc, .ref ac]) hpk
  have nk : dk ≠ kc := ne_of_none e4' hkc
  have na : da ≠ ac := ne_of_none (g6 _ _ e5) hac
  have f1 := g8 _ _ (g7 _ _ (g6 _ _ e4'))
  have f2 := g8 _ _ (g7 _ _ (g6 _ _ e5))
  have f3 := g8 _ _ (g7 _ _ (upd_same (H := H4) (a := kc) (o := .dK kvs)))
  have f4 := g8 _ _ (upd_same (H := upd H4 kc (.dK kvs)) (a := ac) (o := .dK avs))
  have f5 : (upd (upd (upd H4 kc (.dK kvs)) ac (.dK avs)) pk (.lst [.ref kc, .ref ac])) pk = some (.lst [.ref kc, .ref ac]) := upd_same
  have rt5 := rt4.mono (g6.trans (g7.trans g8)).tk
  generalize upd (upd (upd H4 kc (.dK kvs)) ac (.dK avs)) pk (.lst [.ref kc, .ref ac]) = H5 at f1 f2 f3 f4 f5 rt5 ⊢
  refine ⟨(by show 0 ≤ sizeLine; decide), fun dl hdl => ?_⟩
  have g9 := same_upd (o := .lst []) hdl
  refine ⟨_, rfl, _, rfl, dk, kvs, rfl, g9 _ _ f1, fun k2 hk2 => ?_⟩
  have g10 := same_upd (o := .dK kvs) hk2
  have G10 := g9.trans g10
  obtain ⟨D', r, hev, rb, lD⟩ := ev_all an.bd t e gd.1 gd.2 kn.bd
  have ed0 := g10 _ _ (upd_same (H := H5) (a := dl) (o := .lst []))
  refine ⟨_, rfl, _, rfl, t, tv, .ref k2, .ref da, dl, [], e, ask, [], D', r, 2, rfl, by omega, gd.1, gd.2, rt5.mono G10.tk, ⟨k2, kvs, rfl, upd_same, kn.len, kn.get⟩, by omega, kn.bd, ⟨da, avs, rfl, G10 _ _ f2, by have := an.len; omega, an.get⟩, an.bd, ed0, by simp; omega, .nil, hev, fun u ds H6 k1 hd6 pd6 ru6 => ?_⟩
  rw [List.nil_append] at pd6
  have K6 : ∀ b o, H5 b = some o → H6 b = some o := fun b o h => k1 b o (G10 _ _ h) (ne_of_none h hdl)
  have S6 : Same H5 H6 := K6
  have ndl : pk ≠ dl := ne_of_none f5 hdl
  have env6 : EnvAt H6 500 e (.ref dk) := ⟨dk, kvs, rfl, S6 _ _ f1, by have := kn.len; omega, kn.get⟩
  have asv6 : EnvAt H6 500 ask (.ref da) := ⟨da, avs, rfl, S6 _ _ f2, by have := an.len; omega, an.get⟩
  have h1 := S6 _ _ f1
  have h2 := S6 _ _ f2
  have h3 := S6 _ _ f3
  have h4 := S6 _ _ f4
  have h5 := S6 _ _ f5
  have rt6 := rt5.mono S6.tk
  refine ⟨_, rfl, _, rfl, _, rfl, t, tv, _, _, e, ask, (D', r), rfl, rt6, by omega, gd.2, .inr env6, .inr asv6, kn.bd, an.bd, hev, fun fr dr er dsr H7 dr0 g11 ef7 ed7 pd7 re7 => ?_⟩
  have lds : dsr.length ≤ 121 := by rw [paired_len pd7]; exact Nat.le_trans lD szt
  refine ⟨_, rfl, _, rfl, _, rfl, fr, dr, dl, er, u, dsr, ds, D', endR r, rfl, ef7, ed7, g11 _ _ hd6, pd7, Paired.mapP pd6 fun _ _ z => z.mono g11.tk, re7, ru6.mono g11.tk, by omega, _, rfl, ?_⟩
  have deq : ∀ {H' : Hp}, H' dk = some (.dK kvs) → H' da = some (.dK avs) → H' kc = some (.dK kvs) → H' ac = some (.dK avs) → ∀ (j : Nat) (x y : Addr), [dk, da][j]? = some x → [kc, ac][j]? = some y → DEq H' x y := by
    intro H' w1 w2 w3 w4 j x y hx hy
    match j, hx, hy with
    | 0, hx, hy =>
      cases hx
      cases hy
      exact ⟨nk, kvs, kvs, w1, w3, kn.flat, kn.flat, eq_selfK kn.nd kn.nums⟩
    | 1, hx, hy =>
      cases hx
      cases hy
      exact ⟨na, avs, avs, w2, w4, an.flat, an.flat, eq_selfK an.nd an.nums⟩
    | j + 2, hx, _ => cases hx
  refine ⟨_, rfl, _, rfl, d2, fun pl hpl => ?_⟩
  have g12 := same_upd (o := .lst [.ref dk, .ref da]) hpl
  have G12 := g11.trans g12
  refine ⟨_, rfl, pl, pk, [dk, da], [kc, ac], rfl, rfl, upd_same, G12 _ _ h5, rfl, deq (G12 _ _ h1) (G12 _ _ h2) (G12 _ _ h3) (G12 _ _ h4), _, rfl, ?_⟩
  have ef8 := g12 _ _ ef7
  have ed8 := g12 _ _ ed7
  have k1' := G12 _ _ h1
  have k2' := G12 _ _ h2
  have k3' := G12 _ _ h3
  have k4' := G12 _ _ h4
  have k5' := G12 _ _ h5
  have hd8 := G12 _ _ hd6
  have rt8 := rt6.mono G12.tk
  have pd8 : Paired (RowRep _) D' ds := Paired.mapP pd6 fun _ _ z => z.mono G12.tk
  have ru8 := ru6.mono G12.tk
  have ndr : ∀ b o, H6 b = some o → b ≠ dr := fun b o h => ne_of_none h dr0
  have n5 := ndr _ _ h5
  have n6 := ndr _ _ hd6
  generalize upd H7 pl (.lst [.ref dk, .ref da]) = H8 at ef8 ed8 k1' k2' k3' k4' k5' hd8 rt8 pd8 ru8 ⊢
  refine ⟨_, rfl, fr, _, 0, _, rfl, rfl, SqT.of ef8, rfl, .inl ⟨rfl, _, SqL.of ed8⟩, d2, fun py hpy => ?_⟩
  have g13 := same_upd (o := .tup [.str "say", .int 1]) hpy
  have ed9 := g13 _ _ ed8
  refine ⟨dr, dsr, _, rfl, rfl, ed9, small1000 (by omega), ?_⟩
  have td := TD.lst (o := .lst (dsr ++ [.ref py])) ed9
  have TT := g13.td.trans td
  have l1 := TT.dk _ _ k1'
  have l2 := TT.dk _ _ k2'
  have l3 := TT.dk _ _ k3'
  have l4 := TT.dk _ _ k4'
  have l5 : (upd (upd H8 py (.tup [.str "say", .int 1])) dr (.lst (dsr ++ [.ref py]))) pk = some (.lst [.ref kc, .ref ac]) := by rw [upd_ne n5]; exact g13 _ _ k5'
  have l6 : (upd (upd H8 py (.tup [.str "say", .int 1])) dr (.lst (dsr ++ [.ref py]))) dl = some (.lst ds) := by rw [upd_ne n6]; exact g13 _ _ hd8
  have rt9 := rt8.mono TT.tk
  have pd9 : Paired (RowRep _) D' ds := Paired.mapP pd8 fun _ _ z => z.mono TT.tk
  have ru9 := ru8.mono TT.tk
  generalize upd (upd H8 py (.tup [.str "say", .int 1])) dr (.lst (dsr ++ [.ref py])) = H9 at l1 l2 l3 l4 l5 l6 rt9 pd9 ru9 ⊢
  have env9 : EnvAt H9 500 e (.ref dk) := ⟨dk, kvs, rfl, l1, by have := kn.len; omega, kn.get⟩
  have asv9 : EnvAt H9 500 ask (.ref da) := ⟨da, avs, rfl, l2, by have := an.len; omega, an.get⟩
  refine ⟨_, rfl, _, rfl, _, rfl, t, tv, _, _, e, ask, (D', r), rfl, rt9, by omega, gd.2, .inr env9, .inr asv9, kn.bd, an.bd, hev, fun fr2 dr2 er2 dsr2 HA dr20 gA1 efA edA pdA reA => ?_⟩
  refine ⟨_, rfl, _, rfl, fr2, dr2, dl, er2, u, dsr2, ds, D', endR r, rfl, efA, edA, gA1 _ _ l6, pdA, Paired.mapP pd9 fun _ _ z => z.mono gA1.tk, reA, ru9.mono gA1.tk, by omega, true, rfl, ?_⟩
  refine ⟨_, rfl, _, rfl, d2, fun pm hpm => ?_⟩
  have g14 := same_upd (o := .lst [.ref dk, .ref da]) hpm
  have GZ := gA1.trans g14
  exact ⟨_, rfl, pm, pk, [dk, da], [kc, ac], rfl, rfl, upd_same, GZ _ _ l5, rfl, deq (GZ _ _ l1) (GZ _ _ l2) (GZ _ _ l3) (GZ _ _ l4), q _⟩
end
end K31
set_option Elab.async false
set_option linter.all false
set_option maxRecDepth 100000
set_option maxHeartbeats 4000000
namespace K31
open PySem PySem.Spec L2 PyProof.Rows
theorem us1 : ∀ {us : List Value}, us.length = 1 → ∃ a, us = [a]
  | [a], _ => ⟨a, rfl⟩
theorem us2 : ∀ {us : List Value}, us.length = 2 → ∃ a b, us = [a, b]
  | [a, b], _ => ⟨a, b, rfl⟩
theorem us3 : ∀ {us : List Value}, us.length = 3 → ∃ a b c, us = [a, b, c]
  | [a, b, c], _ => ⟨a, b, c, rfl⟩
theorem all_mk {l : PySem.W.OpenLaw} {w : World} {K : PySem.W.Frag} {h : Heap} {mg : Str → Option Value} {fa C B dt f0 f1 f2 f3 f4 f5 f6 f7 f8 f9 f10 f11 f12 f13 f14 f15 f16 f17 f18 f19 f20 f21 f22 f23 f24 f25 f26 f27 lv : Addr} (X : K.In h) (G : h.Ns mainGlobals mg) (hfa : mg "law" = some (.ref fa))
    {od0 an0 : Option Addr} {sl0 : Array (Option Value)} {oc0 kV0 dc0 pm0 cd0 ct0 : Value}
    {od1 an1 : Option Addr} {sl1 : Array (Option Value)} {oc1 kV1 dc1 pm1 cd1 ct1 : Value}
    {od2 an2 : Option Addr} {sl2 : Array (Option Value)} {oc2 kV2 dc2 pm2 cd2 ct2 : Value}
    {od3 an3 : Option Addr} {sl3 : Array (Option Value)} {oc3 kV3 dc3 pm3 cd3 ct3 : Value}
    {od4 an4 : Option Addr} {sl4 : Array (Option Value)} {oc4 kV4 dc4 pm4 cd4 ct4 : Value}
    {od5 an5 : Option Addr} {sl5 : Array (Option Value)} {oc5 kV5 dc5 pm5 cd5 ct5 : Value}
    {od6 an6 : Option Addr} {sl6 : Array (Option Value)} {oc6 kV6 dc6 pm6 cd6 ct6 : Value}
    {od7 an7 : Option Addr} {sl7 : Array (Option Value)} {oc7 kV7 dc7 pm7 cd7 ct7 : Value}
    {od8 an8 : Option Addr} {sl8 : Array (Option Value)} {oc8 kV8 dc8 pm8 cd8 ct8 : Value}
    {od9 an9 : Option Addr} {sl9 : Array (Option Value)} {oc9 kV9 dc9 pm9 cd9 ct9 : Value}
    {od10 an10 : Option Addr} {sl10 : Array (Option Value)} {oc10 kV10 dc10 pm10 cd10 ct10 : Value}
    {od11 an11 : Option Addr} {sl11 : Array (Option Value)} {oc11 kV11 dc11 pm11 cd11 ct11 : Value}
    {od12 an12 : Option Addr} {sl12 : Array (Option Value)} {oc12 kV12 dc12 pm12 cd12 ct12 : Value}
    {od13 an13 : Option Addr} {sl13 : Array (Option Value)} {oc13 kV13 dc13 pm13 cd13 ct13 : Value}
    {od14 an14 : Option Addr} {sl14 : Array (Option Value)} {oc14 kV14 dc14 pm14 cd14 ct14 : Value}
    {od15 an15 : Option Addr} {sl15 : Array (Option Value)} {oc15 kV15 dc15 pm15 cd15 ct15 : Value}
    {od16 an16 : Option Addr} {sl16 : Array (Option Value)} {oc16 kV16 dc16 pm16 cd16 ct16 : Value}
    {od17 an17 : Option Addr} {sl17 : Array (Option Value)} {oc17 kV17 dc17 pm17 cd17 ct17 : Value}
    {od18 an18 : Option Addr} {sl18 : Array (Option Value)} {oc18 kV18 dc18 pm18 cd18 ct18 : Value}
    {od19 an19 : Option Addr} {sl19 : Array (Option Value)} {oc19 kV19 dc19 pm19 cd19 ct19 : Value}
    {od20 an20 : Option Addr} {sl20 : Array (Option Value)} {oc20 kV20 dc20 pm20 cd20 ct20 : Value}
    {od21 an21 : Option Addr} {sl21 : Array (Option Value)} {oc21 kV21 dc21 pm21 cd21 ct21 : Value}
    {od22 an22 : Option Addr} {sl22 : Array (Option Value)} {oc22 kV22 dc22 pm22 cd22 ct22 : Value}
    {od23 an23 : Option Addr} {sl23 : Array (Option Value)} {oc23 kV23 dc23 pm23 cd23 ct23 : Value}
    {od24 an24 : Option Addr} {sl24 : Array (Option Value)} {oc24 kV24 dc24 pm24 cd24 ct24 : Value}
    {od25 an25 : Option Addr} {sl25 : Array (Option Value)} {oc25 kV25 dc25 pm25 cd25 ct25 : Value}
    {od26 an26 : Option Addr} {sl26 : Array (Option Value)} {oc26 kV26 dc26 pm26 cd26 ct26 : Value}
    {od27 an27 : Option Addr} {sl27 : Array (Option Value)} {oc27 kV27 dc27 pm27 cd27 ct27 : Value}
    {odL odT : Option Addr} {slL slT : Array (Option Value)} {ocT : Value} {nL nT : Nat} {t1 t2 t3 t4 t5 : Tok}
    (aC : PySem.W.nsIn K mainGlobals "NumberCourse" = some (some (.ref C))) (aB : PySem.W.nsIn K mainGlobals "Course" = some (some (.ref B)))
    (a0 : PySem.W.nsIn K mainGlobals "parts_begin" = some (some (.ref f0)))
    (l0 : K.lookup f0 = some ⟨oc0, od0, .func (PySem.W.fnOf "parts_begin" "parts_begin" (defArgs s_parts_begin) (defBody s_parts_begin) (defScope s_parts_begin) .none kV0 dc0 pm0 an0 cd0 ct0), sl0⟩) (c0 : PySem.W.codeIn K cd0 "parts_begin" = true) (k0 : PySem.W.keepIn K (.ref f0) = true)
    (a1 : PySem.W.nsIn K mainGlobals "parts" = some (some (.ref f1)))
    (l1 : K.lookup f1 = some ⟨oc1, od1, .func (PySem.W.fnOf "parts" "parts" (defArgs s_parts) (defBody s_parts) (defScope s_parts) .none kV1 dc1 pm1 an1 cd1 ct1), sl1⟩) (c1 : PySem.W.codeIn K cd1 "parts" = true) (k1 : PySem.W.keepIn K (.ref f1) = true)
    (a2 : PySem.W.nsIn K mainGlobals "wrapped" = some (some (.ref f2)))
    (l2 : K.lookup f2 = some ⟨oc2, od2, .func (PySem.W.fnOf "wrapped" "wrapped" (defArgs s_wrapped) (defBody s_wrapped) (defScope s_wrapped) .none kV2 dc2 pm2 an2 cd2 ct2), sl2⟩) (c2 : PySem.W.codeIn K cd2 "wrapped" = true) (k2 : PySem.W.keepIn K (.ref f2) = true)
    (a3 : PySem.W.nsIn K mainGlobals "reckoned" = some (some (.ref f3)))
    (l3 : K.lookup f3 = some ⟨oc3, od3, .func (PySem.W.fnOf "reckoned" "reckoned" (defArgs s_reckoned) (defBody s_reckoned) (defScope s_reckoned) .none kV3 dc3 pm3 an3 cd3 ct3), sl3⟩) (c3 : PySem.W.codeIn K cd3 "reckoned" = true) (k3 : PySem.W.keepIn K (.ref f3) = true)
    (a4 : PySem.W.nsIn K mainGlobals "with_name" = some (some (.ref f4)))
    (l4 : K.lookup f4 = some ⟨oc4, od4, .func (PySem.W.fnOf "with_name" "with_name" (defArgs s_with_name) (defBody s_with_name) (defScope s_with_name) .none kV4 dc4 pm4 an4 cd4 ct4), sl4⟩) (c4 : PySem.W.codeIn K cd4 "with_name" = true) (k4 : PySem.W.keepIn K (.ref f4) = true)
    (a5 : PySem.W.nsIn K mainGlobals "run_at_first" = some (some (.ref f5)))
    (l5 : K.lookup f5 = some ⟨oc5, od5, .func (PySem.W.fnOf "run_at_first" "run_at_first" (defArgs s_run_at_first) (defBody s_run_at_first) (defScope s_run_at_first) .none kV5 dc5 pm5 an5 cd5 ct5), sl5⟩) (c5 : PySem.W.codeIn K cd5 "run_at_first" = true) (k5 : PySem.W.keepIn K (.ref f5) = true)
    (a6 : PySem.W.findIn K (.ref B) "__init__" = some (some (.ref f6))) (i6 : PySem.W.isFn K (.ref f6) = true) (sgB : PySem.W.specialIn K (.ref B) "__getattribute__" = some (some (.builtin "type.__getattribute__"))) (rdB : PySem.W.readsIn K B (.type "type") = true) (fcB : PySem.W.findCls K (.ref B) (.type "type") "__init__" = some (.val (.ref f6)))
    (l6 : K.lookup f6 = some ⟨oc6, od6, .func (PySem.W.fnOf "__init__" "Course.__init__" (defArgs s_Course___init__) (defBody s_Course___init__) (defScope s_Course___init__) .none kV6 dc6 pm6 an6 cd6 ct6), sl6⟩) (c6 : PySem.W.codeIn K cd6 "Course.__init__" = true) (k6 : PySem.W.keepIn K (.ref f6) = true)
    (a7 : PySem.W.findIn K (.ref C) "__init__" = some (some (.ref f7))) (i7 : PySem.W.isFn K (.ref f7) = true)
    (l7 : K.lookup f7 = some ⟨oc7, od7, .func (PySem.W.fnOf "__init__" "NumberCourse.__init__" (defArgs s_NumberCourse___init__) (defBody s_NumberCourse___init__) (defScope s_NumberCourse___init__) .none kV7 dc7 pm7 an7 cd7 ct7), sl7⟩) (c7 : PySem.W.codeIn K cd7 "NumberCourse.__init__" = true) (k7 : PySem.W.keepIn K (.ref f7) = true)
    (a8 : PySem.W.findIn K (.ref C) "await_run" = some (some (.ref f8))) (i8 : PySem.W.isFn K (.ref f8) = true)
    (l8 : K.lookup f8 = some ⟨oc8, od8, .func (PySem.W.fnOf "await_run" "Course.await_run" (defArgs s_Course_await_run) (defBody s_Course_await_run) (defScope s_Course_await_run) .none kV8 dc8 pm8 an8 cd8 ct8), sl8⟩) (c8 : PySem.W.codeIn K cd8 "Course.await_run" = true) (k8 : PySem.W.keepIn K (.ref f8) = true)
    (a9 : PySem.W.findIn K (.ref C) "await_rest" = some (some (.ref f9))) (i9 : PySem.W.isFn K (.ref f9) = true)
    (l9 : K.lookup f9 = some ⟨oc9, od9, .func (PySem.W.fnOf "await_rest" "Course.await_rest" (defArgs s_Course_await_rest) (defBody s_Course_await_rest) (defScope s_Course_await_rest) .none kV9 dc9 pm9 an9 cd9 ct9), sl9⟩) (c9 : PySem.W.codeIn K cd9 "Course.await_rest" = true) (k9 : PySem.W.keepIn K (.ref f9) = true)
    (a10 : PySem.W.findIn K (.ref C) "end_leaf" = some (some (.ref f10))) (i10 : PySem.W.isFn K (.ref f10) = true)
    (l10 : K.lookup f10 = some ⟨oc10, od10, .func (PySem.W.fnOf "end_leaf" "NumberCourse.end_leaf" (defArgs s_NumberCourse_end_leaf) (defBody s_NumberCourse_end_leaf) (defScope s_NumberCourse_end_leaf) .none kV10 dc10 pm10 an10 cd10 ct10), sl10⟩) (c10 : PySem.W.codeIn K cd10 "NumberCourse.end_leaf" = true) (k10 : PySem.W.keepIn K (.ref f10) = true)
    (a11 : PySem.W.findIn K (.ref C) "end_two" = some (some (.ref f11))) (i11 : PySem.W.isFn K (.ref f11) = true)
    (l11 : K.lookup f11 = some ⟨oc11, od11, .func (PySem.W.fnOf "end_two" "NumberCourse.end_two" (defArgs s_NumberCourse_end_two) (defBody s_NumberCourse_end_two) (defScope s_NumberCourse_end_two) .none kV11 dc11 pm11 an11 cd11 ct11), sl11⟩) (c11 : PySem.W.codeIn K cd11 "NumberCourse.end_two" = true) (k11 : PySem.W.keepIn K (.ref f11) = true)
    (a12 : PySem.W.findIn K (.ref C) "go_by" = some (some (.ref f12))) (i12 : PySem.W.isFn K (.ref f12) = true)
    (l12 : K.lookup f12 = some ⟨oc12, od12, .func (PySem.W.fnOf "go_by" "NumberCourse.go_by" (defArgs s_NumberCourse_go_by) (defBody s_NumberCourse_go_by) (defScope s_NumberCourse_go_by) .none kV12 dc12 pm12 an12 cd12 ct12), sl12⟩) (c12 : PySem.W.codeIn K cd12 "NumberCourse.go_by" = true) (k12 : PySem.W.keepIn K (.ref f12) = true)
    (a13 : PySem.W.findIn K (.ref C) "begin" = some (some (.ref f13))) (i13 : PySem.W.isFn K (.ref f13) = true)
    (l13 : K.lookup f13 = some ⟨oc13, od13, .func (PySem.W.fnOf "begin" "Course.begin" (defArgs s_Course_begin) (defBody s_Course_begin) (defScope s_Course_begin) .none kV13 dc13 pm13 an13 cd13 ct13), sl13⟩) (c13 : PySem.W.codeIn K cd13 "Course.begin" = true) (k13 : PySem.W.keepIn K (.ref f13) = true)
    (a14 : PySem.W.findIn K (.ref C) "go_on" = some (some (.ref f14))) (i14 : PySem.W.isFn K (.ref f14) = true)
    (l14 : K.lookup f14 = some ⟨oc14, od14, .func (PySem.W.fnOf "go_on" "Course.go_on" (defArgs s_Course_go_on) (defBody s_Course_go_on) (defScope s_Course_go_on) .none kV14 dc14 pm14 an14 cd14 ct14), sl14⟩) (c14 : PySem.W.codeIn K cd14 "Course.go_on" = true) (k14 : PySem.W.keepIn K (.ref f14) = true)
    (a15 : PySem.W.findIn K (.ref C) "run_whole" = some (some (.ref f15))) (i15 : PySem.W.isFn K (.ref f15) = true)
    (l15 : K.lookup f15 = some ⟨oc15, od15, .func (PySem.W.fnOf "run_whole" "Course.run_whole" (defArgs s_Course_run_whole) (defBody s_Course_run_whole) (defScope s_Course_run_whole) .none kV15 dc15 pm15 an15 cd15 ct15), sl15⟩) (c15 : PySem.W.codeIn K cd15 "Course.run_whole" = true) (k15 : PySem.W.keepIn K (.ref f15) = true)
    (a16 : PySem.W.nsIn K mainGlobals "run" = some (some (.ref f16)))
    (l16 : K.lookup f16 = some ⟨oc16, od16, .func (PySem.W.fnOf "run" "run" (defArgs s_run) (defBody s_run) (defScope s_run) (.ref dt) kV16 dc16 pm16 an16 cd16 ct16), sl16⟩) (c16 : PySem.W.codeIn K cd16 "run" = true) (k16 : PySem.W.keepIn K (.ref f16) = true)
    (lT : K.lookup dt = some ⟨ocT, odT, .seq #[.none, .none] nT, slT⟩)
    (a17 : PySem.W.nsIn K mainGlobals "_law_cell_at" = some (some (.ref f17)))
    (l17 : K.lookup f17 = some ⟨oc17, od17, .func (PySem.W.fnOf "_law_cell_at" "_law_cell_at" (defArgs s_law_cell_at) (defBody s_law_cell_at) (defScope s_law_cell_at) .none kV17 dc17 pm17 an17 cd17 ct17), sl17⟩) (c17 : PySem.W.codeIn K cd17 "_law_cell_at" = true) (k17 : PySem.W.keepIn K (.ref f17) = true)
    (a18 : PySem.W.nsIn K mainGlobals "_law_whole" = some (some (.ref f18)))
    (l18 : K.lookup f18 = some ⟨oc18, od18, .func (PySem.W.fnOf "_law_whole" "_law_whole" (defArgs s_law_whole) (defBody s_law_whole) (defScope s_law_whole) .none kV18 dc18 pm18 an18 cd18 ct18), sl18⟩) (c18 : PySem.W.codeIn K cd18 "_law_whole" = true) (k18 : PySem.W.keepIn K (.ref f18) = true)
    (a19 : PySem.W.nsIn K mainGlobals "_law_words" = some (some (.ref f19)))
    (l19 : K.lookup f19 = some ⟨oc19, od19, .func (PySem.W.fnOf "_law_words" "_law_words" (defArgs s_law_words) (defBody s_law_words) (defScope s_law_words) .none kV19 dc19 pm19 an19 cd19 ct19), sl19⟩) (c19 : PySem.W.codeIn K cd19 "_law_words" = true) (k19 : PySem.W.keepIn K (.ref f19) = true)
    (a20 : PySem.W.nsIn K mainGlobals "_law_leaf" = some (some (.ref f20)))
    (l20 : K.lookup f20 = some ⟨oc20, od20, .func (PySem.W.fnOf "_law_leaf" "_law_leaf" (defArgs s_law_leaf) (defBody s_law_leaf) (defScope s_law_leaf) .none kV20 dc20 pm20 an20 cd20 ct20), sl20⟩) (c20 : PySem.W.codeIn K cd20 "_law_leaf" = true) (k20 : PySem.W.keepIn K (.ref f20) = true)
    (a21 : PySem.W.nsIn K mainGlobals "_law_put" = some (some (.ref f21)))
    (l21 : K.lookup f21 = some ⟨oc21, od21, .func (PySem.W.fnOf "_law_put" "_law_put" (defArgs s_law_put) (defBody s_law_put) (defScope s_law_put) .none kV21 dc21 pm21 an21 cd21 ct21), sl21⟩) (c21 : PySem.W.codeIn K cd21 "_law_put" = true) (k21 : PySem.W.keepIn K (.ref f21) = true)
    (a22 : PySem.W.nsIn K mainGlobals "_law_program" = some (some (.ref f22)))
    (l22 : K.lookup f22 = some ⟨oc22, od22, .func (PySem.W.fnOf "_law_program" "_law_program" (defArgs s_law_program) (defBody s_law_program) (defScope s_law_program) .none kV22 dc22 pm22 an22 cd22 ct22), sl22⟩) (c22 : PySem.W.codeIn K cd22 "_law_program" = true) (k22 : PySem.W.keepIn K (.ref f22) = true)
    (a23 : PySem.W.nsIn K mainGlobals "_law_leaf_end" = some (some (.ref f23)))
    (l23 : K.lookup f23 = some ⟨oc23, od23, .func (PySem.W.fnOf "_law_leaf_end" "_law_leaf_end" (defArgs s_law_leaf_end) (defBody s_law_leaf_end) (defScope s_law_leaf_end) .none kV23 dc23 pm23 an23 cd23 ct23), sl23⟩) (c23 : PySem.W.codeIn K cd23 "_law_leaf_end" = true) (k23 : PySem.W.keepIn K (.ref f23) = true)
    (a24 : PySem.W.nsIn K mainGlobals "_law_end" = some (some (.ref f24)))
    (l24 : K.lookup f24 = some ⟨oc24, od24, .func (PySem.W.fnOf "_law_end" "_law_end" (defArgs s_law_end) (defBody s_law_end) (defScope s_law_end) .none kV24 dc24 pm24 an24 cd24 ct24), sl24⟩) (c24 : PySem.W.codeIn K cd24 "_law_end" = true) (k24 : PySem.W.keepIn K (.ref f24) = true)
    (a25 : PySem.W.nsIn K mainGlobals "_law_row" = some (some (.ref f25)))
    (l25 : K.lookup f25 = some ⟨oc25, od25, .func (PySem.W.fnOf "_law_row" "_law_row" (defArgs s_law_row) (defBody s_law_row) (defScope s_law_row) .none kV25 dc25 pm25 an25 cd25 ct25), sl25⟩) (c25 : PySem.W.codeIn K cd25 "_law_row" = true) (k25 : PySem.W.keepIn K (.ref f25) = true)
    (a26 : PySem.W.nsIn K mainGlobals "_law_told" = some (some (.ref f26)))
    (l26 : K.lookup f26 = some ⟨oc26, od26, .func (PySem.W.fnOf "_law_told" "_law_told" (defArgs s_law_told) (defBody s_law_told) (defScope s_law_told) .none kV26 dc26 pm26 an26 cd26 ct26), sl26⟩) (c26 : PySem.W.codeIn K cd26 "_law_told" = true) (k26 : PySem.W.keepIn K (.ref f26) = true)
    (a27 : PySem.W.nsIn K mainGlobals "law" = some (some (.ref f27)))
    (l27 : K.lookup f27 = some ⟨oc27, od27, .func (PySem.W.fnOf "law" "law" (defArgs s_law) (defBody s_law) (defScope s_law) .none kV27 dc27 pm27 an27 cd27 ct27), sl27⟩) (c27 : PySem.W.codeIn K cd27 "law" = true) (k27 : PySem.W.keepIn K (.ref f27) = true)
    (aL : PySem.W.nsIn K mainGlobals "LEAF_SIGNS" = some (some (.ref lv))) (lL : K.lookup lv = some ⟨.type "tuple", odL, .seq #[.str "num" t1, .str "name" t2, .str "ask" t3, .str "stop" t4, .str "gap" t5] nL, slL⟩)
    (pg : PySem.W.plainGet K C Str.empty = true) (hd : PySem.W.hasDictIn K C = true) (po : PySem.W.plainOver K C = true) (sa : PySem.W.findIn K (.ref C) "__setattr__" = some (some (.builtin "object.__setattr__"))) (mk : PySem.W.makesIn K C = true) (kc : PySem.W.keepIn K (.ref C) = true)
    (n_asked : PySem.W.findIn K (.ref C) "asked" = some none)
    (n_deeds : PySem.W.findIn K (.ref C) "deeds" = some none)
    (n_ends : PySem.W.findIn K (.ref C) "ends" = some none)
    (n_waiting : PySem.W.findIn K (.ref C) "waiting" = some none)
    (n_halt : PySem.W.findIn K (.ref C) "halt" = some none)
    (z_len : PySem.W.nsIn K mainGlobals "len" = some none)
    (z_range : PySem.W.nsIn K mainGlobals "range" = some none)
    (z_isinstance : PySem.W.nsIn K mainGlobals "isinstance" = some none)
    (z_int : PySem.W.nsIn K mainGlobals "int" = some none)
    (z_bool : PySem.W.nsIn K mainGlobals "bool" = some none)
    (z_str : PySem.W.nsIn K mainGlobals "str" = some none)
    (z_tuple : PySem.W.nsIn K mainGlobals "tuple" = some none)
    (z_list : PySem.W.nsIn K mainGlobals "list" = some none)
    (z_dict : PySem.W.nsIn K mainGlobals "dict" = some none)
    (z_reversed : PySem.W.nsIn K mainGlobals "reversed" = some none)
    (z_max : PySem.W.nsIn K mainGlobals "max" = some none)
    : ∃ fd : FuncData, (∀ (s : Shared) (v : Value), BindsTo s fd ⟨[v], []⟩ [("_law_script", v)]) ∧ ∀ base : Heap, K.In base → base.Ns mainGlobals mg → FnOk l.prog w K mg base CX0 125 fa fd ["_law_script"] (sp_law K) := by
  have e := hfa.symm.trans (PySem.W.mg_of X G a27)
  cases e
  have z_len := PySem.W.mg_none_of X G z_len
  have z_range := PySem.W.mg_none_of X G z_range
  have z_isinstance := PySem.W.mg_none_of X G z_isinstance
  have z_int := PySem.W.mg_none_of X G z_int
  have z_bool := PySem.W.mg_none_of X G z_bool
  have z_str := PySem.W.mg_none_of X G z_str
  have z_tuple := PySem.W.mg_none_of X G z_tuple
  have z_list := PySem.W.mg_none_of X G z_list
  have z_dict := PySem.W.mg_none_of X G z_dict
  have z_reversed := PySem.W.mg_none_of X G z_reversed
  have z_max := PySem.W.mg_none_of X G z_max
  have mL := PySem.W.mg_of X G aL
  have hL : LeafSigns K lv := ⟨_, _, _, lL, rfl, rfl, (by show 5 ≤ sizeLine; decide), .cons ⟨_, rfl⟩ (.cons ⟨_, rfl⟩ (.cons ⟨_, rfl⟩ (.cons ⟨_, rfl⟩ (.cons ⟨_, rfl⟩ .nil))))⟩
  have T : Txt K mg C B f6 := ⟨⟨pg, hd, po, sa⟩, n_asked, n_deeds, n_ends, n_waiting, n_halt, PySem.W.mg_of X G aC, PySem.W.mg_of X G aB, ⟨sgB, ⟨_, rdB, fcB⟩, k6⟩⟩
  have F0 := fun_mk (st := s_parts_begin) l0 c0 k0
  have b0 := F0.binds (ps := ["tree"]) fun _ _ _ _ _ _ us hl => match us, hl with | [_], _ => rfl
  have m0 := PySem.W.mg_of X G a0
  have F1 := fun_mk (st := s_parts) l1 c1 k1
  have b1 := F1.binds (ps := ["tree"]) fun _ _ _ _ _ _ us hl => match us, hl with | [_], _ => rfl
  have m1 := PySem.W.mg_of X G a1
  have F2 := fun_mk (st := s_wrapped) l2 c2 k2
  have b2 := F2.binds (ps := ["number"]) fun _ _ _ _ _ _ us hl => match us, hl with | [_], _ => rfl
  have m2 := PySem.W.mg_of X G a2
  have F3 := fun_mk (st := s_reckoned) l3 c3 k3
  have b3 := F3.binds (ps := ["sign", "one", "other"]) fun _ _ _ _ _ _ us hl => match us, hl with | [_, _, _], _ => rfl
  have m3 := PySem.W.mg_of X G a3
  have F4 := fun_mk (st := s_with_name) l4 c4 k4
  have b4 := F4.binds (ps := ["known", "name", "end"]) fun _ _ _ _ _ _ us hl => match us, hl with | [_, _, _], _ => rfl
  have m4 := PySem.W.mg_of X G a4
  have F5 := fun_mk (st := s_run_at_first) l5 c5 k5
  have b5 := F5.binds (ps := ["tree"]) fun _ _ _ _ _ _ us hl => match us, hl with | [_], _ => rfl
  have m5 := PySem.W.mg_of X G a5
  have F6 := fun_mk (st := s_Course___init__) l6 c6 k6
  have b6 := F6.binds (ps := ["self"]) fun _ _ _ _ _ _ us hl => match us, hl with | [_], _ => rfl
  have F7 := fun_mk (st := s_NumberCourse___init__) l7 c7 k7
  have b7 := F7.binds (ps := ["self", "asked"]) fun _ _ _ _ _ _ us hl => match us, hl with | [_, _], _ => rfl
  have F8 := fun_mk (st := s_Course_await_run) l8 c8 k8
  have b8 := F8.binds (ps := ["self", "tree", "known"]) fun _ _ _ _ _ _ us hl => match us, hl with | [_, _, _], _ => rfl
  have F9 := fun_mk (st := s_Course_await_rest) l9 c9 k9
  have b9 := F9.binds (ps := ["self", "tree", "known"]) fun _ _ _ _ _ _ us hl => match us, hl with | [_, _, _], _ => rfl
  have F10 := fun_mk (st := s_NumberCourse_end_leaf) l10 c10 k10
  have b10 := F10.binds (ps := ["self", "leaf", "known"]) fun _ _ _ _ _ _ us hl => match us, hl with | [_, _, _], _ => rfl
  have F11 := fun_mk (st := s_NumberCourse_end_two) l11 c11 k11
  have b11 := F11.binds (ps := ["self", "sign", "one", "other"]) fun _ _ _ _ _ _ us hl => match us, hl with | [_, _, _, _], _ => rfl
  have F12 := fun_mk (st := s_NumberCourse_go_by) l12 c12 k12
  have b12 := F12.binds (ps := ["self", "end", "tree", "known"]) fun _ _ _ _ _ _ us hl => match us, hl with | [_, _, _, _], _ => rfl
  have F13 := fun_mk (st := s_Course_begin) l13 c13 k13
  have b13 := F13.binds (ps := ["self", "tree", "known"]) fun _ _ _ _ _ _ us hl => match us, hl with | [_, _, _], _ => rfl
  have F14 := fun_mk (st := s_Course_go_on) l14 c14 k14
  have b14 := F14.binds (ps := ["self", "tree", "known"]) fun _ _ _ _ _ _ us hl => match us, hl with | [_, _, _], _ => rfl
  have F15 := fun_mk (st := s_Course_run_whole) l15 c15 k15
  have b15 := F15.binds (ps := ["self", "tree", "known"]) fun _ _ _ _ _ _ us hl => match us, hl with | [_, _, _], _ => rfl
  have F16 := funD_mk (st := s_run) (dvs := [.none, .none]) l16 c16 k16 lT rfl
  have b160 : Binds K (PySem.W.fnOf "run" "run" (defArgs s_run) (defBody s_run) (defScope s_run) (.ref dt) kV16 dc16 pm16 an16 cd16 ct16) ["tree", "known", "asked"] [] := fun s us X hl => by obtain ⟨a, b, c, rfl⟩ := us3 (us := us) (by simpa using hl); first | exact .of_eq rfl | exact PySem.W.binds_K X rfl lT rfl rfl rfl
  have b161 : Binds K (PySem.W.fnOf "run" "run" (defArgs s_run) (defBody s_run) (defScope s_run) (.ref dt) kV16 dc16 pm16 an16 cd16 ct16) ["tree", "known", "asked"] [.none] := fun s us X hl => by obtain ⟨a, b, rfl⟩ := us2 (us := us) (by simpa using hl); exact PySem.W.binds_K X rfl lT rfl rfl rfl
  have b162 : Binds K (PySem.W.fnOf "run" "run" (defArgs s_run) (defBody s_run) (defScope s_run) (.ref dt) kV16 dc16 pm16 an16 cd16 ct16) ["tree", "known", "asked"] [.none, .none] := fun s us X hl => by obtain ⟨a, rfl⟩ := us1 (us := us) (by simpa using hl); exact PySem.W.binds_K X rfl lT rfl rfl rfl
  have m16 := PySem.W.mg_of X G a16
  have F17 := fun_mk (st := s_law_cell_at) l17 c17 k17
  have b17 := F17.binds (ps := ["_law_script", "_law_k"]) fun _ _ _ _ _ _ us hl => match us, hl with | [_, _], _ => rfl
  have m17 := PySem.W.mg_of X G a17
  have F18 := fun_mk (st := s_law_whole) l18 c18 k18
  have b18 := F18.binds (ps := ["_law_found"]) fun _ _ _ _ _ _ us hl => match us, hl with | [_], _ => rfl
  have m18 := PySem.W.mg_of X G a18
  have F19 := fun_mk (st := s_law_words) l19 c19 k19
  have b19 := F19.binds (ps := ["_law_cell"]) fun _ _ _ _ _ _ us hl => match us, hl with | [_], _ => rfl
  have m19 := PySem.W.mg_of X G a19
  have F20 := fun_mk (st := s_law_leaf) l20 c20 k20
  have b20 := F20.binds (ps := ["_law_way", "_law_more", "_law_words_here"]) fun _ _ _ _ _ _ us hl => match us, hl with | [_, _, _], _ => rfl
  have m20 := PySem.W.mg_of X G a20
  have F21 := fun_mk (st := s_law_put) l21 c21 k21
  have b21 := F21.binds (ps := ["_law_row_here", "_law_cell", "_law_words_here"]) fun _ _ _ _ _ _ us hl => match us, hl with | [_, _, _], _ => rfl
  have m21 := PySem.W.mg_of X G a21
  have F22 := fun_mk (st := s_law_program) l22 c22 k22
  have b22 := F22.binds (ps := ["_law_cells", "_law_words_here"]) fun _ _ _ _ _ _ us hl => match us, hl with | [_, _], _ => rfl
  have m22 := PySem.W.mg_of X G a22
  have F23 := fun_mk (st := s_law_leaf_end) l23 c23 k23
  have b23 := F23.binds (ps := ["_law_tree", "_law_known", "_law_asked", "_law_deeds"]) fun _ _ _ _ _ _ us hl => match us, hl with | [_, _, _, _], _ => rfl
  have m23 := PySem.W.mg_of X G a23
  have F24 := fun_mk (st := s_law_end) l24 c24 k24
  have b24 := F24.binds (ps := ["_law_tree", "_law_known", "_law_asked", "_law_deeds"]) fun _ _ _ _ _ _ us hl => match us, hl with | [_, _, _, _], _ => rfl
  have m24 := PySem.W.mg_of X G a24
  have F25 := fun_mk (st := s_law_row) l25 c25 k25
  have b25 := F25.binds (ps := ["_law_found", "_law_due"]) fun _ _ _ _ _ _ us hl => match us, hl with | [_, _], _ => rfl
  have m25 := PySem.W.mg_of X G a25
  have F26 := fun_mk (st := s_law_told) l26 c26 k26
  have b26 := F26.binds (ps := ["_law_found", "_law_deeds", "_law_end_here"]) fun _ _ _ _ _ _ us hl => match us, hl with | [_, _, _], _ => rfl
  have m26 := PySem.W.mg_of X G a26
  have F27 := fun_mk (st := s_law) l27 c27 k27
  have b27 := F27.binds (ps := ["_law_script"]) fun _ _ _ _ _ _ us hl => match us, hl with | [_], _ => rfl
  have m27 := PySem.W.mg_of X G a27
  refine ⟨PySem.W.fnOf "law" "law" (defArgs s_law) (defBody s_law) (defScope s_law) .none kV27 dc27 pm27 an27 cd27 ct27, fun s v => .of_eq rfl, fun base _ _ => ?_⟩
  have G0 : FnB l.prog w K mg base 1 "parts_begin" f0 _ _ _ := ⟨ok_parts_begin F0 z_len mL hL, b0, k0, m0⟩
  have G1 : FnB l.prog w K mg base 2 "parts" f1 _ _ _ := ⟨ok_parts F1 (G0.up (k := 1) (by decide)), b1, k1, m1⟩
  have G2 : FnB l.prog w K mg base 1 "wrapped" f2 _ _ _ := ⟨ok_wrapped F2, b2, k2, m2⟩
  have G3 : FnB l.prog w K mg base 2 "reckoned" f3 _ _ _ := ⟨ok_reckoned F3 (G2.up (k := 1) (by decide)), b3, k3, m3⟩
  have G4 : FnB l.prog w K mg base 1 "with_name" f4 _ _ _ := ⟨ok_with_name F4 z_dict, b4, k4, m4⟩
  have G5 : FnB l.prog w K mg base 3 "run_at_first" f5 _ _ _ := ⟨ok_run_at_first F5 (G1.up (k := 2) (by decide)), b5, k5, m5⟩
  have G6 : FnM l.prog w K mg base 1 B "__init__" f6 _ _ _ := ⟨ok_binit F6 T, b6, ⟨a6, i6, k6⟩⟩
  have G7 : FnM l.prog w K mg base 4 C "__init__" f7 _ _ _ := ⟨ok_init F7 T (G6.up (k := 3) (by decide)), b7, ⟨a7, i7, k7⟩⟩
  have G8 : FnM l.prog w K mg base 1 C "await_run" f8 _ _ _ := ⟨ok_await_run F8 T, b8, ⟨a8, i8, k8⟩⟩
  have G9 : FnM l.prog w K mg base 1 C "await_rest" f9 _ _ _ := ⟨ok_await_rest F9 T, b9, ⟨a9, i9, k9⟩⟩
  have G10 : FnM l.prog w K mg base 1 C "end_leaf" f10 _ _ _ := ⟨ok_end_leaf F10 T, b10, ⟨a10, i10, k10⟩⟩
  have G11 : FnM l.prog w K mg base 3 C "end_two" f11 _ _ _ := ⟨ok_end_two F11 T (G3.up (k := 2) (by decide)), b11, ⟨a11, i11, k11⟩⟩
  have G12 : FnM l.prog w K mg base 2 C "go_by" f12 _ _ _ := ⟨ok_go_by F12 T (G8.up (k := 1) (by decide)), b12, ⟨a12, i12, k12⟩⟩
  have G13 : FnM l.prog w K mg base 4 C "begin" f13 _ _ _ := ⟨ok_begin F13 T z_reversed mL hL (G5.up (k := 3) (by decide)) (G10.up (k := 3) (by decide)) (G9.up (k := 3) (by decide)) (G8.up (k := 3) (by decide)), b13, ⟨a13, i13, k13⟩⟩
  have G14 : FnM l.prog w K mg base 4 C "go_on" f14 _ _ _ := ⟨ok_go_on F14 T (G4.up (k := 3) (by decide)) (G11.up (k := 3) (by decide)) (G12.up (k := 3) (by decide)) (G8.up (k := 3) (by decide)), b14, ⟨a14, i14, k14⟩⟩
  have G15 : FnM l.prog w K mg base 5 C "run_whole" f15 _ _ _ := ⟨ok_rwhole F15 T (G8.up (k := 4) (by decide)) (G13.up (k := 4) (by decide)) (G14.up (k := 4) (by decide)), b15, ⟨a15, i15, k15⟩⟩
  have G16 : FnD l.prog w K mg base 6 "run" f16 _ _ _ := ⟨ok_run F16 T ⟨mk, a7, i7, kc⟩ (G7.up (k := 4) (by decide)) (G15.up (k := 5) (by decide)), b160, b161, b162, k16, m16⟩
  have G17 : FnB l.prog w K mg base 1 "_law_cell_at" f17 _ _ _ := ⟨ok_cell_at F17 z_len, b17, k17, m17⟩
  have G18 : FnB l.prog w K mg base 1 "_law_whole" f18 _ _ _ := ⟨ok_whole F18 z_isinstance z_int z_bool, b18, k18, m18⟩
  have G19 : FnB l.prog w K mg base 1 "_law_words" f19 _ _ _ := ⟨ok_words F19 z_range z_len z_int, b19, k19, m19⟩
  have G20 : FnB l.prog w K mg base 1 "_law_leaf" f20 _ _ _ := ⟨ok_leaf F20, b20, k20, m20⟩
  have G21 : FnB l.prog w K mg base 2 "_law_put" f21 _ _ _ := ⟨ok_put F21 z_len z_max z_tuple (G20.up (k := 1) (by decide)), b21, k21, m21⟩
  have G22 : FnB l.prog w K mg base 3 "_law_program" f22 _ _ _ := ⟨ok_program F22 z_len z_range (G21.up (k := 2) (by decide)), b22, k22, m22⟩
  have G23 : FnB l.prog w K mg base 1 "_law_leaf_end" f23 _ _ _ := ⟨ok_leaf_end F23, b23, k23, m23⟩
  have G25 : FnB l.prog w K mg base 2 "_law_row" f25 _ _ _ := ⟨ok_row F25 z_isinstance z_tuple z_str z_len (G18.up (k := 1) (by decide)), b25, k25, m25⟩
  have G26 : FnB l.prog w K mg base 3 "_law_told" f26 _ _ _ := ⟨ok_told F26 z_isinstance z_tuple z_list z_len z_range (G25.up (k := 2) (by decide)), b26, k26, m26⟩
  have G24 := all_end F24 b24 m24 z_dict (G23.up (k := 1) (by decide)) 122
  exact ok_law F27 z_dict (G19.up (k := 124) (by decide)) (G17.up (k := 124) (by decide)) (G22.up (k := 124) (by decide)) (G24.up (k := 124) (by decide)) (G26.up (k := 124) (by decide)) (G16.up (k := 124) (by decide))
theorem walk {l : PySem.W.OpenLaw} {q : Program} {loose : List Str} {XP : (Str → Option Value) → Heap → Prop} {YP : World → Heap → Prop} {d : DefRec} {K : Params → PySem.W.Frag} (hn : l.most = some 63) (hdf : d.params.defaults = [])
    (hY : ∀ (w : World) (h : Heap), YP w h → (K w.params).In h)
    (F : ∀ (w : World) (mg : Str → Option Value) (fa : Addr) (h : Heap), (K w.params).In h → h.Ns mainGlobals mg → mg d.name = some (.ref fa) →
      ∃ fd : FuncData, (∀ (s : Shared) (u : Value), BindsTo s fd ⟨[u], []⟩ [("_law_script", u)]) ∧ ∀ base : Heap, (K w.params).In base → base.Ns mainGlobals mg → FnOk l.prog w (K w.params) mg base CX0 125 fa fd ["_law_script"] (sp_law (K w.params))) :
    PySem.W.WalkO q loose XP YP l.row.toRowW d [] (fun f vs => PySem.call f vs) :=
  L2.walk_of (n := 63) (k := 125) (x := "_law_script") (CX := fun _ => CX0) (sp := fun w => sp_law (K w.params)) hn (by decide) hdf ⟨rfl, by decide, by decide⟩ hY F (fun _ _ a ns hl _ hS => ⟨a, ns, rfl, hS, hl, fun _ => rfl⟩) fun _ _ _ _ _ z => z
end K31
open PySem PySem.W PyProof.Rows
set_option maxRecDepth 100000 in
set_option maxHeartbeats 0 in
theorem PySem.Challenge.cw_recastle_k31_whole_run_holds : PySem.Challenge.rw_recastle_k31_whole_run.Holds := by
  w_on; o_law; k_head; (case hw => w_witness2)
  k_fill
  refine K31.walk (l := PySem.Challenge.rw_recastle_k31_whole_run) rfl rfl (fun w h Y => PySem.W.kIn_of Y) ?F
  case F =>
    intro w mg fa h KX G hmg
    refine' K31.all_mk KX G hmg ?aC ?aB ?a0 ?l0 ?c0 ?k0 ?a1 ?l1 ?c1 ?k1 ?a2 ?l2 ?c2 ?k2 ?a3 ?l3 ?c3 ?k3 ?a4 ?l4 ?c4 ?k4 ?a5 ?l5 ?c5 ?k5 ?a6 ?i6 ?sgB ?rdB ?fcB ?l6 ?c6 ?k6 ?a7 ?i7 ?l7 ?c7 ?k7 ?a8 ?i8 ?l8 ?c8 ?k8 ?a9 ?i9 ?l9 ?c9 ?k9 ?a10 ?i10 ?l10 ?c10 ?k10 ?a11 ?i11 ?l11 ?c11 ?k11 ?a12 ?i12 ?l12 ?c12 ?k12 ?a13 ?i13 ?l13 ?c13 ?k13 ?a14 ?i14 ?l14 ?c14 ?k14 ?a15 ?i15 ?l15 ?c15 ?k15 ?a16 ?l16 ?c16 ?k16 ?lT ?a17 ?l17 ?c17 ?k17 ?a18 ?l18 ?c18 ?k18 ?a19 ?l19 ?c19 ?k19 ?a20 ?l20 ?c20 ?k20 ?a21 ?l21 ?c21 ?k21 ?a22 ?l22 ?c22 ?k22 ?a23 ?l23 ?c23 ?k23 ?a24 ?l24 ?c24 ?k24 ?a25 ?l25 ?c25 ?k25 ?a26 ?l26 ?c26 ?k26 ?a27 ?l27 ?c27 ?k27 ?aL ?lL ?pg ?hd ?po ?sa ?mk ?kc ?n_asked ?n_deeds ?n_ends ?n_waiting ?n_halt ?z_len ?z_range ?z_isinstance ?z_int ?z_bool ?z_str ?z_tuple ?z_list ?z_dict ?z_reversed ?z_max
    (case aC => k_is); (case aB => k_is); (case a0 => k_is); (case l0 => k_is)
    (case c0 => k_is); (case k0 => k_is); (case a1 => k_is); (case l1 => k_is)
    (case c1 => k_is); (case k1 => k_is); (case a2 => k_is); (case l2 => k_is)
    (case c2 => k_is); (case k2 => k_is); (case a3 => k_is); (case l3 => k_is)
    (case c3 => k_is); (case k3 => k_is); (case a4 => k_is); (case l4 => k_is)
    (case c4 => k_is); (case k4 => k_is); (case a5 => k_is); (case l5 => k_is)
    (case c5 => k_is); (case k5 => k_is); (case a6 => k_is); (case i6 => k_is)
    (case sgB => k_is); (case rdB => k_is); (case fcB => k_is); (case l6 => k_is)
    (case c6 => k_is); (case k6 => k_is); (case a7 => k_is); (case i7 => k_is)
    (case l7 => k_is); (case c7 => k_is); (case k7 => k_is); (case a8 => k_is)
    (case i8 => k_is); (case l8 => k_is); (case c8 => k_is); (case k8 => k_is)
    (case a9 => k_is); (case i9 => k_is); (case l9 => k_is); (case c9 => k_is)
    (case k9 => k_is); (case a10 => k_is); (case i10 => k_is); (case l10 => k_is)
    (case c10 => k_is); (case k10 => k_is); (case a11 => k_is); (case i11 => k_is)
    (case l11 => k_is); (case c11 => k_is); (case k11 => k_is); (case a12 => k_is)
    (case i12 => k_is); (case l12 => k_is); (case c12 => k_is); (case k12 => k_is)
    (case a13 => k_is); (case i13 => k_is); (case l13 => k_is); (case c13 => k_is)
    (case k13 => k_is); (case a14 => k_is); (case i14 => k_is); (case l14 => k_is)
    (case c14 => k_is); (case k14 => k_is); (case a15 => k_is); (case i15 => k_is)
    (case l15 => k_is); (case c15 => k_is); (case k15 => k_is); (case a16 => k_is)
    (case l16 => k_is); (case c16 => k_is); (case k16 => k_is); (case lT => k_is)
    (case a17 => k_is); (case l17 => k_is); (case c17 => k_is); (case k17 => k_is)
    (case a18 => k_is); (case l18 => k_is); (case c18 => k_is); (case k18 => k_is)
    (case a19 => k_is); (case l19 => k_is); (case c19 => k_is); (case k19 => k_is)
    (case a20 => k_is); (case l20 => k_is); (case c20 => k_is); (case k20 => k_is)
    (case a21 => k_is); (case l21 => k_is); (case c21 => k_is); (case k21 => k_is)
    (case a22 => k_is); (case l22 => k_is); (case c22 => k_is); (case k22 => k_is)
    (case a23 => k_is); (case l23 => k_is); (case c23 => k_is); (case k23 => k_is)
    (case a24 => k_is); (case l24 => k_is); (case c24 => k_is); (case k24 => k_is)
    (case a25 => k_is); (case l25 => k_is); (case c25 => k_is); (case k25 => k_is)
    (case a26 => k_is); (case l26 => k_is); (case c26 => k_is); (case k26 => k_is)
    (case a27 => k_is); (case l27 => k_is); (case c27 => k_is); (case k27 => k_is)
    (case aL => k_is); (case lL => k_is); (case pg => k_is); (case hd => k_is)
    (case po => k_is); (case sa => k_is); (case mk => k_is); (case kc => k_is)
    (case n_asked => k_is); (case n_deeds => k_is); (case n_ends => k_is); (case n_waiting => k_is)
    (case n_halt => k_is); (case z_len => k_is); (case z_range => k_is); (case z_isinstance => k_is)
    (case z_int => k_is); (case z_bool => k_is); (case z_str => k_is); (case z_tuple => k_is)
    (case z_list => k_is); (case z_dict => k_is); (case z_reversed => k_is); (case z_max => k_is)
#print axioms PySem.Challenge.cw_recastle_k31_whole_run_holds