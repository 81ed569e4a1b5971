import PyProof.Rows.All
import Wide.All
import OpenK.AllK
import Wide.FinOn
import Lean
import PyProof.EqAt
import PyProof.EqKinds
import PyProof.TupleCall
import PyProof.NeKinds
import PyProof.AttrMissHeap
import KE.KDictOf
import KE.KDictLaws
import KE.KSortTup
import PyProof.Rows.SortWalk
import PyProof.Rows.SortShellK
import PySem.Challenge.RW_recastle_k05_renamed
set_option Elab.async false
set_option linter.all false
set_option maxRecDepth 100000
namespace L2
open PySem PySem.Spec PyProof.Rows
abbrev Key := Sum Int Str
def keyIs : Key → Value → Bool
  | .inl k, v => Value.isInt k v
  | .inr x, v => Value.isStrOf x v
def keyH (w : World) : Key → Int
  | .inl k => hashInt k
  | .inr x => hashStr w x
theorem keyIs_shape : ∀ {k : Key} {v : Value}, keyIs k v = true → (∃ i t, k = Sum.inl i ∧ v = Value.int i t) ∨ (∃ x t, k = Sum.inr x ∧ v = Value.str x t)
  | .inl i, v, h => by
    obtain ⟨t, e⟩ := Value.isInt_shape (k := i) (v := v) h
    exact .inl ⟨i, t, rfl, e⟩
  | .inr x, v, h => by
    obtain ⟨t, e⟩ := Value.isStrOf_shape (x := x) (v := v) h
    exact .inr ⟨x, t, rfl, e⟩
theorem keyIs_int (i : Int) (t : Tok) : keyIs (.inl i) (.int i t) = true := by simp [keyIs, Value.isInt]
theorem keyIs_str (x : Str) (t : Tok) : keyIs (.inr x) (.str x t) = true := by simp [keyIs, Value.isStrOf]
theorem key_ll (a b : Int) : decide ((Sum.inl a : Key) = Sum.inl b) = (a == b) := by
  by_cases e : a = b
  · subst e; simp
  · have h : ¬ (Sum.inl a : Key) = Sum.inl b := fun q => e (Sum.inl.inj q)
    rw [decide_eq_false h]
    exact (beq_eq_false_iff_ne.mpr e).symm
theorem key_rr (a b : Str) : decide ((Sum.inr a : Key) = Sum.inr b) = decide (a = b) := by
  by_cases e : a = b
  · subst e; simp
  · have h : ¬ (Sum.inr a : Key) = Sum.inr b := fun q => e (Sum.inr.inj q)
    rw [decide_eq_false h, decide_eq_false e]
theorem key_lr (a : Int) (b : Str) : decide ((Sum.inl a : Key) = Sum.inr b) = false := decide_eq_false (fun q => nomatch q)
theorem key_rl (a : Str) (b : Int) : decide ((Sum.inr a : Key) = Sum.inl b) = false := decide_eq_false (fun q => nomatch q)
def mixKind (prog : Program) (w : World) : PySem.KeyKind prog w Key where
  is := keyIs
  hash := keyH w
  inj := fun v a b ha hb => by
    rcases keyIs_shape ha with ⟨i, t, rfl, rfl⟩ | ⟨x, t, rfl, rfl⟩
    · rcases keyIs_shape hb with ⟨j, u, rfl, e⟩ | ⟨y, u, rfl, e⟩
      · injection e with e1 _; rw [e1]
      · exact nomatch e
    · rcases keyIs_shape hb with ⟨j, u, rfl, e⟩ | ⟨y, u, rfl, e⟩
      · exact nomatch e
      · injection e with e1 _; rw [e1]
  byValue := fun k v h => by
    rcases keyIs_shape h with ⟨i, t, rfl, rfl⟩ | ⟨x, t, rfl, rfl⟩ <;> rfl
  pyHash := fun hv h => by
    rcases keyIs_shape hv with ⟨i, t, rfl, rfl⟩ | ⟨x, t, rfl, rfl⟩
    · exact wpAny_pyHash_int h
    · exact wpAny_pyHash_str h
  eqBool := fun hu hv h => by
    rcases keyIs_shape hu with ⟨i, t, rfl, rfl⟩ | ⟨x, t, rfl, rfl⟩
    · rcases keyIs_shape hv with ⟨j, u, rfl, rfl⟩ | ⟨y, u, rfl, rfl⟩
      · rw [key_ll] at h; exact wpAny_eqBool_int h
      · rw [key_lr] at h; exact SeqAt.EqAt.int_str i t y u _ _ _ _ h
    · rcases keyIs_shape hv with ⟨j, u, rfl, rfl⟩ | ⟨y, u, rfl, rfl⟩
      · rw [key_rl] at h; exact SeqAt.EqAt.str_int x t j u _ _ _ _ h
      · rw [key_rr] at h; exact wpAny_eqBool_str h
  «strs» := fun k x t v h => by
    rcases keyIs_shape h with ⟨i, u, rfl, e⟩ | ⟨y, u, rfl, e⟩
    · exact nomatch e
    · injection e with e1 _
      subst e1
      cases v <;> rfl
theorem mixKind_int (prog : Program) (w : World) (i : Int) (t : Tok) : (mixKind prog w).is (.inl i) (.int i t) = true := keyIs_int i t
theorem mixKind_str (prog : Program) (w : World) (x : Str) (t : Tok) : (mixKind prog w).is (.inr x) (.str x t) = true := keyIs_str x t
end L2
namespace L2
open PySem PySem.Spec PyProof.Rows
inductive V where
  | non | bl (b : Bool) | int (i : Int) | str (x : Str) | byt (b : Array UInt8) | flt (b : UInt64) | ref (a : Addr) | ty (n : String)
  deriving DecidableEq
def RelV : V → Value → Prop
  | .non, u => u = Value.none
  | .bl b, u => u = Value.bool b
  | .int i, u => ∃ t, u = Value.int i t
  | .str x, u => ∃ t, u = Value.str x t
  | .byt b, u => ∃ t, u = Value.bytes b t
  | .flt b, u => ∃ t, u = Value.float b t
  | .ref a, u => u = Value.ref a
  | .ty n, u => u = Value.type n
abbrev Vals : List V → List Value → Prop := Paired RelV
theorem Vals.length {xs : List V} {us : List Value} (r : Vals xs us) : xs.length = us.length := Paired.length r
theorem Vals.get : ∀ {xs : List V} {us : List Value} {i : Nat} {x : V}, Vals xs us → xs[i]? = some x → ∃ u, us[i]? = some u ∧ RelV x u
  | _, _, _, _, .nil, e => by simp at e
  | _, _, 0, _, .cons r _, e => by simp at e; subst e; exact ⟨_, rfl, r⟩
  | _, _, i + 1, x, .cons _ t, e => by
    obtain ⟨u, h1, h2⟩ := Vals.get (i := i) (x := x) t (by simpa using e)
    exact ⟨u, by simpa using h1, h2⟩
theorem Vals.append : ∀ {xs ys : List V} {us ws : List Value}, Vals xs us → Vals ys ws → Vals (xs ++ ys) (us ++ ws)
  | _, _, _, _, .nil, s => s
  | _, _, _, _, .cons r t, s => .cons r (Vals.append t s)
theorem Vals.take : ∀ {xs : List V} {us : List Value} (n : Nat), Vals xs us → Vals (xs.take n) (us.take n)
  | _, _, 0, _ => .nil
  | _, _, _ + 1, .nil => .nil
  | _, _, n + 1, .cons r t => .cons r (Vals.take n t)
theorem Vals.drop : ∀ {xs : List V} {us : List Value} (n : Nat), Vals xs us → Vals (xs.drop n) (us.drop n)
  | _, _, 0, r => r
  | _, _, _ + 1, .nil => .nil
  | _, _, n + 1, .cons _ t => Vals.drop n t
def RelO : Option V → Option Value → Prop
  | some v, some u => RelV v u
  | none, none => True
  | _, _ => False
def KV {κ : Type} : List (κ × V) → List (κ × Value) → Prop := Paired fun (p : κ × V) (q : κ × Value) => p.1 = q.1 ∧ RelV p.2 q.2
def kV : Key → V
  | .inl i => .int i
  | .inr x => .str x
inductive HO where
  | lst (xs : List V)
  | tup (xs : List V)
  | dK (kvs : List (Key × V)) | dT (kvs : List (List Key × V))
  | set (S : Int → Bool) (n : Nat)
  | ins (C dx : Addr) (fs : List (Str × V))
  | own (x : Addr)
  | xd (fs : List (Str × V))
  | met (f x : Addr)
  | rng (lo hi : Int)
  | frz (o : Obj) (u : HO)
  | tbl (ps : Array Value)
  | ext (φ : Heap → Prop)
abbrev Hp := Addr → Option HO
def upd (H : Hp) (a : Addr) (o : HO) : Hp := fun b => if b = a then some o else H b
theorem upd_same {H : Hp} {a : Addr} {o : HO} : upd H a o a = some o := by unfold upd; rw [if_pos rfl]
theorem upd_ne {H : Hp} {a b : Addr} {o : HO} (h : b ≠ a) : upd H a o b = H b := by unfold upd; rw [if_neg h]
theorem upd_upd {H : Hp} {a : Addr} {o u : HO} : upd (upd H a o) a u = upd H a u := by
  funext b; unfold upd; split <;> rfl
theorem ne_of {H : Hp} {a b : Addr} {o u : HO} (h : H a = some o) (h' : H b = some u) (d : o ≠ u) : a ≠ b := by
  intro e; subst e; rw [h] at h'; exact d (Option.some.inj h')
theorem ne_of_none {H : Hp} {a b : Addr} {o : HO} (h : H a = some o) (h' : H b = none) : a ≠ b := by
  intro e; subst e; rw [h] at h'; cases h'
section
variable (P : Program) (w : World)
def ObjOk (H : Hp) (h : Heap) (a : Addr) : HO → Prop
  | .lst xs => xs.length ≤ sizeLine ∧ ∃ (its : List Value) (n : Nat), Vals xs its ∧ h.get? a = some { cls := .type "list", data := .seq its.toArray n }
  | .tup xs => xs.length ≤ sizeLine ∧ ∃ its : List Value, Vals xs its ∧ IsTup h a its.toArray
  | .dK kvs => kvs.length ≤ sizeLine ∧ (a == sysModules) = false ∧ ∃ vs, KV kvs vs ∧ h.DictOf (mixKind P w) a vs
  | .dT kvs => kvs.length ≤ sizeLine ∧ (a == sysModules) = false ∧ ∃ xs : List (List Key × Addr × Value),
      Paired (fun (p : List Key × V) (q : List Key × Addr × Value) => p.1 = q.1 ∧ H q.2.1 = some (.tup (p.1.map kV)) ∧ RelV p.2 q.2.2) kvs xs ∧
      ∃ o es ep, h.get? a = some o ∧ o.ExactDict ∧ o.data = .dict es ep ∧ es.toList = xs.map (entryOfKey (tupleKind (mixKind P w))) ∧ (xs.map (·.1)).Nodup
  | .set S n => h.SetOf (intKind P w) a S n
  | .ins C dx fs => H dx = some (.own a) ∧ fs.length ≤ 1000 ∧ dx ≠ a ∧ h.get? a = some (PySem.W.instObj C dx) ∧
      ∃ mA, h.Ns1 dx mA ∧ (∀ f, RelO (fs.lookup f) (mA f)) ∧ PySem.Within mA (fs.map (·.1))
  | .own _ => ∃ o, h.get? a = some o
  | .xd fs => ∃ mA, h.Ns1 a mA ∧ ∀ f, RelO (fs.lookup f) (mA f)
  | .rng lo hi => ∃ t u v, h.get? a = some { cls := .type "range", data := .fields #[.int lo t, .int hi u, .int 1 v] }
  | .frz o u => h.get? a = some o ∧ ObjOk H h a u
  | .tbl ps => h.get? a = some { cls := .none, data := .fields ps }
  | .met f x => h.get? a = some (PySem.W.methodObj (.ref f) (.ref x))
  | .ext φ => φ h ∧ (∃ o, h.get? a = some o) ∧ ∀ h1 h2 : Heap, φ h1 → (∀ o, h1.get? a = some o → h2.get? a = some o) → φ h2
def HOk (H : Hp) (h : Heap) : Prop := ∀ a o, H a = some o → ObjOk P w H h a o
end
section
variable {P : Program} {w : World} {H H' : Hp} {h h' : Heap} {a : Addr} {o : HO}
theorem ObjOk.lt (x : ObjOk P w H h a o) : a < h.objs.size := by
  cases o with
  | lst xs => obtain ⟨_, _, _, _, e⟩ := x; exact Heap.lt_size e
  | tup xs => obtain ⟨_, _, _, p⟩ := x; exact p.lt
  | dK kvs => obtain ⟨_, _, _, _, o, _, _, e, _⟩ := x; exact Heap.lt_size e
  | dT kvs => obtain ⟨_, _, _, _, o, _, _, e, _⟩ := x; exact Heap.lt_size e
  | set S n => obtain ⟨o, _, _, _, e, _⟩ := x; exact Heap.lt_size e
  | ins C dx fs => obtain ⟨_, _, _, e, _⟩ := x; exact Heap.lt_size e
  | own y => obtain ⟨_, e⟩ := x; exact Heap.lt_size e
  | xd fs => obtain ⟨_, ⟨_, _, _, e, _⟩, _⟩ := x; exact Heap.lt_size e
  | rng lo hi => obtain ⟨_, _, _, e⟩ := x; exact Heap.lt_size e
  | frz ob u => obtain ⟨e, _⟩ := x; exact Heap.lt_size e
  | tbl ps => exact Heap.lt_size (show h.get? a = some _ from x)
  | met f y => exact Heap.lt_size (show h.get? a = some _ from x)
  | ext φ => obtain ⟨_, ⟨_, e⟩, _⟩ := x; exact Heap.lt_size e
theorem Paired.mapP {α β : Type} {F G : α → β → Prop} : ∀ {l₁ : List α} {l₂ : List β}, Paired F l₁ l₂ → (∀ a b, F a b → G a b) → Paired G l₁ l₂
  | _, _, .nil, _ => .nil
  | _, _, .cons r t, f => .cons (f _ _ r) (Paired.mapP t f)
theorem ObjOk.stay (x : ObjOk P w H h a o) (k : ∀ b u, (b = a ∨ H b = some (.own a)) → h.get? b = some u → h'.get? b = some u)
    (ho : ∀ b, H b = some (.own a) → H' b = some (.own a)) (ht : ∀ b xs, H b = some (.tup xs) → H' b = some (.tup xs)) : ObjOk P w H' h' a o := by
  induction o with
  | lst xs => obtain ⟨z, its, n, r, e⟩ := x; exact ⟨z, its, n, r, k _ _ (.inl rfl) e⟩
  | tup xs => obtain ⟨z, its, r, ob, e, c⟩ := x; exact ⟨z, its, r, ob, k _ _ (.inl rfl) e, c⟩
  | dK kvs => obtain ⟨z, y, vs, r, ob, es, ep, e, c⟩ := x; exact ⟨z, y, vs, r, ob, es, ep, k _ _ (.inl rfl) e, c⟩
  | dT kvs =>
    obtain ⟨z, y, xs, r, ob, es, ep, e, c⟩ := x
    exact ⟨z, y, xs, Paired.mapP r fun p q z => ⟨z.1, ht _ _ z.2.1, z.2.2⟩, ob, es, ep, k _ _ (.inl rfl) e, c⟩
  | set S n => obtain ⟨ob, es, ep, t, e, c⟩ := x; exact ⟨ob, es, ep, t, k _ _ (.inl rfl) e, c⟩
  | ins C dx fs =>
    obtain ⟨d, z, ne, e, mA, ⟨od, es, ep, e2, c⟩, r⟩ := x
    exact ⟨ho _ d, z, ne, k _ _ (.inl rfl) e, mA, ⟨od, es, ep, k _ _ (.inr d) e2, c⟩, r⟩
  | own y => obtain ⟨ob, e⟩ := x; exact ⟨ob, k _ _ (.inl rfl) e⟩
  | xd fs => obtain ⟨mA, ⟨od, es, ep, e, c⟩, r⟩ := x; exact ⟨mA, ⟨od, es, ep, k _ _ (.inl rfl) e, c⟩, r⟩
  | rng lo hi => obtain ⟨t, u, v, e⟩ := x; exact ⟨t, u, v, k _ _ (.inl rfl) e⟩
  | frz ob u ih => obtain ⟨e, q⟩ := x; exact ⟨k _ _ (.inl rfl) e, ih q⟩
  | tbl ps =>
    have e : h.get? a = some { cls := .none, data := .fields ps } := x
    show h'.get? a = some { cls := .none, data := .fields ps }
    exact k a _ (.inl rfl) e
  | met f y =>
    have e : h.get? a = some (PySem.W.methodObj (.ref f) (.ref y)) := x
    show h'.get? a = some (PySem.W.methodObj (.ref f) (.ref y))
    exact k a _ (.inl rfl) e
  | ext φ => obtain ⟨p, ⟨o, e⟩, st⟩ := x; exact ⟨st _ _ p fun o q => k _ _ (.inl rfl) q, ⟨o, k _ _ (.inl rfl) e⟩, st⟩
theorem HOk.lt (x : HOk P w H h) (e : H a = some o) : a < h.objs.size := (x a o e).lt
theorem HOk.fresh (x : HOk P w H h) (e : h.objs.size ≤ a) : H a = none := by
  cases q : H a with
  | none => rfl
  | some u => exact absurd (Nat.lt_of_lt_of_le (x.lt q) e) (Nat.lt_irrefl _)
theorem HOk.kept (x : HOk P w H h) (k : ∀ b u, h.get? b = some u → h'.get? b = some u) : HOk P w H h' := fun a o e =>
  (x a o e).stay (fun b u _ q => k b u q) (fun _ q => q) fun _ _ q => q
theorem HOk.laid (x : HOk P w H h) (k : ∀ b u, h.get? b = some u → h'.get? b = some u) (hp : h.objs.size ≤ a) (new : ObjOk P w (upd H a o) h' a o) : HOk P w (upd H a o) h' := fun b u e => by
  have hn := x.fresh hp
  by_cases hb : b = a
  · subst hb; rw [upd_same] at e; cases e; exact new
  · rw [upd_ne hb] at e
    exact (x b u e).stay (fun c v _ q => k c v q) (fun c q => by rw [upd_ne (ne_of_none q hn)]; exact q) fun c xs q => by rw [upd_ne (ne_of_none q hn)]; exact q
end
def Rd (H : Hp) (a : Addr) (u : HO) : Prop := H a = some u ∨ ∃ o, H a = some (.frz o u)
theorem Rd.ok {P : Program} {w : World} {H : Hp} {h : Heap} {a : Addr} {u : HO} (r : Rd H a u) (x : HOk P w H h) : ObjOk P w H h a u := by
  rcases r with r | ⟨o, r⟩
  · exact x a u r
  · obtain ⟨_, q⟩ := x a _ r
    exact q
def Mut : Option HO → Prop
  | some (.lst _) => True
  | some (.dK _) => True
  | some (.dT _) => True
  | some (.set _ _) => True
  | some (.ins _ _ _) => True
  | some (.ext _) => True
  | _ => False
section
variable {P : Program} {w : World} {H : Hp} {h h' : Heap} {x e : Addr} {o' : HO}
theorem HOk.write (ok : HOk P w H h) (mu : Mut (H x)) (he : e = x ∨ H e = some (.own x)) (k : ∀ b u, b ≠ e → h.get? b = some u → h'.get? b = some u) (heo : ∃ u, h'.get? e = some u)
    (new : ObjOk P w (upd H x o') h' x o') : HOk P w (upd H x o') h' := fun b u q => by
  have nown : ∀ c y, H c = some (.own y) → c ≠ x := fun c y r z => by subst z; rw [r] at mu; exact mu
  have ntup : ∀ c xs, H c = some (.tup xs) → c ≠ x := fun c xs r z => by subst z; rw [r] at mu; exact mu
  by_cases hb : b = x
  · subst hb; rw [upd_same] at q; cases q; exact new
  · rw [upd_ne hb] at q
    by_cases hbe : b = e
    · have q' : H b = some (.own x) := by
        rcases he with z | z
        · exact absurd (hbe.trans z) hb
        · rw [hbe]; exact z
      rw [q] at q'; cases q'
      obtain ⟨v, hv⟩ := heo
      exact ⟨v, by rw [hbe]; exact hv⟩
    · refine (ok b u q).stay (fun c v hc r => k c v ?_ r) (fun c r => by rw [upd_ne (nown c b r)]; exact r) fun c xs r => by rw [upd_ne (ntup c xs r)]; exact r
      rcases hc with rfl | hc
      · exact hbe
      · rintro rfl
        rcases he with z | z
        · exact nown c b hc z
        · rw [hc] at z; cases z; exact hb rfl
end
structure Un (fs ex : List Addr) (H H' : Hp) (h h' : Heap) : Prop where
  keep : ∀ b o, h.get? b = some o → H b = none → b ∉ fs → b ∉ ex → h'.get? b = some o
  slot : ∀ b o, h.get? b = some o → H b = none → b ∈ fs → b ∉ ex → ∃ sl, h'.get? b = some { o with slots := sl }
  free : ∀ b o, h.get? b = some o → H b = none → b ∉ ex → H' b = none
  there : ∀ b o, h.get? b = some o → b ∉ ex → ∃ o', h'.get? b = some o'
  tups : ∀ b xs, H b = some (.tup xs) → H' b = some (.tup xs)
  frzs : ∀ b o u, H b = some (.frz o u) → H' b = some (.frz o u)
  tbls : ∀ b ps, H b = some (.tbl ps) → ∃ more, H' b = some (.tbl (ps ++ more))
section
variable {fs fs' ex ex' : List Addr} {H H1 H2 : Hp} {h h1 h2 h' : Heap} {a x e : Addr} {o : HO}
theorem Un.any (u : Un fs ex H H1 h h1) {b : Addr} {ob : Obj} (q : h.get? b = some ob) (n : H b = none) (hx : b ∉ ex) : ∃ sl, h1.get? b = some { ob with slots := sl } := by
  by_cases hb : b ∈ fs
  · exact u.slot b ob q n hb hx
  · exact ⟨ob.slots, u.keep b ob q n hb hx⟩
theorem Un.kept (k : ∀ b u, h.get? b = some u → h'.get? b = some u) : Un fs ex H H h h' :=
  ⟨fun b ob q _ _ _ => k b ob q, fun b ob q _ _ _ => ⟨ob.slots, k b ob q⟩, fun _ _ _ n _ => n, fun b ob q _ => ⟨ob, k b ob q⟩, fun _ _ q => q, fun _ _ _ q => q, fun _ ps q => ⟨#[], by rw [q]; simp⟩⟩
theorem Un.refl : Un fs ex H H h h := Un.kept fun _ _ q => q
theorem Un.laid (k : ∀ b u, h.get? b = some u → h'.get? b = some u) (hp : h.objs.size ≤ a) (hn : H a = none) : Un fs ex H (upd H a o) h h' where
  keep := fun b u q _ _ _ => k b u q
  slot := fun b u q _ _ _ => ⟨u.slots, k b u q⟩
  free := fun b u q n _ => by rw [upd_ne (Nat.ne_of_lt (Nat.lt_of_lt_of_le (Heap.lt_size q) hp))]; exact n
  there := fun b u q _ => ⟨u, k b u q⟩
  tups := fun b xs q => by rw [upd_ne (ne_of_none q hn)]; exact q
  frzs := fun b u xs q => by rw [upd_ne (ne_of_none q hn)]; exact q
  tbls := fun b ps q => ⟨#[], by rw [upd_ne (ne_of_none q hn), q]; simp⟩
theorem Un.write (mu : Mut (H x)) (he : e = x ∨ H e = some (.own x)) (k : ∀ b u, b ≠ e → h.get? b = some u → h'.get? b = some u) (heo : ∃ u, h'.get? e = some u) : Un fs ex H (upd H x o) h h' := by
  have hx : ∀ b, H b = none → b ≠ x := fun b n z => by subst z; rw [n] at mu; exact mu
  have hb : ∀ b, H b = none → b ≠ e := fun b n z => by
    subst z
    rcases he with r | r
    · exact hx b n r
    · rw [n] at r; cases r
  have hm : ∀ b u, H b = some u → ¬ Mut (some u) → b ≠ x := fun b u q nm z => by subst z; rw [q] at mu; exact nm mu
  refine ⟨fun b u q n _ _ => k b u (hb b n) q, fun b u q n _ _ => ⟨u.slots, k b u (hb b n) q⟩, fun b u q n _ => by rw [upd_ne (hx b n)]; exact n, fun b u q _ => ?_,
    fun b xs q => by rw [upd_ne (hm b _ q fun z => z)]; exact q, fun b u xs q => by rw [upd_ne (hm b _ q fun z => z)]; exact q, fun b ps q => ⟨#[], by rw [upd_ne (hm b _ q fun z => z), q]; simp⟩⟩
  by_cases hbe : b = e
  · subst hbe; exact heo
  · exact ⟨u, k b u hbe q⟩
end
def trk (h : Heap) (H : Hp) : List Addr := (List.range h.objs.size).filter fun a => (H a).isSome
def hidT (h : Heap) (H : Hp) : Heap := PySem.W.hideAll h (trk h H)
theorem hidT_size (h : Heap) (H : Hp) : (hidT h H).objs.size = h.objs.size := PySem.W.hideAll_size _ _
theorem hidT_get {h : Heap} {H : Hp} {b : Addr} {o : Obj} (e : h.get? b = some o) (n : H b = none) : (hidT h H).get? b = some o :=
  PySem.W.hideAll_get _ e fun hm => by
    have q : (H b).isSome = true := (List.mem_filter.mp hm).2
    rw [n] at q; simp at q
theorem of_hidT {h : Heap} {H : Hp} {b : Addr} {o : Obj} (e : (hidT h H).get? b = some o) : h.get? b = some o ∧ H b = none := by
  have e' : h.get? b = some o := PySem.W.of_hideAll (trk h H) e
  refine ⟨e', ?_⟩
  cases q : H b with
  | none => rfl
  | some x =>
    have hm : b ∈ trk h H := List.mem_filter.mpr ⟨List.mem_range.mpr (Heap.lt_size e'), by simp [q]⟩
    have z : (hidT h H).get? b = none := PySem.W.hideAll_none (trk h H) hm
    rw [z] at e; cases e
def allNews (g h : Heap) (L : Addr) : List (Addr × Obj) := (List.range h.objs.size).filterMap fun a => if a = L ∨ (g.get? a).isSome = true then none else (h.get? a).map fun o => (a, o)
def rest (g h : Heap) (L d : Addr) : List (Addr × Obj) := (allNews g h L).filter fun p => decide (p.1 ≠ d)
end L2
namespace L2
open PySem PySem.Spec PyProof.Rows
structure Mod (K : PySem.W.Frag) (mg : Str → Option Value) (base : Heap) : Prop where
  kin : K.In base
  glob : base.Ns mainGlobals mg
  blt : ∃ mb, base.Ns builtinsNs mb ∧ ∀ x : Str, x ≠ "__name__" → mb x = bootBuiltins x
  nolimit : base.NoLimit
structure Cx where
  prog : Program
  w : World
  K : PySem.W.Frag
  mg : Str → Option Value
  base : Heap
  A : Around
  N : List Str
  s₀ : Shared
  H₀ : Hp
  env : Env
  outer : List Env
  stack : List Env
  ex : List Addr
  fn : Str → Bool
  calm : Bool
  pn : List (Addr × Obj)
  xe : Value → Shared → Prop
def frs (l : List Env) : List Addr := l.filterMap (·.frame)
abbrev Cx.fs (X : Cx) : List Addr := frs X.outer
def Vis (sc : Scope) (x : Str) : Prop := sc.names.lookup x = some .local ∨ sc.names.lookup x = some .cell ∨ sc.names.lookup x = some .free
def Loc (sc : Scope) (x : Str) : Prop := sc.names.lookup x = some .local ∨ sc.names.lookup x = some .cell
def Look (env : Env) (h : Heap) (m : Str → Option Value) (x : Str) (u : Value) : Prop :=
  (env.kindOf x = some .local ∧ m x = some u) ∨ ((env.kindOf x = some .cell ∨ env.kindOf x = some .free) ∧ ∃ c, env.cells.lookup x = some c ∧ h.IsCell c (some u))
structure Cx.Ok (X : Cx) : Prop where
  mod : Mod X.K X.mg X.base
  kind : X.env.scope.kind = .function
  glob : X.env.globals = mainGlobals
  blt : X.env.builtins = builtinsNs
  above : X.s₀.heap.objs.size ≤ X.env.locals
  inj : ∀ x y c, X.env.cells.lookup x = some c → X.env.cells.lookup y = some c → x = y
  has : ∀ x, (X.env.kindOf x = some .cell ∨ X.env.kindOf x = some .free) → ∃ c, X.env.cells.lookup x = some c
  cab : ∀ x c, X.fn x = true → X.env.cells.lookup x = some c → X.s₀.heap.objs.size ≤ c
  hd : X.calm = true → X.A.handled = none
  frames : X.A.frames = some X.stack
  stk : X.stack = X.outer ∨ (X.stack = X.env :: X.outer ∧ X.env.frame = some X.env.locals)
  exf : ∀ b ∈ X.ex, b ≠ X.env.locals ∧ ∀ x c, X.env.cells.lookup x = some c → c ≠ b
  bs : ∀ b o, X.base.get? b = some o → X.s₀.heap.get? b = some o ∧ X.H₀ b = none
  bsz : X.base.objs.size ≤ X.s₀.heap.objs.size
  noex : ∀ b o, X.base.get? b = some o → b ∉ X.ex
  exfs : ∀ b ∈ X.ex, b ∉ X.fs
  funs : X.s₀.heap.FunFrames X.base X.outer
  frf : ∀ b ∈ X.fs, X.H₀ b = none
structure Inv (X : Cx) (pins : List (Addr × Obj)) (σ : List (Option V)) (H : Hp) (s : Shared) : Prop where
  ok : X.Ok
  os : s.os = X.s₀.os
  bare : AllBare s.gens
  base : Un X.fs X.ex X.H₀ H X.s₀.heap s.heap
  loc : ∃ m, s.heap.Ns X.env.locals m ∧ ∀ (i : Nat) (x : Str) (v : V), X.N[i]? = some x → σ[i]? = some (some v) → Vis X.env.scope x → ∃ u, RelV v u ∧ Look X.env s.heap m x u
  cell : ∀ x c, X.env.cells.lookup x = some c → ∃ v, s.heap.IsCell c v
  free : H X.env.locals = none
  freeC : ∀ x c, X.env.cells.lookup x = some c → H c = none
  pin : ∀ p ∈ X.pn ++ pins, s.heap.get? p.1 = some p.2 ∧ H p.1 = none ∧ p.1 ≠ X.env.locals ∧ p.1 ∉ X.fs ∧ ∀ v, p.2.data ≠ .cell v
  hok : HOk X.prog X.w H s.heap
  len : σ.length = X.N.length
section
variable {X : Cx} {pins : List (Addr × Obj)} {σ : List (Option V)} {H H' : Hp} {s : Shared} {h' : Heap}
theorem Cx.Ok.nofr (ok : X.Ok) {b : Addr} {o : Obj} (e : X.base.get? b = some o) : b ∉ X.fs := fun hb => by
  have := (ok.funs.mem hb).1
  rw [e] at this; cases this
theorem Inv.bs (I : Inv X pins σ H s) : ∀ b o, X.base.get? b = some o → s.heap.get? b = some o ∧ H b = none := fun b o e =>
  ⟨I.base.keep b o (I.ok.bs b o e).1 (I.ok.bs b o e).2 (I.ok.nofr e) (I.ok.noex b o e), I.base.free b o (I.ok.bs b o e).1 (I.ok.bs b o e).2 (I.ok.noex b o e)⟩
theorem Inv.bk (I : Inv X pins σ H s) : ∀ b o, X.base.get? b = some o → s.heap.get? b = some o := fun b o e => (I.bs b o e).1
theorem Inv.mod (I : Inv X pins σ H s) : Mod X.K X.mg X.base := I.ok.mod
theorem Inv.kIn (I : Inv X pins σ H s) : X.K.In s.heap := I.ok.mod.kin.keeps I.bk
theorem Inv.lt (I : Inv X pins σ H s) : X.env.locals < s.heap.objs.size := let ⟨_, hn, _⟩ := I.loc; hn.lt
theorem Inv.sz (I : Inv X pins σ H s) : X.s₀.heap.objs.size ≤ s.heap.objs.size := Nat.le_trans I.ok.above (Nat.le_of_lt I.lt)
theorem Inv.nofs (I : Inv X pins σ H s) {a : Addr} (h : s.heap.objs.size ≤ a) : a ∉ X.fs := fun hb => by
  obtain ⟨_, o, ho, _⟩ := I.ok.funs.mem hb
  exact absurd (Nat.lt_of_lt_of_le (Heap.lt_size ho) (Nat.le_trans I.sz h)) (Nat.lt_irrefl _)
theorem Inv.cne (I : Inv X pins σ H s) : ∀ x c, X.env.cells.lookup x = some c → c ≠ X.env.locals := fun x c e z => by
  obtain ⟨v, o, ho, hd⟩ := I.cell x c e
  obtain ⟨m, ⟨o', es, ep, ho', hd', _⟩, _⟩ := I.loc
  rw [z, ho'] at ho; cases ho; rw [hd'] at hd; cases hd
theorem Inv.funs (I : Inv X pins σ H s) : s.heap.FunFrames X.base X.outer := by
  have all : ∀ (l : List Env), (∀ b ∈ frs l, b ∈ X.fs) → X.s₀.heap.FunFrames X.base l → s.heap.FunFrames X.base l := by
    intro l
    induction l with
    | nil => intro _ _; trivial
    | cons env r ih =>
      intro hs hl
      obtain ⟨hk, ⟨L, o, hf, hn, ho, hd⟩, hr⟩ := hl
      have hL : L ∈ X.fs := hs L (by unfold frs; rw [List.filterMap_cons, hf]; exact List.mem_cons_self)
      obtain ⟨sl, e⟩ := I.base.slot L o ho (I.ok.frf L hL) hL fun z => I.ok.exfs L z hL
      exact ⟨hk, ⟨L, _, hf, hn, e, hd⟩, ih (fun b hb => hs b (by unfold frs; rw [List.filterMap_cons, hf]; exact List.mem_cons_of_mem _ hb)) hr⟩
  exact all X.outer (fun _ hb => hb) I.ok.funs
theorem Inv.stack (I : Inv X pins σ H s) : s.heap.FunFrames X.base X.stack := by
  rcases I.ok.stk with e | ⟨e, hf⟩
  · rw [e]; exact I.funs
  · rw [e]
    obtain ⟨m, hn, _⟩ := I.loc
    refine .cons (by rw [I.ok.kind]; decide) hf hn ?_ I.funs
    exact Heap.get?_none_of_le (Nat.le_trans I.ok.bsz I.ok.above)
theorem Inv.stkSub (I : Inv X pins σ H s) : ∀ b ∈ frs X.stack, b ∈ X.env.locals :: X.fs := fun b hb => by
  rcases I.ok.stk with e | ⟨e, hf⟩
  · rw [e] at hb; exact List.mem_cons_of_mem _ hb
  · rw [e] at hb
    unfold frs at hb
    rw [List.filterMap_cons, hf] at hb
    exact hb
theorem Inv.stkFree (I : Inv X pins σ H s) : ∀ b ∈ frs X.stack, H b = none := fun b hb => by
  rcases List.mem_cons.mp (I.stkSub b hb) with e | hb
  · rw [e]; exact I.free
  · obtain ⟨_, o, ho, _⟩ := I.ok.funs.mem hb
    exact I.base.free b o ho (I.ok.frf b hb) fun z => I.ok.exfs b z hb
theorem Inv.step {g' : Array GenState} {t' : Nat} {d' : Drawn} {ch : List Addr} (I : Inv X pins σ H s)
    (hch : ∀ b ∈ ch, (b ∈ X.ex ∨ X.s₀.heap.objs.size ≤ b) ∧ b ≠ X.env.locals ∧ (∀ x c, X.env.cells.lookup x = some c → c ≠ b) ∧ ∀ p ∈ X.pn ++ pins, p.1 ≠ b)
    (keep : ∀ b o, b ≠ X.env.locals → b ∉ X.fs → b ∉ ch → s.heap.get? b = some o → H b = none → h'.get? b = some o)
    (slot : ∀ b o, b ≠ X.env.locals → b ∈ X.fs → b ∉ ch → s.heap.get? b = some o → H b = none → ∃ sl, h'.get? b = some { o with slots := sl }) (free : ∀ b o, b ∉ ch → s.heap.get? b = some o → H b = none → H' b = none)
    (there : ∀ b o, b ∉ ch → s.heap.get? b = some o → ∃ o', h'.get? b = some o')
    (tups : ∀ b xs, H b = some (.tup xs) → H' b = some (.tup xs)) (frzs : ∀ b o u, H b = some (.frz o u) → H' b = some (.frz o u)) (tbls : ∀ b ps, H b = some (.tbl ps) → ∃ more, H' b = some (.tbl (ps ++ more)))
    (ns : ∀ m, s.heap.Ns X.env.locals m → h'.Ns X.env.locals m) (hok : HOk X.prog X.w H' h') (hg : AllBare g') :
    Inv X pins σ H' { s with heap := h', gens := g', drawn := d', toks := t' } := by
  have neL : ∀ b o, X.s₀.heap.get? b = some o → b ≠ X.env.locals := fun b o e => Nat.ne_of_lt (Nat.lt_of_lt_of_le (Heap.lt_size e) I.ok.above)
  have neC : ∀ b o, X.s₀.heap.get? b = some o → b ∉ X.ex → b ∉ ch := fun b o e hx hb => by
    rcases (hch b hb).1 with z | z
    · exact hx z
    · exact absurd (Nat.lt_of_lt_of_le (Heap.lt_size e) z) (Nat.lt_irrefl _)
  have cellK : ∀ x c, X.env.cells.lookup x = some c → ∀ v, s.heap.IsCell c v → h'.IsCell c v := fun x c e v ⟨o, ho, hd⟩ => by
    have nch : c ∉ ch := fun z => (hch c z).2.2.1 x c e rfl
    by_cases hc : c ∈ X.fs
    · obtain ⟨sl, q⟩ := slot c o (I.cne x c e) hc nch ho (I.freeC x c e)
      exact ⟨_, q, hd⟩
    · exact ⟨o, keep c o (I.cne x c e) hc nch ho (I.freeC x c e), hd⟩
  refine ⟨I.ok, I.os, hg, ⟨fun b o e n hb hx => ?_, fun b o e n hb hx => ?_, fun b o e n hx => ?_, fun b o e hx => ?_, fun b xs e => tups b xs (I.base.tups b xs e), fun b o xs e => frzs b o xs (I.base.frzs b o xs e), fun b ps e => ?_⟩, ?_, fun x c e => ?_, ?_, fun x c e => ?_, fun p hp => ?_, hok, I.len⟩
  · exact keep b o (neL b o e) hb (neC b o e hx) (I.base.keep b o e n hb hx) (I.base.free b o e n hx)
  · obtain ⟨sl, e1⟩ := I.base.slot b o e n hb hx
    obtain ⟨sl', e2⟩ := slot b _ (neL b o e) hb (neC b o e hx) e1 (I.base.free b o e n hx)
    exact ⟨sl', e2⟩
  · obtain ⟨o', e1⟩ := I.base.there b o e hx
    exact free b o' (neC b o e hx) e1 (I.base.free b o e n hx)
  · obtain ⟨o', e1⟩ := I.base.there b o e hx
    exact there b o' (neC b o e hx) e1
  · obtain ⟨m1, e1⟩ := I.base.tbls b ps e
    obtain ⟨m2, e2⟩ := tbls b _ e1
    exact ⟨m1 ++ m2, by rw [e2, Array.append_assoc]⟩
  · obtain ⟨m, hn, hl⟩ := I.loc
    refine ⟨m, ns m hn, fun i x v e1 e2 e3 => ?_⟩
    obtain ⟨u, r, l⟩ := hl i x v e1 e2 e3
    refine ⟨u, r, ?_⟩
    rcases l with l | ⟨k, c, e, z⟩
    · exact .inl l
    · exact .inr ⟨k, c, e, cellK x c e _ z⟩
  · obtain ⟨v, z⟩ := I.cell x c e
    exact ⟨v, cellK x c e v z⟩
  · obtain ⟨m, ⟨o, _, _, ho, _⟩, _⟩ := I.loc
    exact free _ o (fun z => (hch _ z).2.1 rfl) ho I.free
  · obtain ⟨v, o, ho, hd⟩ := I.cell x c e
    exact free c o (fun z => (hch c z).2.2.1 x c e rfl) ho (I.freeC x c e)
  · obtain ⟨e, n, ne, nf, d⟩ := I.pin p hp
    have nch : p.1 ∉ ch := fun z => (hch p.1 z).2.2.2 p hp rfl
    exact ⟨keep p.1 p.2 ne nf nch e n, free p.1 p.2 nch e n, ne, nf, d⟩
theorem Inv.un {t' : Nat} (I : Inv X pins σ H s) (u : Un X.fs [] H H' s.heap h') (hok : HOk X.prog X.w H' h') : Inv X pins σ H' { s with heap := h', toks := t' } := by
  obtain ⟨m, ⟨o, es, ep, ho, r⟩, _⟩ := id I.loc
  obtain ⟨sl, hL⟩ := u.any ho I.free (by simp)
  exact I.step (g' := s.gens) (d' := s.drawn) (ch := []) (fun _ z => nomatch z) (fun b o _ hb _ e n => u.keep b o e n hb (by simp)) (fun b o _ hb _ e n => u.slot b o e n hb (by simp)) (fun b o _ e n => u.free b o e n (by simp)) (fun b o _ e => u.there b o e (by simp)) u.tups u.frzs u.tbls (fun m' hm => by
    obtain ⟨o', es', ep', ho', r'⟩ := hm
    rw [ho] at ho'; cases ho'
    exact ⟨_, es', ep', hL, r'⟩) hok I.bare
theorem Inv.call {g' : Array GenState} {t' : Nat} {d' : Drawn} {ch : List Addr} (I : Inv X pins σ H s) (u : Un (frs X.stack) ch H H' s.heap h') (hok : HOk X.prog X.w H' h') (hg : AllBare g')
    (hch : ∀ b ∈ ch, (b ∈ X.ex ∨ X.s₀.heap.objs.size ≤ b) ∧ b ≠ X.env.locals ∧ (∀ x c, X.env.cells.lookup x = some c → c ≠ b) ∧ ∀ p ∈ X.pn ++ pins, p.1 ≠ b) :
    Inv X pins σ H' { s with heap := h', gens := g', drawn := d', toks := t' } := by
  obtain ⟨m, ⟨o, es, ep, ho, r⟩, _⟩ := id I.loc
  obtain ⟨sl, hL⟩ := u.any ho I.free fun z => (hch _ z).2.1 rfl
  exact I.step (ch := ch) hch (fun b o hL hb hc e n => u.keep b o e n (fun z => (List.mem_cons.mp (I.stkSub b z)).elim hL hb) hc) (fun b o _ _ hc e n => u.any e n hc) (fun b o hc e n => u.free b o e n hc) (fun b o hc e => u.there b o e hc) u.tups u.frzs u.tbls (fun m' hm => by
    obtain ⟨o', es', ep', ho', r'⟩ := hm
    rw [ho] at ho'; cases ho'
    exact ⟨_, es', ep', hL, r'⟩) hok hg
theorem Inv.turned {t' : Nat} {it : Addr} (I : Inv X pins σ H s) (k : ∀ b o, b ≠ it → s.heap.get? b = some o → h'.get? b = some o) (hn : H it = none) (hL : it ≠ X.env.locals)
    (h1 : it ∈ X.ex ∨ X.s₀.heap.objs.size ≤ it) (h2 : ∀ x c, X.env.cells.lookup x = some c → c ≠ it) (h3 : ∀ p ∈ X.pn ++ pins, p.1 ≠ it) : Inv X pins σ H { s with heap := h', toks := t' } := by
  have nit : ∀ b u, H b = some u → b ≠ it := fun b u e z => by rw [z, hn] at e; cases e
  refine I.step (g' := s.gens) (d' := s.drawn) (ch := [it]) (fun b hb => ?_) (fun b o _ _ hc e _ => k b o (fun z => hc (by simp [z])) e) (fun b o _ _ hc e _ => ⟨o.slots, k b o (fun z => hc (by simp [z])) e⟩) (fun _ _ _ _ n => n)
    (fun b o hc e => ⟨o, k b o (fun z => hc (by simp [z])) e⟩) (fun _ _ e => e) (fun _ _ _ e => e) (fun b ps e => ⟨#[], by rw [e]; simp⟩) (fun m hm => ?_) (fun b u e => ?_) I.bare
  · have e : b = it := by simpa using hb
    subst e
    exact ⟨h1, hL, h2, h3⟩
  · obtain ⟨o, es, ep, ho, r⟩ := hm
    exact ⟨o, es, ep, k _ o (Ne.symm hL) ho, r⟩
  · refine (I.hok b u e).stay (fun c v hc q => k c v ?_ q) (fun _ q => q) fun _ _ q => q
    rcases hc with z | z
    · rw [z]; exact nit b u e
    · exact nit c _ z
theorem Inv.tok (I : Inv X pins σ H s) (t : Nat) : Inv X pins σ H { s with toks := t } := I.un (h' := s.heap) (t' := t) Un.refl I.hok
theorem Inv.kept {t' : Nat} (I : Inv X pins σ H s) (k : ∀ b u, s.heap.get? b = some u → h'.get? b = some u) : Inv X pins σ H { s with heap := h', toks := t' } := I.un (Un.kept k) (I.hok.kept k)
theorem Inv.laid {a : Addr} {o : HO} {t' : Nat} (I : Inv X pins σ H s) (k : ∀ b u, s.heap.get? b = some u → h'.get? b = some u) (hp : s.heap.objs.size ≤ a) (new : ObjOk X.prog X.w (upd H a o) h' a o) :
    Inv X pins σ (upd H a o) { s with heap := h', toks := t' } := I.un (Un.laid k hp (I.hok.fresh hp)) (I.hok.laid k hp new)
theorem Inv.write {x e : Addr} {o : HO} {t' : Nat} (I : Inv X pins σ H s) (mu : Mut (H x)) (he : e = x ∨ H e = some (.own x)) (k : ∀ b u, b ≠ e → s.heap.get? b = some u → h'.get? b = some u) (heo : ∃ u, h'.get? e = some u)
    (new : ObjOk X.prog X.w (upd H x o) h' x o) : Inv X pins σ (upd H x o) { s with heap := h', toks := t' } := I.un (Un.write mu he k heo) (I.hok.write mu he k heo new)
theorem Inv.weak {σ' : List (Option V)} (I : Inv X pins σ H s) (hl : σ'.length = σ.length) (w : ∀ (i : Nat) v, σ'[i]? = some (some v) → σ[i]? = some (some v)) : Inv X pins σ' H s :=
  ⟨I.ok, I.os, I.bare, I.base, let ⟨m, hn, hl'⟩ := I.loc; ⟨m, hn, fun i x v e1 e2 e3 => hl' i x v e1 (w i v e2) e3⟩, I.cell, I.free, I.freeC, I.pin, I.hok, hl.trans I.len⟩
theorem Inv.pins_of {pins' : List (Addr × Obj)} (I : Inv X pins σ H s) (h : ∀ p ∈ pins', s.heap.get? p.1 = some p.2 ∧ H p.1 = none ∧ p.1 ≠ X.env.locals ∧ p.1 ∉ X.fs ∧ ∀ v, p.2.data ≠ .cell v) : Inv X pins' σ H s :=
  ⟨I.ok, I.os, I.bare, I.base, I.loc, I.cell, I.free, I.freeC, fun p hp => (List.mem_append.mp hp).elim (fun z => I.pin p (List.mem_append_left _ z)) (h p), I.hok, I.len⟩
theorem nodup_ix {N : List Str} (hN : N.Nodup) {i j : Nat} {x : Str} (a : N[i]? = some x) (b : N[j]? = some x) : i = j := by
  obtain ⟨h1, e1⟩ := List.getElem?_eq_some_iff.mp a
  obtain ⟨h2, e2⟩ := List.getElem?_eq_some_iff.mp b
  exact (List.getElem_inj hN).mp (e1.trans e2.symm)
theorem store_ok2 {M : Model} {A : Around} {E : Value → Shared → Prop} {i : Nat} {x : Str} {v : V} {u : Value} {Q : Unit → Shared → Prop} (I : Inv X pins σ H s) (hN : X.N.Nodup) (hi : X.N[i]? = some x) (hx : Loc X.env.scope x) (r : RelV v u)
    (h : ∀ s', Inv X pins (σ.set i (some v)) H s' → (∃ a, Heap.SameBut a s.heap s'.heap ∧ (a = X.env.locals ∨ X.env.cells.lookup x = some a)) → Q () s') (hf : X.fn x = true ∨ X.env.scope.names.lookup x = some .local := by first | exact .inl rfl | exact .inr rfl | assumption) : wpAny M A (storeName X.env x u) Q E s := by
  obtain ⟨m, hn, hl⟩ := id I.loc
  have hcls : (X.env.scope.kind == .class || (X.env.scope.kind == .module && X.env.locals != X.env.globals)) = false := by rw [I.ok.kind]; rfl
  have hiσ : i < σ.length := by rw [I.len]; exact (List.getElem?_eq_some_iff.mp hi).1
  have cne := I.cne
  have tracked : ∀ {a : Addr} {h' : Heap}, (∃ o, s.heap.get? a = some o ∧ H a = none) → Heap.SameBut a s.heap h' → HOk X.prog X.w H h' := fun {a h'} ha hs b ob e => by
    obtain ⟨_, _, hfree⟩ := ha
    refine (I.hok b ob e).stay (fun c w' hc q => (hs.2 c ?_).trans q) (fun _ q => q) fun _ _ q => q
    rintro rfl
    rcases hc with rfl | hc
    · rw [hfree] at e; cases e
    · rw [hfree] at hc; cases hc
  rcases hx with hk | hk
  · refine wpAny_storeName_local hk hn (fun h' hn' hs => ?_) hcls
    obtain ⟨oL, _, _, hoL, _⟩ := id hn
    refine h _ ⟨I.ok, I.os, I.bare, ⟨fun b o e n hb hx => ?_, fun b o e n hb hx => ?_, I.base.free, fun b o e hx => ?_, I.base.tups, I.base.frzs, I.base.tbls⟩, ⟨_, hn', fun j y v' e1 e2 e3 => ?_⟩, fun y c e => ?_, I.free, I.freeC, fun p hp => ?_, tracked ⟨oL, hoL, I.free⟩ hs, by simpa using I.len⟩ ⟨_, hs, .inl rfl⟩
    · exact (hs.2 b (Nat.ne_of_lt (Nat.lt_of_lt_of_le (Heap.lt_size e) I.ok.above))).trans (I.base.keep b o e n hb hx)
    · obtain ⟨sl, e1⟩ := I.base.slot b o e n hb hx
      exact ⟨sl, (hs.2 b (Nat.ne_of_lt (Nat.lt_of_lt_of_le (Heap.lt_size e) I.ok.above))).trans e1⟩
    · obtain ⟨o', e1⟩ := I.base.there b o e hx
      exact ⟨o', (hs.2 b (Nat.ne_of_lt (Nat.lt_of_lt_of_le (Heap.lt_size e) I.ok.above))).trans e1⟩
    · by_cases hj : j = i
      · subst hj
        rw [hi] at e1; cases e1
        rw [List.getElem?_set_self hiσ] at e2
        cases e2
        exact ⟨u, r, .inl ⟨hk, by simp⟩⟩
      · rw [List.getElem?_set_ne (Ne.symm hj)] at e2
        obtain ⟨u', r', q⟩ := hl j y v' e1 e2 e3
        refine ⟨u', r', ?_⟩
        rcases q with ⟨k, e⟩ | ⟨k, c, e, z⟩
        · refine .inl ⟨k, ?_⟩
          have : y ≠ x := fun e => hj (nodup_ix hN e1 (e ▸ hi))
          simp [this, e]
        · exact .inr ⟨k, c, e, z.sameBut hs (cne y c e)⟩
    · obtain ⟨w', z⟩ := I.cell y c e
      exact ⟨w', z.sameBut hs (cne y c e)⟩
    · obtain ⟨e, n, ne, nf, d⟩ := I.pin p hp
      exact ⟨(hs.2 p.1 ne).trans e, n, ne, nf, d⟩
  · have hfn : X.fn x = true := by
      rcases hf with z | z
      · exact z
      · rw [z] at hk; cases hk
    obtain ⟨c, hc⟩ := I.ok.has x (.inl hk)
    obtain ⟨w', z⟩ := I.cell x c hc
    refine wpAny_storeName_cell I.ok.kind hk hc z (fun h' hc' hs => ?_)
    obtain ⟨oc, hoc, hocd⟩ := id z
    refine h { s with heap := h' } ⟨I.ok, I.os, I.bare, ⟨fun b o e n hb hx => ?_, fun b o e n hb hx => ?_, I.base.free, fun b o e hx => ?_, I.base.tups, I.base.frzs, I.base.tbls⟩, ⟨m, hn.sameBut hs (Ne.symm (cne x c hc)), fun j y v' e1 e2 e3 => ?_⟩, fun y c' e => ?_, I.free, I.freeC, fun p hp => ?_, tracked ⟨oc, hoc, I.freeC x c hc⟩ hs, by simpa using I.len⟩ ⟨c, hs, .inr hc⟩
    · exact (hs.2 b (Nat.ne_of_lt (Nat.lt_of_lt_of_le (Heap.lt_size e) (I.ok.cab x c hfn hc)))).trans (I.base.keep b o e n hb hx)
    · obtain ⟨sl, e1⟩ := I.base.slot b o e n hb hx
      exact ⟨sl, (hs.2 b (Nat.ne_of_lt (Nat.lt_of_lt_of_le (Heap.lt_size e) (I.ok.cab x c hfn hc)))).trans e1⟩
    · obtain ⟨o', e1⟩ := I.base.there b o e hx
      exact ⟨o', (hs.2 b (Nat.ne_of_lt (Nat.lt_of_lt_of_le (Heap.lt_size e) (I.ok.cab x c hfn hc)))).trans e1⟩
    · by_cases hj : j = i
      · subst hj
        rw [hi] at e1; cases e1
        rw [List.getElem?_set_self hiσ] at e2
        cases e2
        exact ⟨u, r, .inr ⟨.inl hk, c, hc, hc'⟩⟩
      · rw [List.getElem?_set_ne (Ne.symm hj)] at e2
        obtain ⟨u', r', q⟩ := hl j y v' e1 e2 e3
        refine ⟨u', r', ?_⟩
        rcases q with q | ⟨k, c', e, z'⟩
        · exact .inl q
        · refine .inr ⟨k, c', e, z'.sameBut hs ?_⟩
          rintro rfl
          exact hj (nodup_ix hN e1 (I.ok.inj _ _ _ e hc ▸ hi))
    · by_cases hcc : c' = c
      · subst hcc; exact ⟨_, hc'⟩
      · obtain ⟨w2, z2⟩ := I.cell y c' e
        exact ⟨w2, z2.sameBut hs hcc⟩
    · obtain ⟨e, n, ne, nf, d⟩ := I.pin p hp
      refine ⟨(hs.2 p.1 ?_).trans e, n, ne, nf, d⟩
      intro q
      rw [q, hoc] at e
      have q' : oc = p.2 := Option.some.inj e
      exact d w' (by rw [← q']; exact hocd)
theorem store_ok {M : Model} {A : Around} {E : Value → Shared → Prop} {i : Nat} {x : Str} {v : V} {u : Value} {Q : Unit → Shared → Prop} (I : Inv X pins σ H s) (hN : X.N.Nodup) (hi : X.N[i]? = some x) (hx : Loc X.env.scope x) (r : RelV v u)
    (h : ∀ s', Inv X pins (σ.set i (some v)) H s' → Q () s') (hf : X.fn x = true ∨ X.env.scope.names.lookup x = some .local := by first | exact .inl rfl | exact .inr rfl | assumption) : wpAny M A (storeName X.env x u) Q E s :=
  store_ok2 I hN hi hx r (fun s' I' _ => h s' I') hf
theorem Inv.call' {s' : Shared} {ch : List Addr} (I : Inv X pins σ H s) (ho : s'.os = s.os) (u : Un (frs X.stack) ch H H' s.heap s'.heap) (hok : HOk X.prog X.w H' s'.heap) (hg : AllBare s'.gens)
    (hch : ∀ b ∈ ch, (b ∈ X.ex ∨ X.s₀.heap.objs.size ≤ b) ∧ b ≠ X.env.locals ∧ (∀ x c, X.env.cells.lookup x = some c → c ≠ b) ∧ ∀ p ∈ X.pn ++ pins, p.1 ≠ b) : Inv X pins σ H' s' := by
  obtain ⟨h', g', d', t', o'⟩ := s'
  have e : o' = s.os := ho
  subst e
  exact I.call (g' := g') (t' := t') (d' := d') u hok hg hch
end
abbrev XK := Value → Option Addr → Hp → Prop
abbrev St := List (Option V)
abbrev VK := V → Hp → Prop
abbrev TE := St → Hp → VK → Prop
abbrev TT := St → Hp → (Bool → Hp → Prop) → Prop
abbrev TA := St → Hp → (List V → Hp → Prop) → Prop
structure Ends where
  nx : St → Hp → Prop
  rt : VK
  bk : St → Hp → Prop := fun _ _ => False
  ct : St → Hp → Prop := fun _ _ => False
abbrev TS := Ends → St → Hp → Prop
def EP (X : Cx) (pins : List (Addr × Obj)) (σ : St) (Q : VK) (u : Value) (s' : Shared) : Prop := ∃ v H', Inv X pins σ H' s' ∧ RelV v u ∧ Q v H'
def TP (X : Cx) (pins : List (Addr × Obj)) (σ : St) (Q : Bool → Hp → Prop) (b : Bool) (s' : Shared) : Prop := ∃ H', Inv X pins σ H' s' ∧ Q b H'
def AP (X : Cx) (pins : List (Addr × Obj)) (σ : St) (Q : List V → Hp → Prop) (us : List Value) (s' : Shared) : Prop := ∃ vs H', Inv X pins σ H' s' ∧ Vals vs us ∧ Q vs H'
def SP (X : Cx) (pins : List (Addr × Obj)) (D : Ends) (f : Flow) (s' : Shared) : Prop :=
  match f with
  | .next => ∃ σ' H', Inv X pins σ' H' s' ∧ D.nx σ' H'
  | .brk => ∃ σ' H', Inv X pins σ' H' s' ∧ D.bk σ' H'
  | .cont => ∃ σ' H', Inv X pins σ' H' s' ∧ D.ct σ' H'
  | .ret u => ∃ v σ' H', Inv X pins σ' H' s' ∧ RelV v u ∧ D.rt v H'
def PE (X : Cx) (e : Expr) (t : TE) : Prop :=
  ∀ (pins : List (Addr × Obj)) (s : Shared) (σ : St) (H : Hp) (Q : VK), Inv X pins σ H s → t σ H Q → wpAny (model X.prog X.w) X.A (eval e X.env) (EP X pins σ Q) X.xe s
def PT (X : Cx) (e : Expr) (t : TT) : Prop :=
  ∀ (pins : List (Addr × Obj)) (s : Shared) (σ : St) (H : Hp) (Q : Bool → Hp → Prop), Inv X pins σ H s → t σ H Q → wpAny (model X.prog X.w) X.A (isTrue e X.env (eval e X.env)) (TP X pins σ Q) X.xe s
def PW (X : Cx) (e : Expr) (t : TT) : Prop :=
  ∀ (whole : Sem Value) (pins : List (Addr × Obj)) (s : Shared) (σ : St) (H : Hp) (Q : Bool → Hp → Prop), Inv X pins σ H s → t σ H Q → wpAny (model X.prog X.w) X.A (isTrue e X.env whole) (TP X pins σ Q) X.xe s
theorem PW.pt {X : Cx} {e : Expr} {t : TT} (h : PW X e t) : PT X e t := h _
def PA (X : Cx) (es : List Expr) (t : TA) : Prop :=
  ∀ (pos : Pos) (pins : List (Addr × Obj)) (s : Shared) (σ : St) (H : Hp) (Q : List V → Hp → Prop), Inv X pins σ H s → t σ H Q → wpAny (model X.prog X.w) X.A (spliced (backTo pos (starEach es X.env))) (AP X pins σ Q) X.xe s
def PS (X : Cx) (st : Stmt) (t : TS) : Prop :=
  ∀ (pins : List (Addr × Obj)) (s : Shared) (σ : St) (H : Hp) (D : Ends), Inv X pins σ H s → t D σ H → wpAny (model X.prog X.w) X.A (exec st X.env) (SP X pins D) X.xe s
def PSs (X : Cx) (st : List Stmt) (t : TS) : Prop :=
  ∀ (pins : List (Addr × Obj)) (s : Shared) (σ : St) (H : Hp) (D : Ends), Inv X pins σ H s → t D σ H → wpAny (model X.prog X.w) X.A (execs st X.env) (SP X pins D) X.xe s
theorem thn {α : Type} {t : Sem α} {Q Q' : α → Shared → Prop} {M : Model} {A : Around} {E : Value → Shared → Prop} {s : Shared} (h : wpAny M A t Q E s) (hQ : ∀ a s, Q a s → Q' a s) : wpAny M A t Q' E s := wpAny_mono h hQ fun _ _ x => x
end L2
namespace L2
open PySem PySem.Spec PyProof.Rows
section
variable {X : Cx}
def tVar (i : Nat) : TE := fun σ H Q => ∃ v, σ[i]? = some (some v) ∧ Q v H
def tC (v : V) : TE := fun _ H Q => Q v H
theorem pe_var {i : Nat} {x : Str} {pos : Pos} (hN : X.N[i]? = some x) (hv : Vis X.env.scope x) (hd : (x == ("__debug__" : Str)) = false := by decide) (hcd : (x == ("__classdict__" : Str)) = false := by decide) : PE X (.Name x pos) (tVar i) := by
  intro pins s σ H Q I h
  obtain ⟨v, e, h⟩ := h
  obtain ⟨m, hn, hl⟩ := I.loc
  obtain ⟨u, r, l⟩ := hl i x v hN e hv
  have fin : EP X pins σ Q u s := ⟨v, H, I, r, h⟩
  rcases l with ⟨hk, hm⟩ | ⟨hk, c, hc, hcell⟩
  · exact wpAny_Name (wpAny_loadName_local I.ok.kind hk hn hm fin) hd
  · rcases hk with hk | hk
    · exact wpAny_Name (wpAny_loadName_cell I.ok.kind hk hc hcell fin) hd
    · exact wpAny_Name (wpAny_loadName_free I.ok.kind hk hc hcell fin hcd) hd
theorem pe_int {i j pos} : PE X (.Constant (.int i) j pos) (tC (.int i)) := fun _ _ _ H _ I h => wpAny_Constant_int ⟨.int i, H, I.tok _, ⟨_, rfl⟩, h⟩
theorem pe_bl {b j pos} : PE X (.Constant (.bool b) j pos) (tC (.bl b)) := fun _ _ _ H _ I h => Constant_bool ⟨.bl b, H, I, rfl, h⟩
theorem pe_str {x j pos} : PE X (.Constant (.str x) j pos) (tC (.str x)) := fun _ _ _ H _ I h => Calls.Constant_str ⟨.str x, H, I.tok _, ⟨_, rfl⟩, h⟩
def Gl (X : Cx) (x : Str) : Prop := X.env.kindOf x = some .globalImplicit
theorem ld_glob {E : Value → Shared → Prop} {pins : List (Addr × Obj)} {s : Shared} {σ : St} {H : Hp} {x : Str} {u : Value} {pos : Pos} {Q : Value → Shared → Prop} (I : Inv X pins σ H s) (hg : Gl X x) (hm : X.mg x = some u) (h : Q u s)
    (hd : (x == ("__debug__" : Str)) = false := by decide) : wpAny (model X.prog X.w) X.A (eval (.Name x pos) X.env) Q E s :=
  Calls.Name_function_global I.ok.kind hg (Calls.loadGlobal_global (by rw [I.ok.glob]; exact I.mod.glob.keeps I.bk) hm h) hd
theorem ld_blt {E : Value → Shared → Prop} {pins : List (Addr × Obj)} {s : Shared} {σ : St} {H : Hp} {x : Str} {u : Value} {pos : Pos} {Q : Value → Shared → Prop} (I : Inv X pins σ H s) (hg : Gl X x) (hm : X.mg x = none) (hv : bootBuiltins x = some u) (h : Q u s)
    (hn : x ≠ "__name__" := by decide) (hd : (x == ("__debug__" : Str)) = false := by decide) : wpAny (model X.prog X.w) X.A (eval (.Name x pos) X.env) Q E s := by
  obtain ⟨mb, h1, h2⟩ := I.mod.blt
  exact Calls.Name_function_global I.ok.kind hg (Calls.loadGlobal_builtin (by rw [I.ok.glob]; exact I.mod.glob.keeps I.bk) hm (by rw [I.ok.blt]; exact h1.keeps I.bk) ((h2 x hn).trans hv) h) hd
theorem pe_glob {x : Str} {v : V} {u : Value} {pos : Pos} (hg : Gl X x) (hm : X.mg x = some u) (r : RelV v u) (hd : (x == ("__debug__" : Str)) = false := by decide) : PE X (.Name x pos) (tC v) :=
  fun _ _ _ H _ I h => ld_glob I hg hm ⟨v, H, I, r, h⟩ hd
theorem pe_bltn {x : Str} {v : V} {u : Value} {pos : Pos} (hg : Gl X x) (hm : X.mg x = none) (hv : bootBuiltins x = some u) (r : RelV v u) (hn : x ≠ "__name__" := by decide) (hd : (x == ("__debug__" : Str)) = false := by decide) : PE X (.Name x pos) (tC v) :=
  fun _ _ _ H _ I h => ld_blt I hg hm hv ⟨v, H, I, r, h⟩ hn hd
variable {a b : Expr} {ta tb : TE} {pos : Pos}
def tB (t : TE) : TT := fun σ H Q => t σ H fun x H1 => ∃ c, x = .bl c ∧ Q c H1
theorem pt_val {e : Expr} {t : TE} (h : PE X e t) (he : ∀ whole, isTrue e X.env whole = (do let v ← whole; standAt e.pos; holding [v] (truthy v)) := by intro _; rfl) : PT X e (tB t) := by
  intro pins s σ H Q I hw
  refine isTrue_plain (thn (h pins s σ H _ I hw) fun v s1 ⟨x, H1, I1, r1, q1⟩ => ?_) (he _)
  obtain ⟨d, rfl, q⟩ := q1
  cases r1
  exact wpAny_truthy_bool ⟨H1, I1, q⟩
variable {tA tB' : TT} {rest : List Expr}
def tAnd (t u : TT) : TT := fun σ H Q => t σ H fun c H1 => if c = true then u σ H1 Q else Q false H1
def tOr (t u : TT) : TT := fun σ H Q => t σ H fun c H1 => if c = true then Q true H1 else u σ H1 Q
def tNot (t : TT) : TT := fun σ H Q => t σ H fun c H1 => Q (!c) H1
theorem pw_and1 (ha : PT X a tA) : PW X (.BoolOp .And [a] pos) tA := by
  intro wh pins s σ H Q I h
  refine isTrue_and (thn (ha pins s σ H Q I h) fun c s1 e => ?_)
  cases c with
  | true => exact isTrue_and_nil e
  | false => exact e
theorem pw_or1 (ha : PT X a tA) : PW X (.BoolOp .Or [a] pos) tA := by
  intro wh pins s σ H Q I h
  refine isTrue_or (thn (ha pins s σ H Q I h) fun c s1 e => ?_)
  cases c with
  | false => exact isTrue_or_nil e
  | true => exact e
theorem pw_and (ha : PT X a tA) (hb : PW X (.BoolOp .And (b :: rest) pos) tB') : PW X (.BoolOp .And (a :: b :: rest) pos) (tAnd tA tB') := by
  intro wh pins s σ H Q I h
  refine isTrue_and (thn (ha pins s σ H _ I h) fun c s1 ⟨H1, I1, q1⟩ => ?_)
  cases c with
  | true => exact hb wh pins s1 σ H1 Q I1 q1
  | false => exact ⟨H1, I1, q1⟩
theorem pw_or (ha : PT X a tA) (hb : PW X (.BoolOp .Or (b :: rest) pos) tB') : PW X (.BoolOp .Or (a :: b :: rest) pos) (tOr tA tB') := by
  intro wh pins s σ H Q I h
  refine isTrue_or (thn (ha pins s σ H _ I h) fun c s1 ⟨H1, I1, q1⟩ => ?_)
  cases c with
  | true => exact ⟨H1, I1, q1⟩
  | false => exact hb wh pins s1 σ H1 Q I1 q1
theorem pt_not (ha : PT X a tA) : PT X (.UnaryOp .Not a pos) (tNot tA) := by
  intro pins s σ H Q I h
  exact isTrue_not (ha pins s σ H (fun c H1 => Q (!c) H1) I h)
def tAndV (ta tb : TE) : TE := fun σ H Q => ta σ H fun x H1 => ∃ c, x = .bl c ∧ if c = true then tb σ H1 Q else Q (.bl false) H1
def tNotV (ta : TE) : TE := fun σ H Q => ta σ H fun x H1 => ∃ c, x = .bl c ∧ Q (.bl (!c)) H1
theorem pe_one {op} {t : TE} (h : PE X a t) : PE X (.BoolOp op [a] pos) t := fun pins s σ H Q I hw => BoolOp_one (h pins s σ H Q I hw)
theorem pe_and (ha : PE X a ta) (hb : PE X (.BoolOp .And (b :: rest) pos) tb) : PE X (.BoolOp .And (a :: b :: rest) pos) (tAndV ta tb) := by
  intro pins s σ H Q I h
  refine BoolOp_and (thn (ha pins s σ H _ I h) fun v s1 ⟨x, H1, I1, r1, q1⟩ => ?_)
  obtain ⟨c, rfl, q1⟩ := q1
  cases r1
  refine wpAny_truthy_bool ?_
  cases c with
  | true => exact hb pins s1 σ H1 Q I1 q1
  | false => exact ⟨.bl false, H1, I1, rfl, q1⟩
theorem pe_not (ha : PE X a ta) : PE X (.UnaryOp .Not a pos) (tNotV ta) := by
  intro pins s σ H Q I h
  refine UnaryOp_ (thn (ha pins s σ H _ I h) fun v s1 ⟨x, H1, I1, r1, q1⟩ => ?_)
  obtain ⟨c, rfl, q1⟩ := q1
  cases r1
  exact not_of (wpAny_truthy_bool ⟨.bl (!c), H1, I1, rfl, q1⟩)
end
end L2
namespace L2
open PySem PySem.Spec PyProof.Rows
def SqL (K : PySem.W.Frag) (H : Hp) (a : Addr) (xs : List V) : Prop :=
  Rd H a (.lst xs) ∨
    ∃ (o : Obj) (its : Array Value) (n : Nat), K.lookup a = some o ∧ o.cls = .type "list" ∧ o.dict = none ∧ o.data = .seq its n ∧ its.size ≤ sizeLine ∧ Vals xs its.toList
def SqT (K : PySem.W.Frag) (H : Hp) (a : Addr) (xs : List V) : Prop :=
  Rd H a (.tup xs) ∨
    ∃ (o : Obj) (its : Array Value) (n : Nat), K.lookup a = some o ∧ o.cls = .type "tuple" ∧ o.data = .seq its n ∧ its.size ≤ sizeLine ∧ Vals xs its.toList
def absV : Value → Option V
  | .none => some .non
  | .bool b => some (.bl b)
  | .int i _ => some (.int i)
  | .str x _ => some (.str x)
  | .bytes b _ => some (.byt b)
  | .float b _ => some (.flt b)
  | .ref a => some (.ref a)
  | .type n => some (.ty n)
  | _ => none
theorem RelV.abs {x : V} {u : Value} (r : RelV x u) : absV u = some x := by
  cases x with
  | non => cases r; rfl
  | bl _ => cases r; rfl
  | int _ => obtain ⟨t, rfl⟩ := r; rfl
  | str _ => obtain ⟨t, rfl⟩ := r; rfl
  | byt _ => obtain ⟨t, rfl⟩ := r; rfl
  | flt _ => obtain ⟨t, rfl⟩ := r; rfl
  | ref _ => cases r; rfl
  | ty _ => cases r; rfl
theorem RelV.inj {x y : V} {u : Value} (r : RelV x u) (q : RelV y u) : x = y := Option.some.inj (r.abs.symm.trans q.abs)
theorem Vals.inj : ∀ {xs ys : List V} {us : List Value}, Vals xs us → Vals ys us → xs = ys
  | _, _, _, .nil, .nil => rfl
  | _, _, _, .cons r t, .cons r' t' => by rw [r.inj r', Vals.inj t t']
section
variable {X : Cx} {pins : List (Addr × Obj)} {σ : St} {H : Hp} {s : Shared} {a : Addr} {xs ys : List V}
theorem SqL.of {K : PySem.W.Frag} (h : H a = some (.lst xs)) : SqL K H a xs := .inl (.inl h)
theorem SqT.of {K : PySem.W.Frag} (h : H a = some (.tup xs)) : SqT K H a xs := .inl (.inl h)
theorem Inv.list (I : Inv X pins σ H s) (h : SqL X.K H a xs) : ∃ its : List Value, Vals xs its ∧ PlainL s.heap a its.toArray ∧ xs.length ≤ sizeLine := by
  rcases h with h | ⟨o, its, n, hk, hc, hd, hs, hz, r⟩
  · obtain ⟨z, its, n, r, e⟩ := h.ok I.hok
    exact ⟨its, r, ⟨_, n, e, rfl, rfl, rfl⟩, z⟩
  · refine ⟨its.toList, r, ⟨o, n, I.kIn a o hk, hc, hd, by simpa using hs⟩, ?_⟩
    have e := r.length
    simp only [Array.length_toList] at e
    omega
theorem Inv.tuple (I : Inv X pins σ H s) (h : SqT X.K H a xs) : ∃ its : List Value, Vals xs its ∧ IsTup s.heap a its.toArray ∧ xs.length ≤ sizeLine := by
  rcases h with h | ⟨o, its, n, hk, hc, hs, hz, r⟩
  · obtain ⟨z, its, r, p⟩ := h.ok I.hok
    exact ⟨its, r, p, z⟩
  · refine ⟨its.toList, r, ⟨o, I.kIn a o hk, hc, n, by simpa using hs⟩, ?_⟩
    have e := r.length
    simp only [Array.length_toList] at e
    omega
theorem Inv.list_inj (I : Inv X pins σ H s) (h : SqL X.K H a xs) (h' : SqL X.K H a ys) : xs = ys := by
  obtain ⟨its, r, ⟨o, n, e, _, _, d⟩, _⟩ := I.list h
  obtain ⟨its', r', ⟨o', n', e', _, _, d'⟩, _⟩ := I.list h'
  rw [e] at e'; cases e'
  rw [d] at d'
  injection d' with d1 _
  have : its = its' := by simpa using congrArg Array.toList d1
  subst this
  exact r.inj r'
theorem Inv.tuple_inj (I : Inv X pins σ H s) (h : SqT X.K H a xs) (h' : SqT X.K H a ys) : xs = ys := by
  obtain ⟨its, r, ⟨o, e, _, n, d⟩, _⟩ := I.tuple h
  obtain ⟨its', r', ⟨o', e', _, n', d'⟩, _⟩ := I.tuple h'
  rw [e] at e'; cases e'
  rw [d] at d'
  injection d' with d1 _
  have : its = its' := by simpa using congrArg Array.toList d1
  subst this
  exact r.inj r'
end
abbrev Cx.wish (X : Cx) (E : Value → Shared → Prop) : Cx := { X with xe := E }
abbrev Cx.nox (X : Cx) : Cx := X.wish fun _ _ => False
theorem Cx.Ok.wish {X : Cx} (ok : X.Ok) (E : Value → Shared → Prop) : (X.wish E).Ok :=
  ⟨ok.mod, ok.kind, ok.glob, ok.blt, ok.above, ok.inj, ok.has, ok.cab, ok.hd, ok.frames, ok.stk, ok.exf, ok.bs, ok.bsz, ok.noex, ok.exfs, ok.funs, ok.frf⟩
theorem Cx.Ok.unwish {X : Cx} {E : Value → Shared → Prop} (ok : (X.wish E).Ok) : X.Ok :=
  ⟨ok.mod, ok.kind, ok.glob, ok.blt, ok.above, ok.inj, ok.has, ok.cab, ok.hd, ok.frames, ok.stk, ok.exf, ok.bs, ok.bsz, ok.noex, ok.exfs, ok.funs, ok.frf⟩
section
variable {X : Cx} {pins : List (Addr × Obj)} {σ : St} {H : Hp} {s : Shared} {E : Value → Shared → Prop}
theorem Inv.wish (I : Inv X pins σ H s) (E : Value → Shared → Prop) : Inv (X.wish E) pins σ H s := ⟨I.ok.wish E, I.os, I.bare, I.base, I.loc, I.cell, I.free, I.freeC, I.pin, I.hok, I.len⟩
theorem Inv.unwish (I : Inv (X.wish E) pins σ H s) : Inv X pins σ H s := ⟨I.ok.unwish, I.os, I.bare, I.base, I.loc, I.cell, I.free, I.freeC, I.pin, I.hok, I.len⟩
theorem SP.unwish {D : Ends} {f : Flow} {s' : Shared} (h : SP (X.wish E) pins D f s') : SP X pins D f s' := by
  cases f with
  | next => obtain ⟨σ', H', I, q⟩ := h; exact ⟨σ', H', I.unwish, q⟩
  | brk => obtain ⟨σ', H', I, q⟩ := h; exact ⟨σ', H', I.unwish, q⟩
  | cont => obtain ⟨σ', H', I, q⟩ := h; exact ⟨σ', H', I.unwish, q⟩
  | ret u => obtain ⟨v, σ', H', I, r, q⟩ := h; exact ⟨v, σ', H', I.unwish, r, q⟩
theorem PSs.nox {st : List Stmt} {t : TS} (h : PSs X.nox st t) : PSs X st t := fun pins s σ H D I hw =>
  wpAny_mono (h pins s σ H D (I.wish _) hw) (fun _ _ q => q.unwish) fun _ _ z => False.elim z
end
section
variable {X : Cx} {st : Stmt} {rest : List Stmt} {t u : TS} {e : Expr} {te : TE} {pos : Pos}
def tNext : TS := fun D σ H => D.nx σ H
def tSeq (t u : TS) : TS := fun D σ H => t { D with nx := u D } σ H
theorem pss_nil : PSs X [] tNext := fun _ _ σ H _ I h => wpAny_execs_nil ⟨σ, H, I, h⟩
theorem pss_cons (h1 : PS X st t) (h2 : PSs X rest u) : PSs X (st :: rest) (tSeq t u) := by
  intro pins s σ H D I h
  refine wpAny_execs_cons (thn (h1 pins s σ H { D with nx := u D } I h) fun f s1 q => ?_)
  cases f with
  | next =>
    obtain ⟨σ', H', I', q⟩ := q
    exact h2 pins s1 σ' H' D I' q
  | ret v => exact q
  | brk => exact q
  | cont => exact q
theorem pss_one (h1 : PS X st t) : PSs X [st] t := by
  intro pins s σ H D I h
  refine wpAny_execs_cons (thn (h1 pins s σ H D I h) fun f s1 q => ?_)
  cases f with
  | next => exact wpAny_execs_nil q
  | ret v => exact q
  | brk => exact q
  | cont => exact q
theorem Inv.quiet {pins : List (Addr × Obj)} {σ : St} {H : Hp} {s : Shared} (I : Inv X pins σ H s) : interactive X.env = false := by simp [interactive, I.ok.kind]
def tDrop (te : TE) : TS := fun D σ H => te σ H fun _ H1 => D.nx σ H1
theorem ps_expr (he : PE X e te) (hs : swapsWith e none pos.line X.env = pure false := by rfl) : PS X (.Expr e pos) (tDrop te) := by
  intro pins s σ H D I h
  exact wpAny_Expr_any (thn (he pins s σ H _ I h) fun v s1 ⟨x, H1, I1, r1, q1⟩ => ⟨σ, H1, I1, q1⟩) I.quiet hs
def tRet (te : TE) : TS := fun D σ H => te σ H D.rt
theorem ps_ret (he : PE X e te) : PS X (.Return (some e) pos) (tRet te) := by
  intro pins s σ H D I h
  exact wpAny_Return_some (thn (he pins s σ H _ I h) fun v s1 ⟨x, H1, I1, r1, q1⟩ => ⟨x, σ, H1, I1, r1, q1⟩)
def tIfS (c : TT) (t u : TS) : TS := fun D σ H => c σ H fun b H1 => if b = true then t D σ H1 else u D σ H1
theorem ps_if {c : Expr} {a b : List Stmt} {tc : TT} (hc : PT X c tc) (ha : PSs X a t) (hb : PSs X b u) : PS X (.If c a b pos) (tIfS tc t u) := by
  intro pins s σ H D I h
  refine wpAny_If (thn (hc pins s σ H _ I h) fun d s1 ⟨H1, I1, q1⟩ => ?_)
  cases d with
  | true => exact ha pins s1 σ H1 D I1 q1
  | false => exact hb pins s1 σ H1 D I1 q1
end
abbrev TG := V → St → Hp → (St → Hp → Prop) → Prop
abbrev TGs := List V → St → Hp → (St → Hp → Prop) → Prop
def PG (X : Cx) (target : Expr) (t : TG) : Prop :=
  ∀ (pins : List (Addr × Obj)) (s : Shared) (σ : St) (H : Hp) (v : V) (u : Value) (Q : St → Hp → Prop), Inv X pins σ H s → RelV v u → t v σ H Q →
    wpAny (model X.prog X.w) X.A (assign target X.env u) (fun _ s' => ∃ σ' H', Inv X pins σ' H' s' ∧ Q σ' H') X.xe s
def PGs (X : Cx) (ts : List Expr) (t : TGs) : Prop :=
  ∀ (pins : List (Addr × Obj)) (s : Shared) (σ : St) (H : Hp) (vs : List V) (us : List Value) (Q : St → Hp → Prop), Inv X pins σ H s → Vals vs us → t vs σ H Q →
    wpAny (model X.prog X.w) X.A (assignInOrder ((assignEach ts X.env).map (·.2)) us) (fun _ s' => ∃ σ' H', Inv X pins σ' H' s' ∧ Q σ' H') X.xe s
abbrev TIp := V → V → Hp → VK → Prop
def PIp (X : Cx) (op : Operator) (t : TIp) : Prop :=
  ∀ (pins : List (Addr × Obj)) (s : Shared) (σ : St) (H : Hp) (x y : V) (v u : Value) (Q : VK), Inv X pins σ H s → RelV x v → RelV y u → t x y H Q →
    wpAny (model X.prog X.w) X.A (inplaceOp op v u) (EP X pins σ Q) X.xe s
section
variable {X : Cx} {pos : Pos}
def gName (i : Nat) : TG := fun v σ H Q => Q (σ.set i (some v)) H
theorem pg_name {i : Nat} {x : Str} (hN : X.N.Nodup) (hi : X.N[i]? = some x) (hx : Loc X.env.scope x) (hf : X.fn x = true ∨ X.env.scope.names.lookup x = some .local := by first | exact .inl rfl | exact .inr rfl | assumption) : PG X (.Name x pos) (gName i) := by
  intro pins s σ H v u Q I r h
  exact wpAny_assign_Name (store_ok I hN hi hx r (fun s' I' => ⟨_, H, I', h⟩) hf)
def gNil : TGs := fun vs σ H Q => vs = [] ∧ Q σ H
def gCons (t : TG) (u : TGs) : TGs := fun vs σ H Q => ∃ v r, vs = v :: r ∧ t v σ H fun σ' H' => u r σ' H' Q
theorem pgs_nil : PGs X [] gNil := by
  intro pins s σ H vs us Q I r h
  obtain ⟨e, h⟩ := h
  subst e
  cases r
  exact assignInOrder_nil ⟨σ, H, I, h⟩
theorem pgs_cons {e : Expr} {es : List Expr} {t : TG} {u : TGs} (h1 : PG X e t) (h2 : PGs X es u)
    (hs : (assignEach (e :: es) X.env).map (·.2) = assign e X.env :: (assignEach es X.env).map (·.2) := by rfl) : PGs X (e :: es) (gCons t u) := by
  intro pins s σ H vs us Q I r h
  obtain ⟨v, vr, e1, h⟩ := h
  subst e1
  cases r with
  | cons r rr =>
    rw [hs]
    refine assignInOrder_cons (thn (h1 pins s σ H _ _ _ I r h) fun _ s1 ⟨σ1, H1, I1, q1⟩ => ?_)
    exact h2 pins s1 σ1 H1 _ _ Q I1 rr q1
def gTup (K : PySem.W.Frag) (n : Nat) (t : TGs) : TG := fun v σ H Q => ∃ a xs, v = .ref a ∧ SqT K H a xs ∧ xs.length = n ∧ t xs σ H Q
theorem pg_tup {es : List Expr} {k : Nat} {t : TGs} {n : Nat} (hc : X.calm = true) (h : PGs X es t)
    (hn : (assignEach es X.env).length = n := by rfl) (hst : (assignEach es X.env).findIdx? (·.1) = none := by rfl) : PG X (.Tuple es k pos) (gTup X.K n t) := by
  intro pins s σ H v u Q I r hw
  obtain ⟨a, xs, e1, hq, hl, hw⟩ := hw
  subst e1
  cases r
  obtain ⟨its, rv, ht, hz⟩ := I.tuple hq
  refine assign_Tuple_tuple (I.ok.hd hc) ht (by simp [hn, ← hl, rv.length]) hst fun h' hx => ?_
  have I1 : Inv X pins σ H { s with heap := h' } := I.kept (t' := s.toks) fun b o e => hx b o (Nat.ne_of_lt (Heap.lt_size e)) e
  exact h pins _ σ H xs _ Q I1 (by simpa using rv) hw
def tAsg (te : TE) (g : TG) : TS := fun D σ H => te σ H fun x H1 => g x σ H1 D.nx
theorem ps_asg {tg e : Expr} {te : TE} {g : TG} (he : PE X e te) (hg : PG X tg g) (hs : swapsWithSole [tg] e pos.line X.env = pure false := by rfl) (hw : swappedStores [tg] e X.env = pure none := by rfl)
    (h1 : (assignEach [tg] X.env).map (·.2) = [assign tg X.env] := by rfl) : PS X (.Assign [tg] e pos) (tAsg te g) := by
  intro pins s σ H D I h
  refine wpAny_Assign_stores (thn (he pins s σ H _ I h) fun v s1 ⟨x, H1, I1, r1, q1⟩ => ?_) hs hw
  rw [h1]
  exact thn (hg pins s1 σ H1 x v _ I1 r1 q1) fun _ s2 q => q
theorem ps_set {i : Nat} {x : Str} {e : Expr} {te : TE} {pos' : Pos} (hN : X.N.Nodup) (hi : X.N[i]? = some x) (hx : Loc X.env.scope x) (he : PE X e te) (hs : swapsWith e (some (.Name x pos')) pos.line X.env = pure false := by rfl) (hf : X.fn x = true ∨ X.env.scope.names.lookup x = some .local := by first | exact .inl rfl | exact .inr rfl | assumption) :
    PS X (.Assign [.Name x pos'] e pos) (tAsg te (gName i)) := by
  intro pins s σ H D I h
  refine wpAny_Assign_Name (thn (he pins s σ H _ I h) fun v s1 ⟨y, H1, I1, r1, q1⟩ => ?_) hs
  exact store_ok I1 hN hi hx r1 (fun s2 I2 => ⟨_, H1, I2, q1⟩) hf
def tAug (i : Nat) (te : TE) (ti : TIp) : TS := fun D σ H => ∃ x, σ[i]? = some (some x) ∧ te σ H fun y H1 => ti x y H1 fun z H2 => D.nx (σ.set i (some z)) H2
theorem ps_aug {i : Nat} {x : Str} {e : Expr} {te : TE} {op : Operator} {ti : TIp} {pos' : Pos} (hN : X.N.Nodup) (hi : X.N[i]? = some x) (hx : Loc X.env.scope x) (he : PE X e te) (ho : PIp X op ti) (hf : X.fn x = true ∨ X.env.scope.names.lookup x = some .local := by first | exact .inl rfl | exact .inr rfl | assumption) :
    PS X (.AugAssign (.Name x pos') op e pos) (tAug i te ti) := by
  intro pins s σ H D I h
  obtain ⟨v, e1, h⟩ := h
  obtain ⟨m, hn, hl⟩ := I.loc
  have vis : Vis X.env.scope x := by rcases hx with k | k; exact .inl k; exact .inr (.inl k)
  obtain ⟨u, r, l⟩ := hl i x v hi e1 vis
  refine wpAny_AugAssign_Name ?_
  have go : wpAny (model X.prog X.w) X.A (eval e X.env) (fun w s₂ => wpAny (model X.prog X.w) X.A (inplaceOp op u w) (fun r s₃ => wpAny (model X.prog X.w) X.A (storeName X.env x r) (fun _ => SP X pins D .next) X.xe s₃) X.xe s₂) X.xe s := by
    refine thn (he pins s σ H _ I h) fun w s1 ⟨y, H1, I1, r1, q1⟩ => ?_
    refine thn (ho pins s1 σ H1 v y u w _ I1 r r1 q1) fun z s2 ⟨zv, H2, I2, r2, q2⟩ => ?_
    exact store_ok I2 hN hi hx r2 (fun s3 I3 => ⟨_, H2, I3, q2⟩) hf
  rcases l with ⟨hk, hm⟩ | ⟨hk, c, hc, hcell⟩
  · exact wpAny_loadName_local I.ok.kind hk hn hm go
  · rcases hk with hk | hk
    · exact wpAny_loadName_cell I.ok.kind hk hc hcell go
    · rcases hx with k | k
      · have : X.env.scope.names.lookup x = some .free := hk
        rw [k] at this; cases this
      · have : X.env.scope.names.lookup x = some .free := hk
        rw [k] at this; cases this
def ipI (f : Int → Int → Int) : TIp := fun x y H Q => ∃ i j, x = .int i ∧ y = .int j ∧ Q (.int (f i j)) H
theorem ip_add : PIp X .Add (ipI fun i j => i + j) := by
  intro pins s σ H x y v u Q I r1 r2 h
  obtain ⟨i, j, e1, e2, q⟩ := h
  subst e1; subst e2
  obtain ⟨t, rfl⟩ := r1
  obtain ⟨t', rfl⟩ := r2
  exact iadd_int ⟨.int _, H, I.tok _, ⟨_, rfl⟩, q⟩
end
section
variable {X : Cx} {pos : Pos}
def tWhile (c : TT) (tb : TS) : TS := fun D σ H => ∃ W : Nat → St → Hp → Prop, (∃ m, W m σ H) ∧ ∀ m σ H, W m σ H →
  c σ H fun b H1 => if b = true then ∃ N : St → Hp → Prop, (∀ σ' H', N σ' H' → ∃ m', m' < m ∧ W m' σ' H') ∧ tb { D with nx := N, ct := N, bk := D.nx } σ H1 else D.nx σ H1
theorem ps_while {c : Expr} {body : List Stmt} {tc : TT} {tb : TS} (hp : PassesOwn (model X.prog X.w) X.A X.env X.xe) (hc : PT X c tc) (hb : PSs X body tb) : PS X (.While c body [] pos) (tWhile tc tb) := by
  intro pins s σ H D I h
  obtain ⟨W, ⟨m0, w0⟩, turn⟩ := h
  refine wpAny_While (codeAny_whileLoop (fun n s' => ∃ σ' H', Inv X pins σ' H' s' ∧ W n σ' H') ?_ m0 ⟨σ, H, I, w0⟩)
  rintro n s1 ⟨σ1, H1, I1, w1⟩
  refine wpAny_passesOwn hp (thn (hc pins s1 σ1 H1 _ I1 (turn n σ1 H1 w1)) fun b s2 ⟨H2, I2, q2⟩ => ?_)
  cases b with
  | true =>
    obtain ⟨N, hN, q2⟩ := q2
    rw [if_pos rfl]
    refine wpAny_passesOwn hp (thn (hb pins s2 σ1 H2 _ I2 q2) fun f s3 q3 => ?_)
    cases f with
    | next =>
      obtain ⟨σ3, H3, I3, n3⟩ := q3
      obtain ⟨m', hm, w3⟩ := hN σ3 H3 n3
      exact ⟨m', hm, σ3, H3, I3, w3⟩
    | cont =>
      obtain ⟨σ3, H3, I3, n3⟩ := q3
      obtain ⟨m', hm, w3⟩ := hN σ3 H3 n3
      exact ⟨m', hm, σ3, H3, I3, w3⟩
    | brk => exact q3
    | ret v => exact q3
  | false =>
    rw [if_neg Bool.false_ne_true]
    exact wpAny_execs_nil ⟨σ1, H2, I2, q2⟩
end
structure It where
  go : Nat → Hp → Prop
  yld : Nat → Hp → V → Hp → Prop
  stop : Nat → Hp → Prop
def FpOk (X : Cx) (pins : List (Addr × Obj)) (H : Hp) (b : Addr) : Prop :=
  H b = none ∧ b ≠ X.env.locals ∧ b ∉ X.fs ∧ (b ∈ X.ex ∨ X.s₀.heap.objs.size ≤ b) ∧ (∀ x c, X.env.cells.lookup x = some c → c ≠ b) ∧ ∀ p ∈ X.pn ++ pins, p.1 ≠ b
theorem Inv.fpOk {X : Cx} {pins : List (Addr × Obj)} {σ : St} {H H' : Hp} {s : Shared} {b : Addr} (I : Inv X pins σ H s) (hb : s.heap.objs.size ≤ b) (hn : H' b = none) : FpOk X pins H' b := by
  refine ⟨hn, Nat.ne_of_gt (Nat.lt_of_lt_of_le I.lt hb), I.nofs hb, .inr (Nat.le_trans I.sz hb), fun x c e z => ?_, fun p hp z => ?_⟩
  · obtain ⟨v, q⟩ := I.cell x c e
    exact absurd (Nat.lt_of_lt_of_le q.lt (by rw [z]; exact hb)) (Nat.lt_irrefl _)
  · exact absurd (Nat.lt_of_lt_of_le (Heap.lt_size (I.pin p hp).1) (by rw [z]; exact hb)) (Nat.lt_irrefl _)
structure Turn (P : Program) (w : World) (K : PySem.W.Frag) (tg : Expr) (J : It) (fp : List Addr) (it : Addr) (tn : Nat → Heap → Prop) : Prop where
  mem : it ∈ fp
  obj : ∀ i h, tn i h → ∀ b ∈ fp, ∃ o, h.get? b = some o ∧ ∀ v, o.data ≠ .cell v
  keep : ∀ i h h', tn i h → (∀ b ∈ fp, ∀ o, h.get? b = some o → h'.get? b = some o) → tn i h'
  item : ∀ (X : Cx), X.prog = P → X.w = w → X.K = K → X.calm = true → ∀ (i : Nat) (pins : List (Addr × Obj)) (s : Shared) (σ : St) (H : Hp) (E : Value → Shared → Prop), Inv X pins σ H s → (∀ b ∈ fp, FpOk X pins H b) → tn i s.heap → J.go i H →
    wpAny (model P w) X.A (pyNext (.ref it)) (fun r s1 => ∃ u, r = some u ∧
      wpAny (model P w) X.A (letOwnedTupleGo tg (.ref it) u) (fun _ s2 => ∃ x H', Inv X pins σ H' s2 ∧ RelV x u ∧ J.yld i H x H' ∧ tn (i + 1) s2.heap ∧ ∀ b ∈ fp, H' b = none) E s1) E s
  done : ∀ (X : Cx), X.prog = P → X.w = w → X.K = K → X.calm = true → ∀ (i : Nat) (pins : List (Addr × Obj)) (s : Shared) (σ : St) (H : Hp) (E : Value → Shared → Prop), Inv X pins σ H s → (∀ b ∈ fp, FpOk X pins H b) → tn i s.heap → J.stop i H →
    wpAny (model P w) X.A (pyNext (.ref it)) (fun r s1 => r = none ∧ Inv X pins σ H s1) E s
  self : ∀ (A : Around) (i : Nat) (s : Shared) (Q : Value → Shared → Prop) (E : Value → Shared → Prop), tn i s.heap → Q (.ref it) s → wpAny (model P w) A (pyIter (.ref it)) Q E s
abbrev TI := St → Hp → (It → Hp → Prop) → Prop
def PIE (X : Cx) (pins : List (Addr × Obj)) (σ : St) (tg : Expr) (R : It → Hp → Prop) (itv : Value) (s2 : Shared) : Prop :=
  ∃ (it : Addr) (fp : List Addr) (tn : Nat → Heap → Prop) (J : It) (H' : Hp), itv = .ref it ∧ Inv X pins σ H' s2 ∧ Turn X.prog X.w X.K tg J fp it tn ∧ tn 0 s2.heap ∧ (∀ b ∈ fp, FpOk X pins H' b) ∧ R J H'
def PI (X : Cx) (tg iter : Expr) (wi : TI) : Prop :=
  ∀ (pins : List (Addr × Obj)) (s : Shared) (σ : St) (H : Hp) (R : It → Hp → Prop), Inv X pins σ H s → wi σ H R →
    wpAny (model X.prog X.w) X.A (eval iter X.env) (fun v s1 => wpAny (model X.prog X.w) X.A (pyIter v) (PIE X pins σ tg R) X.xe s1) X.xe s
theorem go_of {M : Model} {A : Around} {E : Value → Shared → Prop} {s : Shared} {tg : Expr} {it : Addr} {u : Value} {o : Obj} {n : String} {vs : Array Value} {Q : Unit → Shared → Prop} (ho : s.heap.get? it = some o) (hc : o.cls = .type n) (hd : o.data = .fields vs)
    (hn : ["enumerate", "zip", "dict_itemiterator", "dict_reverseitemiterator", "odict_iterator", "itertools.zip_longest", "itertools.pairwise"].contains n = false) (hQ : Q () s) : wpAny M A (letOwnedTupleGo tg (.ref it) u) Q E s := by
  unfold letOwnedTupleGo
  cases tg <;> first
    | exact wpAny_pure hQ
    | (cases u <;> first
        | exact wpAny_pure hQ
        | (refine wpAny_bind (wpAny_load ho ?_)
           rw [hc, hd]
           show wpAny M A (if (["enumerate", "zip", "dict_itemiterator", "dict_reverseitemiterator", "odict_iterator", "itertools.zip_longest", "itertools.pairwise"].contains n && vs[0]? == some (rawInt _)) = true then _ else _) Q E s
           rw [if_neg (by intro h; rw [hn, Bool.false_and] at h; cases h)]
           exact wpAny_pure hQ))
def Itl (K : PySem.W.Frag) (a : Addr) : It :=
  ⟨fun i H => ∃ xs x, SqL K H a xs ∧ xs[i]? = some x, fun i H x H' => H' = H ∧ ∀ xs, SqL K H a xs → xs[i]? = some x, fun i H => ∃ xs, SqL K H a xs ∧ xs.length ≤ i⟩
def Itt (K : PySem.W.Frag) (a : Addr) : It :=
  ⟨fun i H => ∃ xs x, SqT K H a xs ∧ xs[i]? = some x, fun i H x H' => H' = H ∧ ∀ xs, SqT K H a xs → xs[i]? = some x, fun i H => ∃ xs, SqT K H a xs ∧ xs.length ≤ i⟩
def Itr (lo : Int) (n : Nat) : It := ⟨fun i _ => i < n, fun i H x H' => H' = H ∧ x = .int (lo + i), fun i _ => n ≤ i⟩
theorem turn_list {P : Program} {w : World} {K : PySem.W.Frag} {tg : Expr} (a it : Addr) : Turn P w K tg (Itl K a) [it] it (fun i h => h.IsListIter it a i) where
  mem := by simp
  obj := fun i h st b hb => by
    have e : b = it := by simpa using hb
    subst e
    obtain ⟨o, e, c, d⟩ := st
    exact ⟨o, e, fun v z => by rw [d] at z; cases z⟩
  keep := fun i h h' st k => st.at fun o e => k it (by simp) o e
  item := by
    intro X hP hw hK hc i pins s σ H E I hf st hg
    subst hP hw hK
    obtain ⟨xs, x, hq, hx⟩ := hg
    obtain ⟨its, rv, p, hz⟩ := I.list hq
    obtain ⟨u, hu, ru⟩ := rv.get hx
    obtain ⟨f0, f1, f2, f3, f4, f5⟩ := hf it (by simp)
    refine wpAny_pyNext_list_item st p.isList (x := u) (by simpa using hu) fun h' st' sb => ?_
    have I1 : Inv X pins σ H { s with heap := h' } := I.turned (t' := s.toks) (fun b o hb e => (sb.2 b hb).trans e) f0 f1 f3 f4 f5
    obtain ⟨o, e, c, d⟩ := id st'
    exact ⟨u, rfl, go_of (s := { s with heap := h' }) e c d (by decide) ⟨x, H, I1, ru, ⟨rfl, fun ys hy => by rw [I.list_inj hy hq]; exact hx⟩, st', fun b hb => (hf b hb).1⟩⟩
  done := by
    intro X hP hw hK hc i pins s σ H E I hf st hg
    subst hP hw hK
    obtain ⟨xs, hq, hx⟩ := hg
    obtain ⟨its, rv, p, hz⟩ := I.list hq
    obtain ⟨f0, f1, f2, f3, f4, f5⟩ := hf it (by simp)
    have hl := rv.length
    exact wpAny_pyNext_list_end (I.ok.hd hc) st p.isList (by simp; omega) fun h' eb => ⟨rfl, I.turned (t' := s.toks) (fun b o hb e => eb b o hb e) f0 f1 f3 f4 f5⟩
  self := fun _ _ _ _ _ st h => wpAny_pyIter_listiter st h
theorem turn_tuple {P : Program} {w : World} {K : PySem.W.Frag} {tg : Expr} (a it : Addr) : Turn P w K tg (Itt K a) [it] it (fun i h => h.IsTupleIter it a i) where
  mem := by simp
  obj := fun i h st b hb => by
    have e : b = it := by simpa using hb
    subst e
    obtain ⟨o, e, c, d⟩ := st
    exact ⟨o, e, fun v z => by rw [d] at z; cases z⟩
  keep := fun i h h' st k => st.at fun o e => k it (by simp) o e
  item := by
    intro X hP hw hK hc i pins s σ H E I hf st hg
    subst hP hw hK
    obtain ⟨xs, x, hq, hx⟩ := hg
    obtain ⟨its, rv, p, hz⟩ := I.tuple hq
    obtain ⟨u, hu, ru⟩ := rv.get hx
    obtain ⟨f0, f1, f2, f3, f4, f5⟩ := hf it (by simp)
    refine wpAny_pyNext_tuple_item st (show s.heap.IsTuple a its.toArray from p) (x := u) (by simpa using hu) fun h' st' sb => ?_
    have I1 : Inv X pins σ H { s with heap := h' } := I.turned (t' := s.toks) (fun b o hb e => (sb.2 b hb).trans e) f0 f1 f3 f4 f5
    obtain ⟨o, e, c, d⟩ := id st'
    exact ⟨u, rfl, go_of (s := { s with heap := h' }) e c d (by decide) ⟨x, H, I1, ru, ⟨rfl, fun ys hy => by rw [I.tuple_inj hy hq]; exact hx⟩, st', fun b hb => (hf b hb).1⟩⟩
  done := by
    intro X hP hw hK hc i pins s σ H E I hf st hg
    subst hP hw hK
    obtain ⟨xs, hq, hx⟩ := hg
    obtain ⟨its, rv, p, hz⟩ := I.tuple hq
    obtain ⟨f0, f1, f2, f3, f4, f5⟩ := hf it (by simp)
    have hl := rv.length
    exact wpAny_pyNext_tuple_end (I.ok.hd hc) st (show s.heap.IsTuple a its.toArray from p) (by simp; omega) fun h' eb => ⟨rfl, I.turned (t' := s.toks) (fun b o hb e => eb b o hb e) f0 f1 f3 f4 f5⟩
  self := fun _ _ _ _ _ st h => wpAny_pyIter_tupleiter st h
theorem turn_range {P : Program} {w : World} {K : PySem.W.Frag} {tg : Expr} (it : Addr) (lo : Int) (n : Nat) : Turn P w K tg (Itr lo n) [it] it (fun i h => IsRangeIter h it (lo + (i : Nat) * 1) ((n : Int) - (i : Nat)) 1) where
  mem := by simp
  obj := fun i h st b hb => by
    have e : b = it := by simpa using hb
    subst e
    exact ⟨_, st, fun v z => by
      have z' : Data.fields _ = Data.cell v := z
      cases z'⟩
  keep := fun i h h' st k => k it (by simp) _ st
  item := by
    intro X hP hw hK hc i pins s σ H E I hf st hg
    subst hP hw hK
    obtain ⟨f0, f1, f2, f3, f4, f5⟩ := hf it (by simp)
    have W := Walks.range (prog := X.prog) (w := X.w) (I.ok.hd hc) it lo 1 n
    refine W.item i s _ _ hg st fun v h' tk hv st' kk => ?_
    obtain ⟨t, rfl⟩ := hv
    have I1 : Inv X pins σ H { s with heap := h', toks := tk } := I.turned (fun b o hb e => kk b o (by simpa using hb) e) f0 f1 f3 f4 f5
    refine ⟨_, rfl, go_of (s := { s with heap := h', toks := tk }) (n := "range_iterator") st' rfl rfl (by decide) ⟨.int (lo + i), H, I1, ⟨t, ?_⟩, ⟨rfl, rfl⟩, st', fun b hb => (hf b hb).1⟩⟩
    rw [Int.mul_one]
  done := by
    intro X hP hw hK hc i pins s σ H E I hf st hg
    subst hP hw hK
    obtain ⟨f0, f1, f2, f3, f4, f5⟩ := hf it (by simp)
    exact wpAny_pyNext_range_end (I.ok.hd hc) st (by have : n ≤ i := hg; omega) fun h' eb => ⟨rfl, I.turned (t' := s.toks) (fun b o hb e => eb b o hb e) f0 f1 f3 f4 f5⟩
  self := fun _ _ _ _ _ st h => wpAny_pyIter_rangeiter st h
end L2
namespace L2
open PySem PySem.Spec PyProof.Rows
section
variable {X : Cx} {tg : Expr}
def iList (K : PySem.W.Frag) (tl : TE) : TI := fun σ H R => tl σ H fun x H1 => ∃ a, x = .ref a ∧ (∃ xs, SqL K H1 a xs) ∧ R (Itl K a) H1
def iTup (K : PySem.W.Frag) (tl : TE) : TI := fun σ H R => tl σ H fun x H1 => ∃ a, x = .ref a ∧ (∃ xs, SqT K H1 a xs) ∧ R (Itt K a) H1
theorem pi_list {l : Expr} {tl : TE} (hl : PE X l tl) : PI X tg l (iList X.K tl) := by
  intro pins s σ H R I h
  refine thn (hl pins s σ H _ I h) fun v s1 ⟨x, H1, I1, r1, q1⟩ => ?_
  obtain ⟨a, e, ⟨xs, hq⟩, q⟩ := q1
  subst e
  cases r1
  obtain ⟨its, rv, p, hz⟩ := I1.list hq
  refine wpAny_pyIter_list p.isList ?_
  refine ⟨s1.heap.objs.size, [s1.heap.objs.size], _, _, H1, rfl, I1.kept (t' := s1.toks) fun b o e => Heap.get?_push_of_some _ e, turn_list a _, ⟨_, Heap.get?_push_size _ rfl, rfl, rfl⟩, fun b hb => ?_, q⟩
  have e : b = s1.heap.objs.size := by simpa using hb
  subst e
  exact I1.fpOk (Nat.le_refl _) (I1.hok.fresh (Nat.le_refl _))
theorem pi_tup {l : Expr} {tl : TE} (hl : PE X l tl) : PI X tg l (iTup X.K tl) := by
  intro pins s σ H R I h
  refine thn (hl pins s σ H _ I h) fun v s1 ⟨x, H1, I1, r1, q1⟩ => ?_
  obtain ⟨a, e, ⟨xs, hq⟩, q⟩ := q1
  subst e
  cases r1
  obtain ⟨its, rv, p, hz⟩ := I1.tuple hq
  refine wpAny_pyIter_tuple (show s1.heap.IsTuple a its.toArray from p) ?_
  refine ⟨s1.heap.objs.size, [s1.heap.objs.size], _, _, H1, rfl, I1.kept (t' := s1.toks) fun b o e => Heap.get?_push_of_some _ e, turn_tuple a _, ⟨_, Heap.get?_push_size _ rfl, rfl, rfl⟩, fun b hb => ?_, q⟩
  have e : b = s1.heap.objs.size := by simpa using hb
  subst e
  exact I1.fpOk (Nat.le_refl _) (I1.hok.fresh (Nat.le_refl _))
theorem range_it {pins : List (Addr × Obj)} {σ : St} {H : Hp} {s : Shared} {R : It → Hp → Prop} {E : Value → Shared → Prop} {lo hi : Int} {t u v : Tok} {tk : Nat} (I : Inv X pins σ H s) (h1 : -(2 ^ 62) ≤ lo) (h2 : lo < 2 ^ 62) (h3 : -(2 ^ 62) ≤ hi) (h4 : hi < 2 ^ 62)
    (q : R (Itr lo (hi - lo).toNat) H) : wpAny (model X.prog X.w) X.A (pyIter (.ref s.heap.objs.size)) (PIE X pins σ tg R) E { s with heap := s.heap.push { cls := .type "range", data := .fields #[.int lo t, .int hi u, .int 1 v] }, toks := tk } := by
  refine wpAny_pyIter_range (IsRange.new ..) (small_one h1 h2 h3 h4) ?_
  have I1 : Inv X pins σ H { s with heap := s.heap.push { cls := .type "range", data := .fields #[.int lo t, .int hi u, .int 1 v] }, toks := tk } := I.kept fun b o e => Heap.get?_push_of_some _ e
  refine ⟨(s.heap.push { cls := .type "range", data := .fields #[.int lo t, .int hi u, .int 1 v] }).objs.size, [(s.heap.push { cls := .type "range", data := .fields #[.int lo t, .int hi u, .int 1 v] }).objs.size], _, _, H, rfl,
    I1.kept (t' := tk) fun b o e => Heap.get?_push_of_some _ e, turn_range _ lo (hi - lo).toNat, ?_, fun b hb => ?_, q⟩
  · have e1 : lo + ((0 : Nat) : Int) * 1 = lo := by simp
    have e2 : (((hi - lo).toNat : Nat) : Int) - ((0 : Nat) : Int) = Builtin.Range.rangeSize lo hi 1 := by rw [rangeSize_one]; split <;> omega
    show IsRangeIter _ _ (lo + ((0 : Nat) : Int) * 1) ((((hi - lo).toNat : Nat) : Int) - ((0 : Nat) : Int)) 1
    rw [e1, e2]
    exact Heap.get?_push_size _ rfl
  · have e : b = (s.heap.push { cls := .type "range", data := .fields #[.int lo t, .int hi u, .int 1 v] }).objs.size := by simpa using hb
    subst e
    exact I1.fpOk (Nat.le_refl _) (I1.hok.fresh (Nat.le_refl _))
def iRng1 (ta : TA) : TI := fun σ H R => ta σ H fun vs H1 => ∃ j : Int, vs = [.int j] ∧ -(2 ^ 62) ≤ j ∧ j < 2 ^ 62 ∧ R (Itr 0 j.toNat) H1
theorem pi_range1 {a : Expr} {ta : TA} {p pos : Pos} (hg : Gl X "range") (hm : X.mg "range" = none) (ha : PA X [a] ta) (hs : starEach [a] X.env = [(false, eval a X.env)] := by rfl) : PI X tg (.Call (.Name "range" p) [a] [] pos) (iRng1 ta) := by
  intro pins s σ H R I h
  refine Call_ (ld_blt I hg hm boot_range (PyProof.Rows.callWith_type1 (thn (ha pos pins s σ H _ I h) fun us s1 ⟨vs, H1, I1, r1, q1⟩ => ?_) hs rfl))
  obtain ⟨j, e, q1, q2, q⟩ := q1
  subst e
  cases r1 with
  | cons r rr =>
    cases rr
    obtain ⟨t, rfl⟩ := r
    exact call_range_1 (range_it I1 (by omega) (by omega) q1 q2 (by simpa using q))
def tFor (wi : TI) (g : TG) (tb : TS) : TS := fun D σ H => wi σ H fun J H1 => ∃ W : Nat → Nat → St → Hp → Prop, (∃ m, W 0 m σ H1) ∧ ∀ i m σ H, W i m σ H →
  (J.stop i H ∧ D.nx σ H) ∨ (J.go i H ∧ ∃ N : St → Hp → Prop, (∀ σ' H', N σ' H' → ∃ m', m' < m ∧ W (i + 1) m' σ' H') ∧ ∀ x H', J.yld i H x H' → g x σ H' fun σ2 H2 => tb { D with nx := N, ct := N, bk := D.nx } σ2 H2)
def pinsAt (fp : List Addr) (h : Heap) : List (Addr × Obj) := fp.filterMap fun b => (h.get? b).map fun o => (b, o)
theorem mem_pinsAt {fp : List Addr} {h : Heap} {b : Addr} {o : Obj} (hb : b ∈ fp) (e : h.get? b = some o) : (b, o) ∈ pinsAt fp h := List.mem_filterMap.mpr ⟨b, hb, by rw [e]; rfl⟩
theorem of_pinsAt {fp : List Addr} {h : Heap} {p : Addr × Obj} (hp : p ∈ pinsAt fp h) : p.1 ∈ fp ∧ h.get? p.1 = some p.2 := by
  obtain ⟨b, hb, e⟩ := List.mem_filterMap.mp hp
  cases q : h.get? b with
  | none => rw [q] at e; cases e
  | some o =>
    rw [q] at e
    have e' : (b, o) = p := Option.some.inj e
    subst e'
    exact ⟨hb, q⟩
theorem Inv.pinned {pins : List (Addr × Obj)} {σ : St} {H : Hp} {s : Shared} {fp : List Addr} (I : Inv X pins σ H s) (hf : ∀ b ∈ fp, FpOk X pins H b) (ho : ∀ b ∈ fp, ∃ o, s.heap.get? b = some o ∧ ∀ v, o.data ≠ .cell v) : Inv X (pins ++ pinsAt fp s.heap) σ H s :=
  I.pins_of fun p hp => (List.mem_append.mp hp).elim (fun z => I.pin p (List.mem_append_right _ z)) fun z => by
    obtain ⟨hb, e⟩ := of_pinsAt z
    obtain ⟨f0, f1, f2, _⟩ := hf p.1 hb
    obtain ⟨o, e', d⟩ := ho p.1 hb
    rw [e] at e'; cases e'
    exact ⟨e, f0, f1, f2, d⟩
theorem Inv.unpinned {pins pl : List (Addr × Obj)} {σ : St} {H : Hp} {s : Shared} (I : Inv X (pins ++ pl) σ H s) : Inv X pins σ H s := I.pins_of fun p hp => I.pin p (List.mem_append_right _ (List.mem_append_left _ hp))
theorem ps_for {iter : Expr} {body : List Stmt} {wi : TI} {g : TG} {tb : TS} {pos : Pos} (hp : PassesOwn (model X.prog X.w) X.A X.env X.xe) (hc : X.calm = true) (hi : PI X tg iter wi) (hg : PG X tg g) (hb : PSs X body tb)
    (hs : ∀ x, foldedSetIterable iter X.env x = pure x := by intro _; rfl) : PS X (.For tg iter body [] pos) (tFor wi g tb) := by
  intro pins s σ H D I h
  refine wpAny_For (thn (hi pins s σ H _ I h) fun v s1 h1 => thn h1 fun itv s2 h2 => ?_) hs
  obtain ⟨it, fp, tn, J, H2, e, I2, T, st2, f2, W, ⟨m0, w0⟩, turn⟩ := h2
  subst e
  have stat : ∀ {H' : Hp}, (∀ b ∈ fp, H' b = none) → ∀ b ∈ fp, FpOk X pins H' b := fun hn b hb => ⟨hn b hb, (f2 b hb).2⟩
  refine codeAny_forLoop_any (fun n s' => ∃ i σ' H', Inv X pins σ' H' s' ∧ tn i s'.heap ∧ (∀ b ∈ fp, H' b = none) ∧ W i n σ' H') ?_ m0 ⟨0, σ, H2, I2, st2, fun b hb => (f2 b hb).1, w0⟩
  rintro n s3 ⟨i, σ3, H3, I3, st3, fr3, w3⟩
  rcases turn i n σ3 H3 w3 with ⟨stop, qn⟩ | ⟨go, N, hN, step⟩
  · refine wpAny_passesOwn hp (thn (T.done X rfl rfl rfl hc i pins s3 σ3 H3 X.xe I3 (stat fr3) st3 stop) fun r s4 ⟨hr, I4⟩ => ?_)
    subst hr
    exact wpAny_execs_nil ⟨σ3, H3, I4, qn⟩
  · refine wpAny_passesOwn hp (thn (T.item X rfl rfl rfl hc i pins s3 σ3 H3 X.xe I3 (stat fr3) st3 go) fun r s4 ⟨u, hr, h4⟩ => ?_)
    subst hr
    refine wpAny_passesOwn hp (thn h4 fun _ s5 ⟨x, H5, I5, r5, y5, st5, fr5⟩ => ?_)
    have I5' := I5.pinned (stat fr5) (T.obj _ _ st5)
    refine wpAny_passesOwn hp (thn (hg _ s5 σ3 H5 x u _ I5' r5 (step x H5 y5)) fun _ s6 ⟨σ6, H6, I6, q6⟩ => ?_)
    refine wpAny_passesOwn hp (thn (hb _ s6 σ6 H6 _ I6 q6) fun f s7 q7 => ?_)
    have again : ∀ {σ7 : St} {H7 : Hp}, Inv X (pins ++ pinsAt fp s5.heap) σ7 H7 s7 → N σ7 H7 → ∃ m, m < n ∧ ∃ i σ' H', Inv X pins σ' H' s7 ∧ tn i s7.heap ∧ (∀ b ∈ fp, H' b = none) ∧ W i m σ' H' := fun {σ7 H7} I7 n7 => by
      obtain ⟨m', hm, w7⟩ := hN σ7 H7 n7
      refine ⟨m', hm, i + 1, σ7, H7, I7.unpinned, T.keep _ _ _ st5 fun b hb o e => (I7.pin (b, o) (List.mem_append_right _ (List.mem_append_right _ (mem_pinsAt hb e)))).1, fun b hb => ?_, w7⟩
      obtain ⟨o, e, d⟩ := T.obj _ _ st5 b hb
      exact (I7.pin (b, o) (List.mem_append_right _ (List.mem_append_right _ (mem_pinsAt hb e)))).2.1
    cases f with
    | next => obtain ⟨σ7, H7, I7, n7⟩ := q7; exact again I7 n7
    | cont => obtain ⟨σ7, H7, I7, n7⟩ := q7; exact again I7 n7
    | brk => obtain ⟨σ7, H7, I7, q7⟩ := q7; exact ⟨σ7, H7, I7.unpinned, q7⟩
    | ret v => obtain ⟨x7, σ7, H7, I7, r7, q7⟩ := q7; exact ⟨x7, σ7, H7, I7.unpinned, r7, q7⟩
end
theorem for_list {K : PySem.W.Frag} {a : Addr} {xs : List V} {g : TG} {tb : TS} {D : Ends} {σ : St} {H : Hp} (Pv : Nat → St → Hp → Prop) (h0 : Pv 0 σ H) (hl : ∀ i σ H, i ≤ xs.length → Pv i σ H → SqL K H a xs)
    (hs : ∀ i x σ H, xs[i]? = some x → Pv i σ H → g x σ H fun σ2 H2 => tb { D with nx := Pv (i + 1), ct := Pv (i + 1), bk := D.nx } σ2 H2) (hd : ∀ σ H, Pv xs.length σ H → D.nx σ H) :
    ∃ W : Nat → Nat → St → Hp → Prop, (∃ m, W 0 m σ H) ∧ ∀ i m σ H, W i m σ H →
      ((Itl K a).stop i H ∧ D.nx σ H) ∨ ((Itl K a).go i H ∧ ∃ N : St → Hp → Prop, (∀ σ' H', N σ' H' → ∃ m', m' < m ∧ W (i + 1) m' σ' H') ∧ ∀ x H', (Itl K a).yld i H x H' → g x σ H' fun σ2 H2 => tb { D with nx := N, ct := N, bk := D.nx } σ2 H2) := by
  refine ⟨fun i m σ H => m = xs.length - i ∧ i ≤ xs.length ∧ Pv i σ H, ⟨xs.length, by simp, Nat.zero_le _, h0⟩, ?_⟩
  rintro i m σ H ⟨rfl, hi, p⟩
  have q := hl i σ H hi p
  by_cases hlt : i < xs.length
  · refine .inr ⟨⟨xs, xs[i], q, by simp [hlt]⟩, Pv (i + 1), fun σ' H' p' => ⟨xs.length - (i + 1), by omega, rfl, hlt, p'⟩, fun x H' y => ?_⟩
    obtain ⟨e, y⟩ := y
    subst e
    exact hs i x σ _ (y xs q) p
  · have e : i = xs.length := by omega
    subst e
    exact .inl ⟨⟨xs, q, Nat.le_refl _⟩, hd σ H p⟩
theorem for_tup {K : PySem.W.Frag} {a : Addr} {xs : List V} {g : TG} {tb : TS} {D : Ends} {σ : St} {H : Hp} (Pv : Nat → St → Hp → Prop) (h0 : Pv 0 σ H) (hl : ∀ i σ H, i ≤ xs.length → Pv i σ H → SqT K H a xs)
    (hs : ∀ i x σ H, xs[i]? = some x → Pv i σ H → g x σ H fun σ2 H2 => tb { D with nx := Pv (i + 1), ct := Pv (i + 1), bk := D.nx } σ2 H2) (hd : ∀ σ H, Pv xs.length σ H → D.nx σ H) :
    ∃ W : Nat → Nat → St → Hp → Prop, (∃ m, W 0 m σ H) ∧ ∀ i m σ H, W i m σ H →
      ((Itt K a).stop i H ∧ D.nx σ H) ∨ ((Itt K a).go i H ∧ ∃ N : St → Hp → Prop, (∀ σ' H', N σ' H' → ∃ m', m' < m ∧ W (i + 1) m' σ' H') ∧ ∀ x H', (Itt K a).yld i H x H' → g x σ H' fun σ2 H2 => tb { D with nx := N, ct := N, bk := D.nx } σ2 H2) := by
  refine ⟨fun i m σ H => m = xs.length - i ∧ i ≤ xs.length ∧ Pv i σ H, ⟨xs.length, by simp, Nat.zero_le _, h0⟩, ?_⟩
  rintro i m σ H ⟨rfl, hi, p⟩
  have q := hl i σ H hi p
  by_cases hlt : i < xs.length
  · refine .inr ⟨⟨xs, xs[i], q, by simp [hlt]⟩, Pv (i + 1), fun σ' H' p' => ⟨xs.length - (i + 1), by omega, rfl, hlt, p'⟩, fun x H' y => ?_⟩
    obtain ⟨e, y⟩ := y
    subst e
    exact hs i x σ _ (y xs q) p
  · have e : i = xs.length := by omega
    subst e
    exact .inl ⟨⟨xs, q, Nat.le_refl _⟩, hd σ H p⟩
theorem for_range {lo : Int} {n : Nat} {g : TG} {tb : TS} {D : Ends} {σ : St} {H : Hp} (Pv : Nat → St → Hp → Prop) (h0 : Pv 0 σ H)
    (hs : ∀ i σ H, i < n → Pv i σ H → g (.int (lo + i)) σ H fun σ2 H2 => tb { D with nx := Pv (i + 1), ct := Pv (i + 1), bk := D.nx } σ2 H2) (hd : ∀ σ H, Pv n σ H → D.nx σ H) :
    ∃ W : Nat → Nat → St → Hp → Prop, (∃ m, W 0 m σ H) ∧ ∀ i m σ H, W i m σ H →
      ((Itr lo n).stop i H ∧ D.nx σ H) ∨ ((Itr lo n).go i H ∧ ∃ N : St → Hp → Prop, (∀ σ' H', N σ' H' → ∃ m', m' < m ∧ W (i + 1) m' σ' H') ∧ ∀ x H', (Itr lo n).yld i H x H' → g x σ H' fun σ2 H2 => tb { D with nx := N, ct := N, bk := D.nx } σ2 H2) := by
  refine ⟨fun i m σ H => m = n - i ∧ i ≤ n ∧ Pv i σ H, ⟨n, by simp, Nat.zero_le _, h0⟩, ?_⟩
  rintro i m σ H ⟨rfl, hi, p⟩
  by_cases hlt : i < n
  · refine .inr ⟨hlt, Pv (i + 1), fun σ' H' p' => ⟨n - (i + 1), by omega, rfl, hlt, p'⟩, fun x H' y => ?_⟩
    obtain ⟨e, y⟩ := y
    subst e y
    exact hs i σ _ hlt p
  · have e : i = n := by omega
    subst e
    exact .inl ⟨Nat.le_refl _, hd σ H p⟩
end L2
namespace L2
open PySem PySem.Spec PyProof.Rows
abbrev R2 := V → V → Hp → VK → Prop
def OpR (X : Cx) (f : Value → Value → Sem Value) (r : R2) : Prop :=
  ∀ (pins : List (Addr × Obj)) (s : Shared) (σ : St) (H : Hp) (x y : V) (v u : Value) (Q : VK), Inv X pins σ H s → RelV x v → RelV y u → r x y H Q →
    wpAny (model X.prog X.w) X.A (f v u) (EP X pins σ Q) X.xe s
def CallR (X : Cx) (f : Value) (r : List V → Hp → VK → Prop) : Prop :=
  ∀ (pins : List (Addr × Obj)) (s : Shared) (σ : St) (H : Hp) (xs : List V) (us : List Value) (Q : VK), Inv X pins σ H s → Vals xs us → r xs H Q →
    wpAny (model X.prog X.w) X.A (call f us) (EP X pins σ Q) X.xe s
def TruR (X : Cx) (r : V → Hp → (Bool → Hp → Prop) → Prop) : Prop :=
  ∀ (pins : List (Addr × Obj)) (s : Shared) (σ : St) (H : Hp) (x : V) (v : Value) (Q : Bool → Hp → Prop), Inv X pins σ H s → RelV x v → r x H Q →
    wpAny (model X.prog X.w) X.A (truthy v) (TP X pins σ Q) X.xe s
def tOp (r : R2) (ta tb : TE) : TE := fun σ H Q => ta σ H fun x H1 => tb σ H1 fun y H2 => r x y H2 Q
def rI (C : Int → Int → Prop) (g : Int → Int → V) : R2 := fun x y H Q => ∃ i j, x = .int i ∧ y = .int j ∧ C i j ∧ Q (g i j) H
def rI0 (g : Int → Int → V) : R2 := fun x y H Q => ∃ i j, x = .int i ∧ y = .int j ∧ Q (g i j) H
section
variable {X : Cx} {a b c : Expr} {ta tb tc : TE} {pos : Pos}
theorem binT (ha : PE X a ta) (hb : PE X b tb) {pins : List (Addr × Obj)} {s : Shared} {σ : St} {H : Hp} {R : V → V → Hp → Prop} (I : Inv X pins σ H s)
    (h : ta σ H fun x H1 => tb σ H1 fun y H2 => R x y H2) {Q : Value → Shared → Prop} {f : Value → Value → Sem Value}
    (hf : ∀ v u s2 x y H2, Inv X pins σ H2 s2 → RelV x v → RelV y u → R x y H2 → wpAny (model X.prog X.w) X.A (f v u) Q X.xe s2) :
    wpAny (model X.prog X.w) X.A (eval a X.env) (fun v s₁ => wpAny (model X.prog X.w) X.A (eval b X.env) (fun u s₂ => wpAny (model X.prog X.w) X.A (f v u) Q X.xe s₂) X.xe s₁) X.xe s := by
  refine thn (ha pins s σ H _ I h) fun v s1 ⟨x, H1, I1, r1, q1⟩ => ?_
  refine thn (hb pins s1 σ H1 _ I1 q1) fun u s2 ⟨y, H2, I2, r2, q2⟩ => ?_
  exact hf v u s2 x y H2 I2 r1 r2 q2
theorem pe_op {op : Operator} {r : R2} (ho : OpR X (binaryOp op) r) (ha : PE X a ta) (hb : PE X b tb) : PE X (.BinOp a op b pos) (tOp r ta tb) := by
  intro pins s σ H Q I h
  exact wpAny_BinOp (binT ha hb I h fun v u s2 x y H2 I2 rx ry q => ho pins s2 σ H2 x y v u Q I2 rx ry q)
theorem opI {f : Value → Value → Sem Value} {C : Int → Int → Prop} {g : Int → Int → Int}
    (rule : ∀ (i j : Int) (t u : Tok) (s : Shared) (Q : Value → Shared → Prop) (E : Value → Shared → Prop), C i j → Q (.int (g i j) s.toks) { s with toks := s.toks + 1 } → wpAny (model X.prog X.w) X.A (f (.int i t) (.int j u)) Q E s) :
    OpR X f (rI C fun i j => .int (g i j)) := by
  intro pins s σ H x y v u Q I rx ry h
  obtain ⟨i, j, rfl, rfl, hc, q⟩ := h
  obtain ⟨t, rfl⟩ := rx
  obtain ⟨t', rfl⟩ := ry
  exact rule i j t t' s _ _ hc ⟨.int (g i j), H, I.tok _, ⟨_, rfl⟩, q⟩
theorem opI0 {f : Value → Value → Sem Value} {g : Int → Int → Int}
    (rule : ∀ (i j : Int) (t u : Tok) (s : Shared) (Q : Value → Shared → Prop) (E : Value → Shared → Prop), Q (.int (g i j) s.toks) { s with toks := s.toks + 1 } → wpAny (model X.prog X.w) X.A (f (.int i t) (.int j u)) Q E s) :
    OpR X f (rI0 fun i j => .int (g i j)) := by
  intro pins s σ H x y v u Q I rx ry h
  obtain ⟨i, j, rfl, rfl, q⟩ := h
  obtain ⟨t, rfl⟩ := rx
  obtain ⟨t', rfl⟩ := ry
  exact rule i j t t' s _ _ ⟨.int (g i j), H, I.tok _, ⟨_, rfl⟩, q⟩
theorem opB0 {f : Value → Value → Sem Value} {g : Int → Int → Bool}
    (rule : ∀ (i j : Int) (t u : Tok) (s : Shared) (Q : Value → Shared → Prop) (E : Value → Shared → Prop), Q (.bool (g i j)) s → wpAny (model X.prog X.w) X.A (f (.int i t) (.int j u)) Q E s) :
    OpR X f (rI0 fun i j => .bl (g i j)) := by
  intro pins s σ H x y v u Q I rx ry h
  obtain ⟨i, j, rfl, rfl, q⟩ := h
  obtain ⟨t, rfl⟩ := rx
  obtain ⟨t', rfl⟩ := ry
  exact rule i j t t' s _ _ ⟨.bl (g i j), H, I, rfl, q⟩
def CDiv (i j : Int) : Prop := 0 < j ∧ j < 1073741824
def CPow (i j : Int) : Prop := 0 ≤ j ∧ j ≤ 1000000 ∧ i.natAbs < 2 ^ 64
def CMul (i j : Int) : Prop := (-(2 ^ 64) < i ∧ i < 2 ^ 64) ∨ (-(2 ^ 64) < j ∧ j < 2 ^ 64)
theorem CMul.ok {i j : Int} (h : CMul i j) : IntMulOk i j := by
  rcases h with ⟨h1, h2⟩ | ⟨h1, h2⟩
  · exact .of_left (intBits_le_64 h1 h2)
  · exact .of_right (intBits_le_64 h1 h2)
theorem op_add : OpR X (binaryOp .Add) (rI0 fun i j => .int (i + j)) := opI0 fun _ _ _ _ _ _ _ q => add_int q
theorem op_sub : OpR X (binaryOp .Sub) (rI0 fun i j => .int (i - j)) := opI0 fun _ _ _ _ _ _ _ q => sub_int q
theorem op_mul : OpR X (binaryOp .Mult) (rI CMul fun i j => .int (i * j)) := opI fun _ _ _ _ _ _ _ hc q => mul_int q hc.ok
theorem op_fdiv : OpR X (binaryOp .FloorDiv) (rI CDiv fun i j => .int (i / j)) := opI fun i j _ _ _ _ _ hc q => by
  have h1 : (0 : Int) < j := hc.1
  have h2 : j < 1073741824 := hc.2
  exact floordiv_int (by omega) (by rw [Int.fdiv_eq_ediv_of_nonneg i (by omega)]; exact q) (.inl (PyProof.noPylong_small (by omega)))
theorem op_mod : OpR X (binaryOp .Mod) (rI (fun _ j => 0 < j) fun i j => .int (i % j)) := opI fun i j _ _ _ _ _ hc q => by
  have h1 : (0 : Int) < j := hc
  exact mod_int' (by omega) (by rw [Int.fmod_eq_emod_of_nonneg i (by omega)]; exact q)
theorem op_pow : OpR X (binaryOp .Pow) (rI CPow fun i j => .int (i ^ j.toNat)) := opI fun _ _ _ _ _ _ _ hc q => pow_int_small hc.1 hc.2.1 hc.2.2 q
end
def scal : V → V → Bool
  | .non, .non => true | .non, .int _ => true | .int _, .non => true | .non, .bl _ => true | .bl _, .non => true | .non, .str _ => true | .str _, .non => true
  | .int _, .int _ => true | .bl _, .bl _ => true | .str _, .str _ => true | .byt _, .byt _ => true
  | .int _, .str _ => true | .str _, .int _ => true | .bl _, .str _ => true | .str _, .bl _ => true
  | _, _ => false
def rEq : R2 := fun x y H Q => scal x y = true ∧ Q (.bl (decide (x = y))) H
def rNe : R2 := fun x y H Q => scal x y = true ∧ Q (.bl (!decide (x = y))) H
theorem dec_int {i j : Int} : decide (V.int i = V.int j) = (i == j) := by
  rw [Bool.eq_iff_iff]
  simp
theorem dec_bl {i j : Bool} : decide (V.bl i = V.bl j) = (i == j) := by
  rw [Bool.eq_iff_iff]
  simp
theorem dec_str {i j : Str} : decide (V.str i = V.str j) = (i == j) := by
  rw [Bool.eq_iff_iff]
  simp
theorem dec_byt {i j : Array UInt8} : decide (V.byt i = V.byt j) = (i.toList == j.toList) := by
  rw [Bool.eq_iff_iff]
  cases i
  cases j
  simp
section
variable {X : Cx} {a b c : Expr} {ta tb tc : TE} {pos : Pos}
theorem fin_bl {pins : List (Addr × Obj)} {σ : St} {H : Hp} {s : Shared} {Q : VK} {k k' : Bool} (I : Inv X pins σ H s) (q : Q (.bl k) H) (e : k = k') : EP X pins σ Q (.bool k') s := by
  subst e
  exact ⟨.bl k, H, I, rfl, q⟩
theorem op_eq : OpR X (compareOp .Eq) rEq := by
  intro pins s σ H x y v u Q I rx ry h
  obtain ⟨hs, q⟩ := h
  cases x with
  | non =>
    cases rx
    cases y with
    | non => cases ry; exact PySem.EqNone.eq_none_none (fin_bl I q (by simp))
    | bl j => cases ry; exact PySem.EqNone.eq_none_bool (fin_bl I q (by simp))
    | int j => obtain ⟨t', rfl⟩ := ry; exact PySem.EqNone.eq_none_int (fin_bl I q (by simp))
    | str j => obtain ⟨t', rfl⟩ := ry; exact PySem.EqNone.eq_none_str (fin_bl I q (by simp))
    | _ => exact absurd (show false = true from hs) Bool.false_ne_true
  | bl i =>
    cases rx
    cases y with
    | non => cases ry; exact PySem.EqNone.eq_bool_none (fin_bl I q (by simp))
    | bl j => cases ry; exact eq_bool (fin_bl I q dec_bl)
    | str j => obtain ⟨t', rfl⟩ := ry; exact PySem.EqMixed.eq_bool_str (fin_bl I q (by simp))
    | _ => exact absurd (show false = true from hs) Bool.false_ne_true
  | int i =>
    obtain ⟨t, rfl⟩ := rx
    cases y with
    | non => cases ry; exact PySem.EqNone.eq_int_none (fin_bl I q (by simp))
    | int j => obtain ⟨t', rfl⟩ := ry; exact eq_int (fin_bl I q dec_int)
    | str j => obtain ⟨t', rfl⟩ := ry; exact PySem.EqMixed.eq_int_str (fin_bl I q (by simp))
    | _ => exact absurd (show false = true from hs) Bool.false_ne_true
  | str i =>
    obtain ⟨t, rfl⟩ := rx
    cases y with
    | non => cases ry; exact PySem.EqNone.eq_str_none (fin_bl I q (by simp))
    | bl j => cases ry; exact PySem.EqMixed.eq_str_bool (fin_bl I q (by simp))
    | int j => obtain ⟨t', rfl⟩ := ry; exact PySem.EqMixed.eq_str_int (fin_bl I q (by simp))
    | str j => obtain ⟨t', rfl⟩ := ry; exact eq_str (fin_bl I q dec_str)
    | _ => exact absurd (show false = true from hs) Bool.false_ne_true
  | byt i =>
    obtain ⟨t, rfl⟩ := rx
    cases y with
    | byt j => obtain ⟨t', rfl⟩ := ry; exact PySem.W.eq_bytes (fin_bl I q dec_byt)
    | _ => exact absurd (show false = true from hs) Bool.false_ne_true
  | _ => cases y <;> exact absurd (show false = true from hs) Bool.false_ne_true
theorem op_ne : OpR X (compareOp .NotEq) rNe := by
  intro pins s σ H x y v u Q I rx ry h
  obtain ⟨hs, q⟩ := h
  cases x with
  | non =>
    cases rx
    cases y with
    | non => cases ry; exact PySem.EqNone.ne_none_none (fin_bl I q (by simp))
    | bl j => cases ry; exact PySem.EqNone.ne_none_bool (fin_bl I q (by simp))
    | int j => obtain ⟨t', rfl⟩ := ry; exact PySem.EqNone.ne_none_int (fin_bl I q (by simp))
    | str j => obtain ⟨t', rfl⟩ := ry; exact PySem.EqNone.ne_none_str (fin_bl I q (by simp))
    | _ => exact absurd (show false = true from hs) Bool.false_ne_true
  | bl i =>
    cases rx
    cases y with
    | non => cases ry; exact PySem.EqNone.ne_bool_none (fin_bl I q (by simp))
    | bl j => cases ry; exact ne_bool (fin_bl I q (congrArg not dec_bl))
    | str j => obtain ⟨t', rfl⟩ := ry; exact PySem.EqMixed.ne_bool_str (fin_bl I q (by simp))
    | _ => exact absurd (show false = true from hs) Bool.false_ne_true
  | int i =>
    obtain ⟨t, rfl⟩ := rx
    cases y with
    | non => cases ry; exact PySem.EqNone.ne_int_none (fin_bl I q (by simp))
    | int j => obtain ⟨t', rfl⟩ := ry; exact ne_int (fin_bl I q (congrArg not dec_int))
    | str j => obtain ⟨t', rfl⟩ := ry; exact PySem.EqMixed.ne_int_str (fin_bl I q (by simp))
    | _ => exact absurd (show false = true from hs) Bool.false_ne_true
  | str i =>
    obtain ⟨t, rfl⟩ := rx
    cases y with
    | non => cases ry; exact PySem.EqNone.ne_str_none (fin_bl I q (by simp))
    | bl j => cases ry; exact PySem.EqMixed.ne_str_bool (fin_bl I q (by simp))
    | int j => obtain ⟨t', rfl⟩ := ry; exact PySem.EqMixed.ne_str_int (fin_bl I q (by simp))
    | str j => obtain ⟨t', rfl⟩ := ry; exact ne_str (fin_bl I q (congrArg not dec_str))
    | _ => exact absurd (show false = true from hs) Bool.false_ne_true
  | byt i =>
    obtain ⟨t, rfl⟩ := rx
    cases y with
    | byt j => obtain ⟨t', rfl⟩ := ry; exact PySem.W.ne_bytes (fin_bl I q (congrArg not dec_byt))
    | _ => exact absurd (show false = true from hs) Bool.false_ne_true
  | _ => cases y <;> exact absurd (show false = true from hs) Bool.false_ne_true
theorem op_lt : OpR X (compareOp .Lt) (rI0 fun i j => .bl (decide (i < j))) := opB0 fun _ _ _ _ _ _ _ q => lt_int q
theorem op_gt : OpR X (compareOp .Gt) (rI0 fun i j => .bl (decide (j < i))) := opB0 fun _ _ _ _ _ _ _ q => gt_int q
theorem op_notin_str : OpR X (compareOp .NotIn) (fun x y H Q => ∃ i j, x = .str i ∧ y = .str j ∧ Q (.bl (!(!(Builtin.Str.occurrences j i 0 j.length 1).isEmpty))) H) := by
  intro pins s σ H x y v u Q I rx ry h
  obtain ⟨i, j, rfl, rfl, q⟩ := h
  obtain ⟨t, rfl⟩ := rx
  obtain ⟨t', rfl⟩ := ry
  exact notIn_str (fin_bl I q rfl)
theorem nomark (b : Expr) {op : CmpOp} (h : op ≠ .In := by decide) (h2 : op ≠ .NotIn := by decide) : behindInMarks op b = false := by
  have e1 : (op == CmpOp.In) = false := by cases op <;> first | rfl | exact absurd rfl h
  have e2 : (op == CmpOp.NotIn) = false := by cases op <;> first | rfl | exact absurd rfl h2
  cases b <;> simp [behindInMarks, e1, e2]
theorem pe_cmpR {op : CmpOp} {r : R2} (ho : OpR X (compareOp op) r) (ha : PE X a ta) (hb : PE X b tb) (hm : behindInMarks op b = false) : PE X (.Compare a [op] [b] pos) (tOp r ta tb) := by
  intro pins s σ H Q I h
  exact wpAny_Compare1 (binT ha hb I h fun v u s2 x y H2 I2 rx ry q => ho pins s2 σ H2 x y v u Q I2 rx ry q) hm
def tTest (t : TE) : TT := fun σ H Q => t σ H fun x H' => ∃ k, x = .bl k ∧ Q k H'
theorem pt_cmpR {op : CmpOp} {r : R2} (ho : OpR X (compareOp op) r) (ha : PE X a ta) (hb : PE X b tb) (hm : behindInMarks op b = false) : PT X (.Compare a [op] [b] pos) (tTest (tOp r ta tb)) := by
  intro pins s σ H Q I h
  refine wpAny_isTrue_Compare1 (thn (ha pins s σ H _ I h) fun v s1 ⟨x, H1, I1, r1, q1⟩ => thn (hb pins s1 σ H1 _ I1 q1) fun u s2 ⟨y, H2, I2, r2, q2⟩ =>
    thn (ho pins s2 σ H2 x y v u _ I2 r1 r2 q2) fun c s3 ⟨z, H3, I3, r3, k, e, q3⟩ => ?_) hm
  subst e
  cases r3
  exact wpAny_truthy_bool ⟨H3, I3, q3⟩
def TruV (K : PySem.W.Frag) (x : V) (H : Hp) (k : Bool) : Prop :=
  match x with
  | .non => k = false
  | .bl b => k = b
  | .int i => k = (i != 0)
  | .str y => y.length ≤ sizeLine ∧ k = ((y.length : Int) != 0)
  | .byt y => y.size ≤ sizeLine ∧ k = ((y.size : Int) != 0)
  | .ref p => (∃ xs, SqL K H p xs ∧ k = !xs.isEmpty) ∨ (∃ xs, SqT K H p xs ∧ k = !xs.isEmpty) ∨ ∃ kvs, H p = some (.dK kvs) ∧ k = !kvs.isEmpty
  | _ => False
theorem isEmpty_kv {κ : Type} {kvs : List (κ × V)} {vs : List (κ × Value)} (r : KV kvs vs) : (!vs.isEmpty) = !kvs.isEmpty := by
  cases r <;> rfl
theorem isEmpty_of {xs : List V} {its : List Value} (r : Vals xs its) : (!its.toArray.isEmpty) = !xs.isEmpty := by
  cases r <;> simp
theorem line63 : (sizeLine : Nat) < 2 ^ 63 := by rw [sizeLine_eq]; decide
theorem tru_ok : TruR X (fun x H Q => ∃ k, TruV X.K x H k ∧ Q k H) := by
  intro pins s σ H x v Q I rx h
  obtain ⟨k, e, q⟩ := h
  have hl := line63
  have hs : sizeLine = 16777216 := sizeLine_eq
  cases x with
  | non =>
    cases rx
    have e' : k = false := e
    subst e'
    exact truthy_none ⟨H, I, q⟩
  | bl b =>
    cases rx
    have e' : k = b := e
    subst e'
    exact wpAny_truthy_bool ⟨H, I, q⟩
  | int i =>
    obtain ⟨t, rfl⟩ := rx
    have e' : k = (i != 0) := e
    subst e'
    exact PySem.P.truthy_int ⟨H, I, q⟩
  | str y =>
    obtain ⟨t, rfl⟩ := rx
    obtain ⟨hy, e'⟩ : y.length ≤ sizeLine ∧ k = ((y.length : Int) != 0) := e
    subst e'
    exact PySem.P.truthy_str (by omega) ⟨H, I.tok _, q⟩
  | byt y =>
    obtain ⟨t, rfl⟩ := rx
    obtain ⟨hy, e'⟩ : y.size ≤ sizeLine ∧ k = ((y.size : Int) != 0) := e
    subst e'
    exact PySem.W.truthy_bytes (by omega) ⟨H, I.tok _, q⟩
  | ref p =>
    cases rx
    have e' : (∃ xs, SqL X.K H p xs ∧ k = !xs.isEmpty) ∨ (∃ xs, SqT X.K H p xs ∧ k = !xs.isEmpty) ∨ ∃ kvs, H p = some (.dK kvs) ∧ k = !kvs.isEmpty := e
    rcases e' with ⟨xs, hx, e'⟩ | ⟨xs, hx, e'⟩ | ⟨kvs, hx, e'⟩
    · subst e'
      obtain ⟨its, r, pl, hz⟩ := I.list hx
      have hlen := r.length
      exact wpAny_truthy_list pl.isList (by simp only [List.size_toArray]; omega) ⟨H, I.tok _, by rw [isEmpty_of r]; exact q⟩
    · subst e'
      obtain ⟨its, r, pl, hz⟩ := I.tuple hx
      have hlen := r.length
      exact truthy_tuple pl (by simp only [List.size_toArray]; omega) ⟨H, I.tok _, by rw [isEmpty_of r]; exact q⟩
    · subst e'
      obtain ⟨hz, hS, vs, r, m⟩ : kvs.length ≤ sizeLine ∧ (p == sysModules) = false ∧ ∃ vs, KV kvs vs ∧ s.heap.DictOf (mixKind X.prog X.w) p vs := I.hok p _ hx
      have hlen : kvs.length = vs.length := Paired.length r
      exact wpAny_truthy_dict hS m (by omega) ⟨H, I.tok _, by rw [isEmpty_kv r]; exact q⟩
  | _ => exact (show False from e).elim
theorem pt_truth (ha : PE X a ta) (he : ∀ whole, isTrue a X.env whole = (do let v ← whole; standAt a.pos; holding [v] (truthy v))) :
    PT X a (fun σ H Q => ta σ H fun x H' => ∃ k, TruV X.K x H' k ∧ Q k H') := by
  intro pins s σ H Q I h
  exact isTrue_plain (thn (ha pins s σ H _ I h) fun v s1 ⟨x, H1, I1, r1, q1⟩ => tru_ok pins s1 σ H1 x v Q I1 r1 q1) (he _)
theorem op_add_str : OpR X (binaryOp .Add) (fun x y H Q => ∃ i j, x = .str i ∧ y = .str j ∧ i.length + j.length ≤ sizeLine ∧ Q (.str (i ++ j)) H) := by
  intro pins s σ H x y v u Q I rx ry h
  obtain ⟨i, j, rfl, rfl, hz, q⟩ := h
  obtain ⟨t, rfl⟩ := rx
  obtain ⟨t', rfl⟩ := ry
  exact add_str (fun t' tk => ⟨.str (i ++ j), H, I.tok _, ⟨_, rfl⟩, q⟩) hz
theorem vals1 {x : V} {us : List Value} (r : Vals [x] us) : ∃ u, us = [u] ∧ RelV x u := by
  cases r with
  | cons r1 r2 => cases r2; exact ⟨_, rfl, r1⟩
theorem vals2 {x y : V} {us : List Value} (r : Vals [x, y] us) : ∃ u w', us = [u, w'] ∧ RelV x u ∧ RelV y w' := by
  cases r with
  | cons r1 r2 =>
    cases r2 with
    | cons r3 r4 => cases r4; exact ⟨_, _, rfl, r1, r3⟩
end
end L2
namespace L2
open PySem PySem.Spec PyProof.Rows
structure ObjM (h : Heap) (x dx C : Addr) (mA : Str → Option Value) : Prop where
  obj : h.get? x = some (PySem.W.instObj C dx)
  ns : h.Ns1 dx mA
  ne : dx ≠ x
theorem lookIn_ns {h : Heap} {dx : Addr} {mA : Str → Option Value} (n : h.Ns1 dx mA) : ∃ od, h.get? dx = some od ∧ ∀ name, PySem.W.lookIn name od = some (mA name) := by
  obtain ⟨o, es, ep, ho, hd, hk, _, hm⟩ := n
  refine ⟨o, ho, fun name => ?_⟩
  have e := hm name
  unfold nsFind findBy at e
  rw [← Array.find?_toList] at e
  unfold PySem.W.lookIn
  rw [hd]
  dsimp only
  split
  · rename_i y q
    rw [q] at e
    exact congrArg some e
  · rename_i q
    rw [q] at e
    have a : es.toList.any (·.refKey) = false := by
      rw [List.any_eq_false]
      intro y hy
      obtain ⟨z, t, hkey⟩ := hk y (Array.mem_toList_iff.mp hy)
      simp [DictEntry.refKey, hkey]
    have a' : ¬ es.toList.any (·.refKey) = true := by rw [a]; exact Bool.false_ne_true
    rw [if_neg a']
    exact congrArg some e
theorem ObjM.look {h : Heap} {x dx C : Addr} {mA : Str → Option Value} (I : ObjM h x dx C mA) : ∃ od, PySem.W.InstAt h x (PySem.W.instObj C dx) C (some od) ∧ ∀ name, PySem.W.lookIn name od = some (mA name) :=
  let ⟨od, ho, hl⟩ := lookIn_ns I.ns
  ⟨od, ⟨I.obj, rfl, rfl, ho⟩, hl⟩
section
variable {prog : Program} {w : World} {A : Around} {E : Value → Shared → Prop} {s : Shared} {K : PySem.W.Frag} {x dx C f : Addr} {mA : Str → Option Value} {name : Str} {v : Value}
end
theorem RelO.some_of {v : V} {o : Option Value} (r : RelO (some v) o) : ∃ u, o = some u ∧ RelV v u := by
  cases o with
  | none => exact (show False from r).elim
  | some u => exact ⟨u, rfl, r⟩
section
variable {P : Program} {w : World} {H H' : Hp} {h h' : Heap} {a C dx : Addr} {fs fs' : List (Str × V)}
theorem ins_get (hok : HOk P w H h) (e : H a = some (.ins C dx fs)) : ∃ mA, ObjM h a dx C mA ∧ (∀ f, RelO (fs.lookup f) (mA f)) ∧ PySem.Within mA (fs.map (·.1)) ∧ fs.length ≤ 1000 ∧ H dx = some (.own a) := by
  obtain ⟨d, z, ne, ob, mA, n, r, q⟩ := (show ObjOk P w H h a (.ins C dx fs) from hok a _ e)
  exact ⟨mA, ⟨ob, n, ne⟩, r, q, z, d⟩
end
structure Cls (K : PySem.W.Frag) (C : Addr) : Prop where
  pg : PySem.W.plainGet K C Str.empty = true
  hd : PySem.W.hasDictIn K C = true
  po : PySem.W.plainOver K C = true
  sa : PySem.W.findIn K (.ref C) "__setattr__" = some (some (.builtin "object.__setattr__"))
theorem Cls.get {K : PySem.W.Frag} {C : Addr} (c : Cls K C) (f : Str) : PySem.W.plainGet K C f = true := c.pg
section
variable {X : Cx} {pins : List (Addr × Obj)} {σ : St} {H : Hp} {s : Shared} {a C dx : Addr} {fs : List (Str × V)} {f : Str} {v : V} {A : Around} {E : Value → Shared → Prop}
end
section
variable {X : Cx} {o e value : Expr} {f : Str} {pos pos' tpos : Pos} {ta tv : TE}
end
section
variable {X : Cx} {pins : List (Addr × Obj)} {σ : St} {H : Hp} {s : Shared} {A : Around} {E : Value → Shared → Prop} {Q : Value → Shared → Prop} {c : Value} {b : Bool}
inductive TyOf (K : PySem.W.Frag) (H : Hp) : V → Value → Prop where
  | non : TyOf K H .non (.type "NoneType")
  | bl (x : Bool) : TyOf K H (.bl x) (.type "bool")
  | int (i : Int) : TyOf K H (.int i) (.type "int")
  | str (x : Str) : TyOf K H (.str x) (.type "str")
  | flt (x : UInt64) : TyOf K H (.flt x) (.type "float")
  | lst {a : Addr} {xs : List V} (e : H a = some (.lst xs)) : TyOf K H (.ref a) (.type "list")
  | frz {a : Addr} {o : Obj} {xs : List V} (e : H a = some (.frz o (.lst xs))) : TyOf K H (.ref a) (.type "list")
  | tup {a : Addr} {xs : List V} (e : H a = some (.tup xs)) : TyOf K H (.ref a) (.type "tuple")
  | dK {a : Addr} {kvs : List (Key × V)} (e : H a = some (.dK kvs)) : TyOf K H (.ref a) (.type "dict")
  | dT {a : Addr} {kvs : List (List Key × V)} (e : H a = some (.dT kvs)) : TyOf K H (.ref a) (.type "dict")
  | ins {a C dx : Addr} {fs : List (Str × V)} (e : H a = some (.ins C dx fs)) (cl : Cls K C) (ha : PySem.W.findIn K (.ref C) "__class__" = some (some (.builtin "object.__class__")))
      (hn : PySem.W.specialIn K (.builtin "object.__class__") "__get__" = some (some (.builtin "getset_descriptor.__get__"))) (htk : PySem.W.takesIn K (.builtin "object.__class__") = some true)
      (hm : PySem.W.mroIn K C (.type "object") = some true) : TyOf K H (.ref a) (.ref C)
theorem isinst_ok {x : V} {u t : Value} (I : Inv X pins σ H s) (rx : RelV x u) (ty : TyOf X.K H x t) (e : PySem.W.kitOne X.K t c = some b) (h : ∀ tk, Q (.bool b) { s with toks := tk }) :
    wpAny (model X.prog X.w) A (call (.builtin "isinstance") [u, c]) Q E s := by
  cases ty with
  | non => cases (show u = Value.none from rx); exact PySem.W.kia_one PySem.W.kitx_none I.kIn True.intro e (fun z => nomatch z) h
  | bl y => cases (show u = Value.bool y from rx); exact PySem.W.kia_one PySem.W.kitx_bool I.kIn True.intro e (fun z => nomatch z) h
  | int i => obtain ⟨t, q⟩ := (show ∃ t, u = Value.int i t from rx); cases q; exact PySem.W.kia_one PySem.W.kitx_int I.kIn True.intro e (fun z => nomatch z) h
  | str y => obtain ⟨t, q⟩ := (show ∃ t, u = Value.str y t from rx); cases q; exact PySem.W.kia_one PySem.W.kitx_str I.kIn True.intro e (fun z => nomatch z) h
  | flt y => obtain ⟨t, q⟩ := (show ∃ t, u = Value.float y t from rx); cases q; exact PySem.W.kia_one PySem.W.kitx_float I.kIn True.intro e (fun z => nomatch z) h
  | @lst a xs ea =>
    cases (show u = Value.ref a from rx)
    obtain ⟨_, _, n, _, h1⟩ := (show ObjOk X.prog X.w H s.heap a (.lst xs) from I.hok a _ ea)
    exact PySem.W.kia_one PySem.W.kitx_list I.kIn ⟨_, h1, rfl⟩ e (fun z => nomatch z) h
  | @frz a ob xs ea =>
    cases (show u = Value.ref a from rx)
    obtain ⟨_, _, _, n, _, h1⟩ := (show ObjOk X.prog X.w H s.heap a (.frz ob (.lst xs)) from I.hok a _ ea)
    exact PySem.W.kia_one PySem.W.kitx_list I.kIn ⟨_, h1, rfl⟩ e (fun z => nomatch z) h
  | @tup a xs ea =>
    cases (show u = Value.ref a from rx)
    obtain ⟨_, _, _, p⟩ := (show ObjOk X.prog X.w H s.heap a (.tup xs) from I.hok a _ ea)
    obtain ⟨o, h1, h2, _⟩ := p
    exact PySem.W.kia_one PySem.W.kitx_tuple I.kIn ⟨o, h1, h2⟩ e (fun z => nomatch z) h
  | @dK a kvs ea =>
    cases (show u = Value.ref a from rx)
    obtain ⟨_, _, vs, _, p⟩ := (show ObjOk X.prog X.w H s.heap a (.dK kvs) from I.hok a _ ea)
    obtain ⟨o, es, ep, h1, h2, _⟩ := p
    exact PySem.W.kia_one PySem.W.kitx_dict I.kIn ⟨o, h1, h2.1⟩ e (fun z => nomatch z) h
  | @dT a kvs ea =>
    cases (show u = Value.ref a from rx)
    obtain ⟨_, _, xs, _, o, es, ep, h1, h2, _⟩ := (show ObjOk X.prog X.w H s.heap a (.dT kvs) from I.hok a _ ea)
    exact PySem.W.kia_one PySem.W.kitx_dict I.kIn ⟨o, h1, h2.1⟩ e (fun z => nomatch z) h
  | @ins a C dx fs ea cl ha hn htk hm =>
    cases (show u = Value.ref a from rx)
    obtain ⟨mA, O, _⟩ := ins_get I.hok ea
    obtain ⟨od, J, _⟩ := O.look
    exact PySem.W.kia_one (PySem.W.kitx_own (cl.get _) cl.hd ha hn htk hm) I.kIn J e (fun z => nomatch z) h
end
end L2
namespace L2
open PySem PySem.Spec PyProof.Rows
structure Room (k : Nat) (A : Around) : Prop where
  hd : A.handled = none
  dp : A.depth + 3 * k + 5 < recursionLimit
  un : A.units + 16 * k + 200 < cLine
theorem Room.mono {j k : Nat} {A : Around} (r : Room k A) (h : j ≤ k) : Room j A := ⟨r.hd, by have := r.dp; omega, by have := r.un; omega⟩
theorem Room.deeper {k : Nat} {A : Around} (r : Room (k + 1) A) (env : Env) : Room k (A.deeper env) :=
  ⟨r.hd, by have := r.dp; show A.depth + 1 + 3 * k + 5 < _; omega, by have := r.un; show A.units + 3 + 16 * k + 200 < _; omega⟩
theorem Room.depth {k : Nat} {A : Around} (r : Room k A) : A.depth < recursionLimit := by have := r.dp; omega
theorem Room.units {k : Nat} {A : Around} (r : Room k A) : A.units + 64 < cLine := by have := r.un; omega
def tNil : TA := fun _ H Q => Q [] H
def tCons (ta : TE) (tr : TA) : TA := fun σ H Q => ta σ H fun x H1 => tr σ H1 fun xs H2 => Q (x :: xs) H2
section
variable {X : Cx} {e : Expr} {es : List Expr} {te : TE} {t : TA} {pos : Pos}
theorem pa_nil : PA X [] tNil := fun _ _ _ _ H Q I h => Calls.spliced_nil ⟨[], H, I, .nil, h⟩
theorem pa_cons (ha : PE X e te) (hr : PA X es t) (hs : starEach (e :: es) X.env = (false, eval e X.env) :: starEach es X.env := by rfl) : PA X (e :: es) (tCons te t) := by
  intro pos pins s σ H Q I h
  rw [hs]
  show wpAny _ _ (spliced ((false, eval e X.env) :: backTo pos (starEach es X.env))) _ _ s
  refine Calls.spliced_cons (thn (ha pins s σ H _ I h) fun u s1 ⟨x, H1, I1, r1, q1⟩ => ?_)
  exact thn (hr pos pins s1 σ H1 _ I1 q1) fun us s2 ⟨xs, H2, I2, r2, q2⟩ => ⟨x :: xs, H2, I2, .cons r1 r2, q2⟩
def tTup (t : TA) : TE := fun σ H Q => t σ H fun xs H1 => xs.length ≤ sizeLine ∧ ∀ p, H1 p = none → Q (.ref p) (upd H1 p (.tup xs))
def tLst (t : TA) : TE := fun σ H Q => t σ H fun xs H1 => xs.length ≤ sizeLine ∧ ∀ p, H1 p = none → Q (.ref p) (upd H1 p (.lst xs))
theorem pe_tup {x1} (h : PA X es t) : PE X (.Tuple es x1 pos) (tTup t) := by
  intro pins s σ H Q I hq
  refine wpAny_Tuple_spliced (thn (h pos pins s σ H _ I hq) fun us s1 ⟨xs, H1, I1, r, z, q⟩ => ⟨by rw [← r.length]; exact z, ?_⟩)
  have hf : H1 s1.heap.objs.size = none := I1.hok.fresh (Nat.le_refl _)
  refine ⟨.ref s1.heap.objs.size, upd H1 s1.heap.objs.size (.tup xs), I1.laid (t' := s1.toks) (fun b u e => Heap.get?_push_of_some _ e) (Nat.le_refl _) ?_, rfl, q _ hf⟩
  exact ⟨z, us, r, ⟨_, Heap.get?_push_size _ rfl, rfl, _, rfl⟩⟩
theorem pe_lst (h : PA X es t) : PE X (.List es pos) (tLst t) := by
  intro pins s σ H Q I hq
  refine wpAny_List_spliced (thn (h pos pins s σ H _ I hq) fun us s1 ⟨xs, H1, I1, r, z, q⟩ => ⟨by rw [← r.length]; exact z, ?_⟩)
  have hf : H1 s1.heap.objs.size = none := I1.hok.fresh (Nat.le_refl _)
  refine ⟨.ref s1.heap.objs.size, upd H1 s1.heap.objs.size (.lst xs), I1.laid (t' := s1.toks) (fun b u e => Heap.get?_push_of_some _ e) (Nat.le_refl _) ?_, rfl, q _ hf⟩
  exact ⟨z, us, 0, r, Heap.get?_push_size _ rfl⟩
end
abbrev Sp := List V → Hp → VK → XK → Prop
abbrev CXT := List Env → Hp → Shared → XK → Value → Shared → Prop
structure Env0 (P : Program) (w : World) (K : PySem.W.Frag) (mg : Str → Option Value) (base : Heap) (A : Around) (outer : List Env) (s : Shared) (H : Hp) : Prop where
  frames : A.frames = some outer
  mod : Mod K mg base
  bs : ∀ b o, base.get? b = some o → s.heap.get? b = some o ∧ H b = none
  bsz : base.objs.size ≤ s.heap.objs.size
  funs : s.heap.FunFrames base outer
  frf : ∀ b ∈ frs outer, H b = none
  hok : HOk P w H s.heap
  bare : AllBare s.gens
def CE (outer : List Env) (P : Program) (w : World) (H : Hp) (s : Shared) (Q : VK) (u : Value) (s' : Shared) : Prop :=
  ∃ v H', s'.os = s.os ∧ AllBare s'.gens ∧ Un (frs outer) [] H H' s.heap s'.heap ∧ HOk P w H' s'.heap ∧ RelV v u ∧ Q v H'
def CR (CX : CXT) (outer : List Env) (P : Program) (w : World) (H : Hp) (s : Shared) (Q : VK) (E : XK) (r : Result) (s' : Shared) : Prop :=
  match r with
  | .ok (.ret u) => CE outer P w H s Q u s'
  | .ok _ => False
  | .error e => CX outer H s E e s'
structure FnOk (P : Program) (w : World) (K : PySem.W.Frag) (mg : Str → Option Value) (base : Heap) (CX : CXT) (k : Nat) (f : Addr) (fd : FuncData) (ps : List Str) (sp : Sp) : Prop where
  len : ∀ vs H Q E, sp vs H Q E → vs.length = ps.length
  run : ∀ (A : Around) (outer : List Env) (s : Shared) (H : Hp) (args : Args) (us : List Value) (vs : List V) (Q : VK) (E : XK), Room k A → Env0 P w K mg base A outer s H → BindsTo s fd args (ps.zip us) → Vals vs us → sp vs H Q E →
    codeAny (model P w) A (.call (.ref f) args) (CR CX outer P w H s Q E) s
theorem FnOk.mono {P : Program} {w : World} {K : PySem.W.Frag} {mg : Str → Option Value} {base : Heap} {CX : CXT} {j k : Nat} {f : Addr} {fd : FuncData} {ps : List Str} {sp : Sp} (F : FnOk P w K mg base CX j f fd ps sp) (h : j ≤ k) :
    FnOk P w K mg base CX k f fd ps sp := ⟨F.len, fun A outer s H args us vs Q E hr => F.run A outer s H args us vs Q E (hr.mono h)⟩
section
variable {X : Cx} {pins : List (Addr × Obj)} {σ : St} {H : Hp} {s s' : Shared}
theorem Inv.env0 (I : Inv X pins σ H s) : Env0 X.prog X.w X.K X.mg X.base X.A X.stack s H :=
  ⟨I.ok.frames, I.ok.mod, I.bs, Nat.le_trans I.ok.bsz I.sz, I.stack, I.stkFree, I.hok, I.bare⟩
theorem Inv.after {Q : VK} {u : Value} (I : Inv X pins σ H s) (h : CE X.stack X.prog X.w H s Q u s') : EP X pins σ Q u s' := by
  obtain ⟨v, H', os, bare, un, hok, r, q⟩ := h
  obtain ⟨hh, g, d, t, os'⟩ := s'
  obtain rfl : os' = s.os := os
  exact ⟨v, H', I.call (h' := hh) (g' := g) (d' := d) (t' := t) (ch := []) un hok bare (fun b z => absurd z (by simp)), r, q⟩
end
def tCall (sp : Sp) (dvs : List V) (E : XK) (t : TA) : TE := fun σ H Q => t σ H fun vs H1 => sp (vs ++ dvs) H1 Q E
def Binds (K : PySem.W.Frag) (fd : FuncData) (ps : List Str) (ds : List Value) : Prop :=
  ∀ (s : Shared) (us : List Value), K.In s.heap → (us ++ ds).length = ps.length → BindsTo s fd ⟨us, []⟩ (ps.zip (us ++ ds))
theorem Binds.all {K : PySem.W.Frag} {fd : FuncData} {ps : List Str} (h : ∀ us : List Value, us.length = ps.length → bindArgs fd ⟨us, []⟩ = pure (ps.zip us)) : Binds K fd ps [] := fun s us _ hl => by
  rw [List.append_nil] at hl ⊢
  exact .of_eq (h us hl)
def Passes (CX : CXT) (X : Cx) (E : XK) : Prop := ∀ (pins : List (Addr × Obj)) (σ : St) (H : Hp) (s : Shared) (e : Value) (s' : Shared), Inv X pins σ H s → CX X.stack H s E e s' → X.xe e s'
section
variable {X : Cx} {CX : CXT} {k : Nat} {f C : Addr} {fd : FuncData} {ps : List Str} {sp : Sp} {dvs : List V} {ds : List Value} {E : XK} {x m : Str} {p pos apos : Pos} {e o : Expr} {es : List Expr} {ta : TE} {t : TA}
theorem run_fn {pins : List (Addr × Obj)} {σ : St} {H : Hp} {s : Shared} {Q : VK} {us : List Value} {vs : List V} (F : FnOk X.prog X.w X.K X.mg X.base CX k f fd ps sp) (hr : Room k X.A) (hb : Binds X.K fd ps ds) (hd : Vals dvs ds) (hx : Passes CX X E)
    (I : Inv X pins σ H s) (r : Vals vs us) (h : sp (vs ++ dvs) H Q E) : wpAny (model X.prog X.w) X.A (call (.ref f) us) (EP X pins σ Q) X.xe s := by
  have r2 : Vals (vs ++ dvs) (us ++ ds) := r.append hd
  have hl : (us ++ ds).length = ps.length := by rw [← r2.length]; exact F.len _ _ _ _ h
  refine wpAny_call (codeAny_mono (F.run X.A X.stack s H ⟨us, []⟩ (us ++ ds) (vs ++ dvs) Q E hr I.env0 (hb s us I.kIn hl) r2 h) fun r s' hq => ?_)
  cases r with
  | error e => exact hx pins σ H s e s' I hq
  | ok fl =>
    cases fl with
    | ret u => exact I.after hq
    | next => exact False.elim hq
    | brk => exact False.elim hq
    | cont => exact False.elim hq
theorem pe_call (F : FnOk X.prog X.w X.K X.mg X.base CX k f fd ps sp) (hr : Room k X.A) (hg : Gl X x) (hm : X.mg x = some (.ref f)) (hk : PySem.W.keepIn X.K (.ref f) = true) (hb : Binds X.K fd ps ds) (hd : Vals dvs ds) (hx : Passes CX X E)
    (ha : PA X (e :: es) t) (hdb : (x == ("__debug__" : Str)) = false := by decide) (he : starEach (e :: es) X.env = (false, eval e X.env) :: starEach es X.env := by rfl) (hpl : (backTo pos (starEach es X.env)).any (·.1) = false := by rfl) :
    PE X (.Call (.Name x p) (e :: es) [] pos) (tCall sp dvs E t) := by
  intro pins s σ H Q I h
  refine wpAny_Call_Name_kw (ld_glob I hg hm ?_ hdb)
  refine PySem.W.callWith_K (h₀ := X.base) I.ok.mod.kin hk (thn (ha pos pins s σ H _ I h) fun us s1 ⟨vs, H1, I1, r, q⟩ => ⟨I1.kIn, ?_⟩) he hpl
  exact run_fn F hr hb hd hx I1 r q
end
section
variable {X : Cx} {CX : CXT} {k : Nat} {f C : Addr} {fd : FuncData} {ps ks : List Str} {sp : Sp} {E : XK} {x m : Str} {p pos apos kpos : Pos} {e o : Expr} {es : List Expr} {kws : List Keyword} {te ta : TE} {t tk : TA} {nm : Option Str}
variable {g : List Value → List Value → List Value} {gV : List V → List V → List V}
end
structure FnScope (N P : List Str) (sc : Scope) : Prop where
  kind : sc.kind = .function
  co : sc.isCoroutine = false
  gen : sc.isGenerator = false
  nd : N.Nodup
  pre : N.take P.length = P
  par : ∀ x ∈ P, sc.names.lookup x = some .local ∨ sc.names.lookup x = some .cell
  nofree : ∀ y ∈ sc.names, y.2 ≠ .free
theorem bindL_out {kindOf : Str → Option NameKind} {x : Str} : ∀ {binds : List (Str × Value)} {m : Str → Option Value}, (∀ v, (x, v) ∉ binds) → bindL kindOf binds m x = m x
  | [], _, _ => rfl
  | (n, v) :: r, m, h => by
    unfold bindL
    rw [bindL_out fun w hw => h w (List.mem_cons_of_mem _ hw)]
    split
    · have : x ≠ n := by rintro rfl; exact h v List.mem_cons_self
      simp [this]
    · rfl
theorem bindC_out {kindOf : Str → Option NameKind} {x : Str} : ∀ {binds : List (Str × Value)} {m : Str → Option Value}, (∀ v, (x, v) ∉ binds) → bindC kindOf binds m x = m x
  | [], _, _ => rfl
  | (n, v) :: r, m, h => by
    unfold bindC
    rw [bindC_out fun w hw => h w (List.mem_cons_of_mem _ hw)]
    split
    · rfl
    · have : x ≠ n := by rintro rfl; exact h v List.mem_cons_self
      simp [this]
theorem bindL_get {kindOf : Str → Option NameKind} {x : Str} {v : Value} : ∀ {P : List Str} {vs : List Value} {i : Nat} {m : Str → Option Value}, P.Nodup → P[i]? = some x → vs[i]? = some v → kindOf x = some .local →
    bindL kindOf (P.zip vs) m x = some v
  | [], _, _, _, _, h, _, _ => by simp at h
  | _ :: _, [], _, _, _, _, h, _ => by simp at h
  | p :: P, w :: vs, 0, m, nd, h1, h2, hk => by
    simp at h1 h2; subst h1; subst h2
    show bindL kindOf ((p, w) :: P.zip vs) m p = _
    unfold bindL
    rw [bindL_out fun v hv => (List.nodup_cons.mp nd).1 (List.of_mem_zip hv).1, if_pos hk]
    simp
  | p :: P, w :: vs, i + 1, m, nd, h1, h2, hk => by
    show bindL kindOf ((p, w) :: P.zip vs) m x = _
    unfold bindL
    exact bindL_get (i := i) (List.nodup_cons.mp nd).2 (by simpa using h1) (by simpa using h2) hk
theorem bindC_get {kindOf : Str → Option NameKind} {x : Str} {v : Value} : ∀ {P : List Str} {vs : List Value} {i : Nat} {m : Str → Option Value}, P.Nodup → P[i]? = some x → vs[i]? = some v → kindOf x ≠ some .local →
    bindC kindOf (P.zip vs) m x = some v
  | [], _, _, _, _, h, _, _ => by simp at h
  | _ :: _, [], _, _, _, _, h, _ => by simp at h
  | p :: P, w :: vs, 0, m, nd, h1, h2, hk => by
    simp at h1 h2; subst h1; subst h2
    show bindC kindOf ((p, w) :: P.zip vs) m p = _
    unfold bindC
    rw [bindC_out fun v hv => (List.nodup_cons.mp nd).1 (List.of_mem_zip hv).1, if_neg hk]
    simp
  | p :: P, w :: vs, i + 1, m, nd, h1, h2, hk => by
    show bindC kindOf ((p, w) :: P.zip vs) m x = _
    unfold bindC
    exact bindC_get (i := i) (List.nodup_cons.mp nd).2 (by simpa using h1) (by simpa using h2) hk
def start (N : List Str) (vs : List V) : St := vs.map some ++ List.replicate (N.length - vs.length) none
def cxOf (CX : CXT) (P : Program) (w : World) (K : PySem.W.Frag) (mg : Str → Option Value) (base : Heap) (N : List Str) (qual : Str) (scope : Scope) (f : Addr) (cd : Value) (A : Around) (outer : List Env) (s : Shared) (H : Hp) (E : XK) : Cx where
  prog := P
  w := w
  K := K
  mg := mg
  base := base
  A := A.deeper (envOfC qual scope s.heap.objs.size f cd)
  N := N
  s₀ := s
  H₀ := H
  env := envOfC qual scope s.heap.objs.size f cd
  outer := outer
  stack := envOfC qual scope s.heap.objs.size f cd :: outer
  ex := []
  calm := true
  fn := fun _ => true
  pn := []
  xe := fun e s' => wpAny (model P w) (A.deeper (envOfC qual scope s.heap.objs.size f cd)) (leaving (envOfC qual scope s.heap.objs.size f cd) e) (fun _ s'' => CX outer H s E e s'') (fun e' s'' => CX outer H s E e' s'') s'
theorem cell_has {sc : Scope} {n : Nat} {x : Str} (h : sc.names.lookup x = some .cell) : ∃ c, (cellsFrom n sc.names []).lookup x = some c := by
  have q := PySem.W.cellsFrom_some sc.names n [] (.inl h)
  exact Option.isSome_iff_exists.mp q
theorem inv_start {CX : CXT} {P : Program} {w : World} {K : PySem.W.Frag} {mg : Str → Option Value} {base : Heap} {N ps : List Str} {qual : Str} {scope : Scope} {f : Addr} {cd : Value} {A : Around} {outer : List Env} {s s1 : Shared} {H : Hp} {E : XK} {us : List Value} {vs : List V}
    (S : FnScope N ps scope) (hd : A.handled = none) (e0 : Env0 P w K mg base A outer s H) (hl : vs.length = ps.length) (r : Vals vs us)
    (x : InCallC s s.heap.objs.size (bindL (envOfC qual scope s.heap.objs.size f cd).kindOf (ps.zip us) fun _ => none) (cellsFrom (s.heap.objs.size + 1) scope.names []) (bindC (envOfC qual scope s.heap.objs.size f cd).kindOf (ps.zip us) fun _ => none) s1) :
    Inv (cxOf CX P w K mg base N qual scope f cd A outer s H E) [] (start N vs) H s1 := by
  have hpl : ps.length ≤ N.length := by have := congrArg List.length S.pre; rw [List.length_take] at this; omega
  obtain ⟨h1, tk, rfl, hk⟩ := x.done
  have noA : ∀ b : Addr, b ∉ (cxOf CX P w K mg base N qual scope f cd A outer s H E).ex := fun b z => absurd (show b ∈ ([] : List Addr) from z) (by simp)
  refine ⟨⟨e0.mod, S.kind, rfl, rfl, Nat.le_refl _, fun y z c h1 h2 => ?_, fun y hy => ?_, fun y c _ h => ?_, fun _ => hd, Around.frames_deeper e0.frames, .inr ⟨rfl, rfl⟩, fun b z => absurd z (noA b), e0.bs, e0.bsz, fun b _ _ => noA b, fun b z => absurd z (noA b), e0.funs, e0.frf⟩,
    rfl, e0.bare, Un.kept hk, ⟨_, x.toInCall.ns, fun i y v h1 h2 h3 => ?_⟩, fun y c h => ⟨_, x.cell y c h⟩, e0.hok.fresh (Nat.le_refl _), fun y c h => ?_, fun p hp => absurd (show p ∈ ([] : List (Addr × Obj)) from hp) (by simp), e0.hok.kept hk, ?_⟩
  · exact name_of_addr x.apart (PySem.mem_of_lookup h1) (PySem.mem_of_lookup h2)
  · have hy : scope.names.lookup y = some .cell ∨ scope.names.lookup y = some .free := hy
    rcases hy with hy | hy
    · exact cell_has hy
    · exact absurd rfl (S.nofree _ (PySem.mem_of_lookup hy))
  · exact Nat.le_of_lt (x.above y c (PySem.mem_of_lookup h))
  · have hi : i < vs.length := by
      unfold start at h2
      by_cases hi : i < vs.length
      · exact hi
      · rw [List.getElem?_append_right (by simpa using hi)] at h2
        rw [List.getElem?_replicate] at h2
        split at h2 <;> cases h2
    have ha : vs[i]? = some v := by
      unfold start at h2
      rw [List.getElem?_append_left (by simpa using hi), List.getElem?_map] at h2
      cases e : vs[i]? with
      | none => rw [e] at h2; cases h2
      | some a => rw [e] at h2; cases h2; rfl
    obtain ⟨u, hu, rv⟩ := r.get ha
    have hp : ps[i]? = some y := by
      rw [← S.pre, List.getElem?_take_of_lt (by omega)]; exact h1
    have ndP : ps.Nodup := by rw [← S.pre]; exact S.nd.sublist (List.take_sublist _ _)
    refine ⟨u, rv, ?_⟩
    rcases S.par y (List.mem_of_getElem? hp) with k | k
    · exact .inl ⟨k, bindL_get ndP hp hu k⟩
    · obtain ⟨c, e⟩ := cell_has (n := s.heap.objs.size + 1) k
      refine .inr ⟨.inl k, c, e, ?_⟩
      have q := x.cell y c e
      rw [bindC_get ndP hp hu (by show scope.names.lookup y ≠ _; rw [k]; decide)] at q
      exact q
  · exact e0.hok.fresh (Nat.le_of_lt (x.above y c (PySem.mem_of_lookup h)))
  · unfold start
    show _ = N.length
    rw [List.length_append, List.length_map, List.length_replicate]
    omega
theorem fn_of {CX : CXT} {P : Program} {w : World} {K : PySem.W.Frag} {mg : Str → Option Value} {base : Heap} {k : Nat} {f : Addr} {name qual : Str} {params : Arguments} {body : List Stmt} {scope : Scope} {dV kV doc pm cdv ct oc : Value} {an od : Option Addr}
    {osl : Array (Option Value)} {N ps : List Str} {sp : Sp} (lk : K.lookup f = some ⟨oc, od, .func (PySem.W.fnOf name qual params body scope dV kV doc pm an cdv ct), osl⟩) (hcd : PySem.W.codeIn K cdv qual = true) (S : FnScope N ps scope)
    (len : ∀ vs H Q E, sp vs H Q E → vs.length = ps.length)
    (hbody : ∀ (A : Around) (outer : List Env) (s : Shared) (H : Hp) (vs : List V) (Q : VK) (E : XK), Room k (A.deeper (envOfC qual scope s.heap.objs.size f cdv)) → sp vs H Q E →
      ∃ t, PSs (cxOf CX P w K mg base N qual scope f cdv A outer s H E) body t ∧ t { nx := fun _ H' => Q .non H', rt := Q } (start N vs) H) :
    FnOk P w K mg base CX (k + 1) f (PySem.W.fnOf name qual params body scope dV kV doc pm an cdv ct) ps sp := by
  refine ⟨len, fun A outer s H args us vs Q E hr e0 hb r hsp => ?_⟩
  have hl := len _ _ _ _ hsp
  have KX : K.In s.heap := e0.mod.kin.keeps fun b o e => (e0.bs b o e).1
  have lim : s.heap.NoLimit := e0.mod.nolimit.keeps fun b o e => (e0.bs b o e).1
  have hkind : ∀ y ∈ ps.zip us, scope.names.lookup y.1 = some .local ∨ (scope.names.lookup y.1 = some .cell ∧ ((cellsFrom (s.heap.objs.size + 1) scope.names []).lookup y.1).isSome = true) := fun ⟨n, v⟩ hy => by
    rcases S.par n (List.of_mem_zip hy).1 with q | q
    · exact .inl q
    · exact .inr ⟨q, PySem.W.cellsFrom_some _ _ _ (.inl q)⟩
  refine codeAny_call_function hr.depth (KX _ _ lk) rfl S.co S.gen rfl (PySem.W.codeRec_of KX hcd) (hb _ _ _ _ ?_)
  refine wpAny_newFunctionEnv_cells S.kind hkind fun env he s1 x => ?_
  subst he
  refine ⟨lim.keeps x.toInCall.keep, codeAny_func ?_⟩
  obtain ⟨t, ht, hq⟩ := hbody A outer s H vs Q E (hr.deeper _) hsp
  have I : Inv (cxOf CX P w K mg base N qual scope f cdv A outer s H E) [] (start N vs) H s1 := inv_start S hr.hd e0 hl r x
  refine wpAny_mono (ht [] s1 (start N vs) H _ I hq) (fun fl s' hs => ?_) fun e s' hs => hs
  have fin : ∀ {σ' : St} {H' : Hp} {v : V} {u : Value}, Inv (cxOf CX P w K mg base N qual scope f cdv A outer s H E) [] σ' H' s' → RelV v u → Q v H' → CE outer P w H s Q u s' :=
    fun {σ' H' v u} J rv q => ⟨v, H', J.os, J.bare, J.base, J.hok, rv, q⟩
  cases fl with
  | ret u =>
    obtain ⟨v, σ', H', J, rv, q⟩ := hs
    exact fin J rv q
  | next =>
    obtain ⟨σ', H', J, q⟩ := hs
    exact fin (v := V.non) (u := Value.none) J rfl q
  | brk =>
    obtain ⟨_, _, _, q⟩ := hs
    exact False.elim q
  | cont =>
    obtain ⟨_, _, _, q⟩ := hs
    exact False.elim q
end L2
namespace L2
open PySem PySem.Spec PyProof.Rows
section
variable {X : Cx} {x : Str} {p pos : Pos} {e : Expr} {es : List Expr} {t : TA} {id T : String} {r : List V → Hp → VK → Prop}
def tCB (r : List V → Hp → VK → Prop) (t : TA) : TE := fun σ H Q => t σ H fun vs H1 => r vs H1 Q
theorem pe_callB (hc : CallR X (.builtin id) r) (hg : Gl X x) (hm : X.mg x = none) (hv : bootBuiltins x = some (.builtin id)) (ha : PA X (e :: es) t) (hn : x ≠ "__name__" := by decide) (hdb : (x == ("__debug__" : Str)) = false := by decide)
    (he : starEach (e :: es) X.env = (false, eval e X.env) :: starEach es X.env := by rfl) (hpl : (backTo pos (starEach es X.env)).any (·.1) = false := by rfl) : PE X (.Call (.Name x p) (e :: es) [] pos) (tCB r t) := by
  intro pins s σ H Q I h
  refine wpAny_Call_Name_kw (ld_blt I hg hm hv ?_ hn hdb)
  exact PyProof.Rows.callWith_builtin1 (thn (ha pos pins s σ H _ I h) fun us s1 ⟨vs, H1, I1, r1, q1⟩ => hc pins s1 σ H1 vs us Q I1 r1 q1) he hpl
theorem pe_callTy (hc : CallR X (.type T) r) (hg : Gl X x) (hm : X.mg x = none) (hv : bootBuiltins x = some (.type T)) (ha : PA X (e :: es) t) (hn : x ≠ "__name__" := by decide) (hdb : (x == ("__debug__" : Str)) = false := by decide)
    (he : starEach (e :: es) X.env = (false, eval e X.env) :: starEach es X.env := by rfl) (hpl : (backTo pos (starEach es X.env)).any (·.1) = false := by rfl) : PE X (.Call (.Name x p) (e :: es) [] pos) (tCB r t) := by
  intro pins s σ H Q I h
  refine wpAny_Call_Name_kw (ld_blt I hg hm hv ?_ hn hdb)
  exact PyProof.Rows.callWith_type1 (thn (ha pos pins s σ H _ I h) fun us s1 ⟨vs, H1, I1, r1, q1⟩ => hc pins s1 σ H1 vs us Q I1 r1 q1) he hpl
end
end L2
namespace HT
open PySem PyProof.Rows
section
open PySem.SeqAt
open PySem.AutoSeq1 (wpAny_loadPart')
open PySem.MeetsSeq PySem.MeetsSeq2 PySem.MeetsSeq3
end
section
variable {prog : Program} {w : World} {A : Around} {E : Value → Shared → Prop} {s : Shared}
theorem cat_tup {t b : Addr} {vs ws : List Value} {Q : Value → Shared → Prop} (ht : IsTup s.heap t vs.toArray) (hb : IsTup s.heap b ws.toArray) (hv : vs ≠ [])
    (h1 : ws = [] → Q (.ref t) s) (h2 : ws ≠ [] → Q (.ref s.heap.objs.size) { s with heap := s.heap.push { cls := .type "tuple", data := .seq (vs ++ ws).toArray } })
    (hsz : vs.length + ws.length ≤ sizeLine) : wpAny (model prog w) A (binaryOp .Add (.ref t) (.ref b)) Q E s := by
  obtain ⟨⟨cls, dd, data, sl⟩, ho, hc, n, hd⟩ := id ht
  obtain ⟨⟨cls2, dd2, data2, sl2⟩, ho2, hc2, n2, hd2⟩ := id hb
  simp only at hc hd hc2 hd2
  subst hc hd hc2 hd2
  have e : vs.toArray ++ ws.toArray = (vs ++ ws).toArray := by simp
  by_cases hw : ws = []
  · exact concat_meets ⟨_, ho, rfl⟩ ⟨_, ho2, rfl⟩ noFill_tuple_add seq_tuple_add PySem.F.slot_tuple_add PySem.F.entry_tuple_add (PySem.F.args_tuple_add_2 _ _)
      (tuple_addW1 t b vs.toArray ws.toArray n n2 dd dd2 sl sl2 (by simpa using hv) (by simp [hw])) ⟨ho, ho2, h1 hw⟩
  · refine concat_meets ⟨_, ho, rfl⟩ ⟨_, ho2, rfl⟩ noFill_tuple_add seq_tuple_add PySem.F.slot_tuple_add PySem.F.entry_tuple_add (PySem.F.args_tuple_add_2 _ _)
      (tuple_addW2 t b vs.toArray ws.toArray n n2 dd dd2 sl sl2 (by simpa using hv) (by simpa using hw) (by rw [List.size_toArray, List.size_toArray]; exact hsz)) ⟨ho, ho2, ?_⟩
    rw [e]
    exact h2 hw
def sIx (n d : Nat) : Option Int → Nat
  | none => d
  | some v => if v < 0 then (v + (n : Int)).toNat else min v.toNat n
theorem sIx_none (n d : Nat) : sIx n d none = d := rfl
theorem sIx_nat (n d k : Nat) : sIx n d (some (k : Int)) = min k n := by
  show (if (k : Int) < 0 then ((k : Int) + (n : Int)).toNat else min (k : Int).toNat n) = min k n
  rw [if_neg (by omega), Int.toNat_natCast]
theorem sIx_le (n d : Nat) (hd : d ≤ n) (o : Option Int) : sIx n d o ≤ n := by
  cases o with
  | none => exact hd
  | some v =>
    show (if v < 0 then (v + (n : Int)).toNat else min v.toNat n) ≤ n
    by_cases hv : v < 0
    · rw [if_pos hv]; omega
    · rw [if_neg hv]; exact Nat.min_le_right _ _
theorem clip_eq (v : Int) (n d : Nat) : (if v < 0 then max (v + (n : Int)) 0 else min v (n : Int)) = ((sIx n d (some v) : Nat) : Int) := by
  show (if v < 0 then max (v + (n : Int)) 0 else min v (n : Int)) = (((if v < 0 then (v + (n : Int)).toNat else min v.toNat n) : Nat) : Int)
  by_cases hv : v < 0
  · simp only [if_pos hv]; omega
  · simp only [if_neg hv]; omega
theorem adjust_gen (lo hi : Option Int) (n : Nat) : Builtin.Slice.sliceAdjust lo hi 1 (n : Int) = (((sIx n 0 lo : Nat) : Int), ((sIx n n hi : Nat) : Int)) := by
  have h1 : ¬ ((1 : Int) < 0) := by omega
  unfold Builtin.Slice.sliceAdjust
  simp only [h1, if_false]
  refine Prod.ext ?_ ?_
  · cases lo with
    | none => rfl
    | some v => exact clip_eq v n 0
  · cases hi with
    | none => rfl
    | some v => exact clip_eq v n n
theorem places_gen (i j : Nat) : Builtin.Slice.slicePlaces (i : Int) (j : Int) 1 = j - i := by
  unfold Builtin.Slice.slicePlaces
  have h1 : (1 : Int) > 0 := by omega
  simp only [h1, if_true, Int.ediv_one]
  split <;> omega
theorem slicePart_ {v : Value} {o : Option Int} {Q : Option Int → Shared → Prop} (p : IsPart v o) (h : Q o s) : wpAny (model prog w) A (Builtin.Slice.slicePartIndex v) Q E s := by
  cases p with
  | none => exact slicePart_none h
  | int i t => exact slicePart_int h
theorem sliceApplied_gen {sl : Addr} {vl vu : Value} {lo hi : Option Int} {n : Nat} {Q : Int × Int × Nat → Shared → Prop} (hs : s.heap.IsSliceOf sl vl vu .none) (pl : IsPart vl lo) (pu : IsPart vu hi)
    (h : Q (((sIx n 0 lo : Nat) : Int), 1, sIx n n hi - sIx n 0 lo) s) : wpAny (model prog w) A (Builtin.Slice.sliceApplied (.ref sl) (pure (n : Int))) Q E s := by
  obtain ⟨os, hos, hcs, hds⟩ := id hs
  unfold Builtin.Slice.sliceApplied Builtin.Slice.sliceFields
  refine wpAny_bind (wpAny_bind (wpAny_field hos hds (x := vl) rfl (wpAny_bind (wpAny_field hos hds (x := vu) rfl (wpAny_bind (wpAny_field hos hds (x := .none) rfl (wpAny_pure ?_)))))))
  refine wpAny_bind (slicePart_none ?_)
  show wpAny _ _ (if ((1 : Int) == 0) = true then _ else _) _ _ s
  rw [if_neg (by decide)]
  refine wpAny_bind (slicePart_ pl (wpAny_bind (slicePart_ pu (wpAny_bind (wpAny_pure ?_)))))
  show wpAny _ _ (match Builtin.Slice.sliceAdjust lo hi 1 (n : Int) with | (lo, hi) => pure (lo, (1 : Int), Builtin.Slice.slicePlaces lo hi 1)) _ _ s
  rw [adjust_gen lo hi n]
  show wpAny _ _ (pure (((sIx n 0 lo : Nat) : Int), (1 : Int), Builtin.Slice.slicePlaces ((sIx n 0 lo : Nat) : Int) ((sIx n n hi : Nat) : Int) 1)) _ _ s
  rw [places_gen]
  exact wpAny_pure h
theorem pick_gen (xs : Array Value) (i k : Nat) : ((List.range k).filterMap fun (m : Nat) => xs[((i : Int) + (m : Int) * 1).toNat]?).toArray = ((xs.toList.drop i).take k).toArray := by
  have e : (fun (m : Nat) => xs[((i : Int) + (m : Int) * 1).toNat]?) = fun m => xs[i + m]? := by
    funext m
    have : ((i : Int) + (m : Int) * 1).toNat = i + m := by omega
    rw [this]
  rw [e]
  have := pick_run xs i k
  rw [List.filterMap_map] at this
  have e2 : ((fun x => xs[x]?) ∘ fun x => i + x) = fun m => xs[i + m]? := rfl
  rw [e2] at this
  rw [this]
theorem getItem_tuple_cut {t sl : Addr} {items : Array Value} {vl vu : Value} {lo hi : Option Int} {Q : Value → Shared → Prop} (ht : IsTup s.heap t items) (hs : s.heap.IsSliceOf sl vl vu .none) (pl : IsPart vl lo) (pu : IsPart vu hi)
    (hw : ¬ (sIx items.size 0 lo = 0 ∧ sIx items.size items.size hi = items.size))
    (h : Q (.ref s.heap.objs.size) { s with heap := s.heap.push { cls := .type "tuple", data := .seq ((items.toList.drop (sIx items.size 0 lo)).take (sIx items.size items.size hi - sIx items.size 0 lo)).toArray } })
    (hsz : items.size ≤ sizeLine) : wpAny (model prog w) A (getItem (.ref t) (.ref sl)) Q E s := by
  have htake : sizeOk (.seq ((items.toList.drop (sIx items.size 0 lo)).take (sIx items.size items.size hi - sIx items.size 0 lo)).toArray) := by
    show ((items.toList.drop (sIx items.size 0 lo)).take (sIx items.size items.size hi - sIx items.size 0 lo)).toArray.size ≤ sizeLine
    rw [List.size_toArray, List.length_take, List.length_drop, Array.length_toList]
    omega
  have hj : sIx items.size items.size hi ≤ items.size := sIx_le _ _ (Nat.le_refl _) hi
  obtain ⟨os, hos, hcs, hds⟩ := id hs
  have hTs : s.TypeIs (.ref sl) "slice" := ⟨os, hos, hcs⟩
  unfold getItem
  try with_reducible refine wpAny_holding ?_
  first | refine wpAny_bind (wpAny_pure ?_) | skip
  refine wpAny_bind (wpAny_sequenceKey ht.typeIs (by decide) ?_)
  refine wpAny_bind (wpAny_callSpecial?_slot (name := Str.ofString "__getitem__") ht.typeIs PyProof.Rows.slot_tuple_getitem
    (wpAny_call_entry PyProof.Rows.slot_tuple_getitem ht.typeIs entry_tuple_getitem ?_ (args_tuple_getitem _ _)))
  show wpAny _ _ (Builtin.Tuple.tupleItemsOf (.ref t) >>= _) _ _ s
  refine wpAny_bind (tupleItemsOf_ ht ?_)
  refine wpAny_bind (wpAny_typeOf hTs ?_)
  rw [if_pos (by decide)]
  refine wpAny_bind (sliceApplied_gen hs pl pu ?_)
  have hno : ¬ ((((sIx items.size 0 lo : Nat) : Int) == 0 && (1 : Int) == 1 && (sIx items.size items.size hi - sIx items.size 0 lo) == items.size) = true) := by
    intro q
    rw [Bool.and_eq_true, Bool.and_eq_true] at q
    have q1 : ((sIx items.size 0 lo : Nat) : Int) = 0 := eq_of_beq q.1.1
    have q2 : sIx items.size items.size hi - sIx items.size 0 lo = items.size := eq_of_beq q.2
    exact hw ⟨by omega, by omega⟩
  show wpAny _ _ (if (((sIx items.size 0 lo : Nat) : Int) == 0 && (1 : Int) == 1 && (sIx items.size items.size hi - sIx items.size 0 lo) == items.size) = true then _ else _) _ _ s
  rw [if_neg hno, pick_gen]
  first
    | exact wpAny_bind (m := Builtin.Tuple.tupleExact _) (wpAny_newObj_type (wpAny_pure ⟨_, rfl, wpAny_pure h⟩) htake)
    | exact wpAny_bind (m := Builtin.Tuple.tupleExact _) (wpAny_newObj_type (wpAny_bind (wpAny_pure (wpAny_pure ⟨_, rfl, wpAny_pure h⟩))) htake)
    | exact wpAny_bind (wpAny_bind (m := Builtin.Tuple.tupleExact _) (wpAny_newObj_type (wpAny_pure (wpAny_pure ⟨_, rfl, wpAny_pure h⟩)) htake))
    | exact wpAny_bind (wpAny_bind (m := Builtin.Tuple.tupleExact _) (wpAny_newObj_type (wpAny_pure ⟨_, rfl, wpAny_pure h⟩) htake))
end
end HT
namespace L2
open PySem PySem.Spec PyProof.Rows
abbrev TO := St → Hp → (Option Int → Hp → Prop) → Prop
def PO (X : Cx) (e : Option Expr) (t : TO) : Prop :=
  ∀ (pins : List (Addr × Obj)) (s : Shared) (σ : St) (H : Hp) (Q : Option Int → Hp → Prop), Inv X pins σ H s → t σ H Q →
    wpAny (model X.prog X.w) X.A (evalPart e X.env) (fun u s' => ∃ o H', Inv X pins σ H' s' ∧ IsPart u o ∧ Q o H') X.xe s
def tNoPart : TO := fun _ H Q => Q none H
def tPart (t : TE) : TO := fun σ H Q => t σ H fun x H1 => ∃ i, x = .int i ∧ Q (some i) H1
section
variable {X : Cx} {e : Expr} {te : TE} {lo hi : Option Expr} {tl th : TO} {pos p2 : Pos}
theorem po_none : PO X none tNoPart := by
  intro pins s σ H Q I h
  rw [evalPart_none]
  exact wpAny_pure ⟨none, H, I, .none, h⟩
theorem po_some (h : PE X e te) : PO X (some e) (tPart te) := by
  intro pins s σ H Q I hw
  rw [evalPart_some]
  refine thn (h pins s σ H _ I hw) fun u s1 ⟨x, H1, I1, r1, q1⟩ => ?_
  obtain ⟨i, rfl, q⟩ := q1
  obtain ⟨t, rfl⟩ := r1
  exact ⟨some i, H1, I1, .int i t, q⟩
def SlR (X : Cx) (r : V → Option Int → Option Int → Hp → VK → Prop) : Prop :=
  ∀ (pins : List (Addr × Obj)) (s : Shared) (σ : St) (H : Hp) (x : V) (v vl vu : Value) (lo hi : Option Int) (sl : Addr) (Q : VK), Inv X pins σ H s → RelV x v → s.heap.IsSliceOf sl vl vu .none → IsPart vl lo → IsPart vu hi → r x lo hi H Q →
    ∃ T id, typeLookup (.type T) "__getitem__" = pure (some (.builtin id)) ∧ s.TypeIs v T ∧ wpAny (model X.prog X.w) X.A (getItem v (.ref sl)) (EP X pins σ Q) X.xe s
def tSl (r : V → Option Int → Option Int → Hp → VK → Prop) (te : TE) (tl th : TO) : TE := fun σ H Q => te σ H fun x H1 => tl σ H1 fun l H2 => th σ H2 fun u H3 => r x l u H3 Q
theorem pe_slice {r : V → Option Int → Option Int → Hp → VK → Prop} (hr : SlR X r) (he : PE X e te) (hl : PO X lo tl) (hu : PO X hi th) : PE X (.Subscript e (.Slice lo hi none p2) pos) (tSl r te tl th) := by
  intro pins s σ H Q I h
  refine Subscript_ (thn (he pins s σ H _ I h) fun v s1 ⟨x, H1, I1, r1, q1⟩ => ?_)
  refine wpAny_Slice (thn (hl pins s1 σ H1 _ I1 q1) fun vl s2 ⟨l, H2, I2, pl, q2⟩ => thn (hu pins s2 σ H2 _ I2 q2) fun vu s3 ⟨u, H3, I3, pu, q3⟩ => ?_)
  rw [evalPart_none]
  refine wpAny_pure ?_
  have I4 : Inv X pins σ H3 { s3 with heap := s3.heap.push { cls := .type "slice", data := .fields #[vl, vu, .none] } } := I3.kept (t' := s3.toks) fun b ob q => Heap.get?_push_of_some _ q
  obtain ⟨T, id, hT, ht, hg⟩ := hr pins { s3 with heap := s3.heap.push { cls := .type "slice", data := .fields #[vl, vu, .none] } } σ H3 x v vl vu l u s3.heap.objs.size Q I4 r1 (Heap.IsSliceOf.new ..) pl pu q3
  show wpAny (model X.prog X.w) X.A (subscriptTail e (.Slice lo hi none p2) v (.ref s3.heap.objs.size)) (EP X pins σ Q) X.xe { s3 with heap := s3.heap.push { cls := .type "slice", data := .fields #[vl, vu, .none] } }
  exact tail_any (ops := [.ref s3.heap.objs.size, v]) ht hT hg (by with_unfolding_all rfl)
def cutV (xs : List V) (lo hi : Option Int) : List V := (xs.drop (HT.sIx xs.length 0 lo)).take (HT.sIx xs.length xs.length hi - HT.sIx xs.length 0 lo)
theorem cutV_length (xs : List V) (lo hi : Option Int) : (cutV xs lo hi).length ≤ xs.length := by
  unfold cutV
  rw [List.length_take, List.length_drop]
  omega
def rSlT (K : PySem.W.Frag) : V → Option Int → Option Int → Hp → VK → Prop := fun x lo hi H Q => ∃ a xs, x = .ref a ∧ SqT K H a xs ∧
  ¬ (HT.sIx xs.length 0 lo = 0 ∧ HT.sIx xs.length xs.length hi = xs.length) ∧ ∀ p, H p = none → Q (.ref p) (upd H p (.tup (cutV xs lo hi)))
theorem sl_tup : SlR X (rSlT X.K) := by
  intro pins s σ H x v vl vu lo hi sl Q I rx hs pl pu h
  obtain ⟨a, xs, rfl, hx, hw, q⟩ := h
  cases rx
  obtain ⟨its, r, ht, hz⟩ := I.tuple hx
  have hlen : its.toArray.size = xs.length := by rw [List.size_toArray]; exact r.length.symm
  refine ⟨"tuple", _, PyProof.Rows.slot_tuple_getitem.lookup, ht.typeIs, ?_⟩
  refine HT.getItem_tuple_cut ht hs pl pu (by rw [hlen]; exact hw) ?_ (by rw [hlen]; exact hz)
  rw [hlen]
  refine ⟨.ref s.heap.objs.size, _, I.laid (t' := s.toks) (o := .tup (cutV xs lo hi)) (fun b ob q => Heap.get?_push_of_some _ q) (Nat.le_refl _) ?_, rfl, q _ (I.hok.fresh (Nat.le_refl _))⟩
  exact ⟨Nat.le_trans (cutV_length xs lo hi) hz, _, (r.drop (HT.sIx xs.length 0 lo)).take (HT.sIx xs.length xs.length hi - HT.sIx xs.length 0 lo), IsTup.new _ _⟩
def rCatT (K : PySem.W.Frag) : R2 := fun x y H Q => ∃ a b xs ys, x = .ref a ∧ y = .ref b ∧ SqT K H a xs ∧ SqT K H b ys ∧ xs ≠ [] ∧ xs.length + ys.length ≤ sizeLine ∧
  (ys = [] → Q (.ref a) H) ∧ (ys ≠ [] → ∀ p, H p = none → Q (.ref p) (upd H p (.tup (xs ++ ys))))
theorem Vals.nil_iff {xs : List V} {us : List Value} (r : Vals xs us) : us = [] ↔ xs = [] := by
  cases r with
  | nil => simp
  | cons _ _ => simp
theorem op_catT : OpR X (binaryOp .Add) (rCatT X.K) := by
  intro pins s σ H x y v u Q I rx ry h
  obtain ⟨a, b, xs, ys, rfl, rfl, ha, hb, hx, hz, q1, q2⟩ := h
  cases rx
  cases ry
  obtain ⟨its, r1, p1, _⟩ := I.tuple ha
  obtain ⟨its2, r2, p2, _⟩ := I.tuple hb
  refine HT.cat_tup p1 p2 (fun z => hx (r1.nil_iff.mp z)) (fun z => ⟨.ref a, H, I, rfl, q1 (r2.nil_iff.mp z)⟩) (fun z => ?_) (by rw [← r1.length, ← r2.length]; exact hz)
  refine ⟨.ref s.heap.objs.size, _, I.laid (t' := s.toks) (o := .tup (xs ++ ys)) (fun b ob q => Heap.get?_push_of_some _ q) (Nat.le_refl _) ?_, rfl, q2 (fun w => z (r2.nil_iff.mpr w)) _ (I.hok.fresh (Nat.le_refl _))⟩
  exact ⟨by rw [List.length_append]; exact hz, _, r1.append r2, IsTup.new _ _⟩
end
end L2
namespace L2
open PySem PySem.Spec PyProof.Rows
def ixN (n : Nat) (i : Int) : Option Nat := if 0 ≤ i then (if i < n then some i.toNat else none) else if -(n : Int) ≤ i then some (i + n).toNat else none
def atI {α : Type} (xs : List α) (i : Int) : Option α := (ixN xs.length i).bind fun j => xs[j]?
theorem ixN_seq {n : Nat} {i : Int} {j : Nat} (h : ixN n i = some j) : seqIndex? i n = some j ∧ j < n ∧ -(n : Int) ≤ i ∧ i < n := by
  unfold ixN at h
  by_cases h0 : 0 ≤ i
  · rw [if_pos h0] at h
    by_cases h1 : i < n
    · rw [if_pos h1] at h
      have e : i.toNat = j := Option.some.inj h
      exact ⟨by rw [seqIndex_of h0 h1, e], by omega, by omega, h1⟩
    · rw [if_neg h1] at h; cases h
  · rw [if_neg h0] at h
    by_cases h1 : -(n : Int) ≤ i
    · rw [if_pos h1] at h
      have e : (i + n).toNat = j := Option.some.inj h
      exact ⟨by rw [seqIndex_neg (by omega) h1, e], by omega, h1, by omega⟩
    · rw [if_neg h1] at h; cases h
theorem atI_get {α : Type} {xs : List α} {i : Int} {v : α} (h : atI xs i = some v) : ∃ j, seqIndex? i xs.length = some j ∧ xs[j]? = some v ∧ j < xs.length ∧ -(xs.length : Int) ≤ i ∧ i < xs.length := by
  unfold atI at h
  cases e : ixN xs.length i with
  | none => rw [e] at h; cases h
  | some j =>
    rw [e] at h
    obtain ⟨h1, h2, h3, h4⟩ := ixN_seq e
    exact ⟨j, h1, h, h2, h3, h4⟩
theorem atI_nat {α : Type} {xs : List α} {j : Nat} {v : α} (h : xs[j]? = some v) : atI xs (j : Int) = some v := by
  have hj : j < xs.length := (List.getElem?_eq_some_iff.mp h).1
  have e : ixN xs.length (j : Int) = some j := by
    unfold ixN
    rw [if_pos (by omega), if_pos (by omega)]; simp
  unfold atI; rw [e]; exact h
def PlainIx (b : Expr) : Prop := ∀ o i, subscripted b false o i = operate [o, i] (getItem o i)
def IxR (X : Cx) (r : R2) : Prop :=
  ∀ (value slice : Expr) (pins : List (Addr × Obj)) (s : Shared) (σ : St) (H : Hp) (x y : V) (v u : Value) (Q : VK), Inv X pins σ H s → RelV x v → RelV y u → r x y H Q →
    subscripted slice false v u = operate [v, u] (getItem v u) → wpAny (model X.prog X.w) X.A (subscriptTail value slice v u) (EP X pins σ Q) X.xe s
def MtR (X : Cx) (id : String) (r : V → List V → Hp → VK → Prop) : Prop :=
  ∀ (pins : List (Addr × Obj)) (s : Shared) (σ : St) (H : Hp) (x : V) (xs : List V) (v : Value) (us : List Value) (Q : VK), Inv X pins σ H s → RelV x v → Vals xs us → r x xs H Q →
    wpAny (model X.prog X.w) X.A (call (.builtin id) (v :: us)) (EP X pins σ Q) X.xe s
section
variable {X : Cx} {a b : Expr} {ta tb : TE} {pos : Pos}
theorem pe_ix {r : R2} (hr : IxR X r) (ha : PE X a ta) (hb : PE X b tb) (hs : PlainIx b) : PE X (.Subscript a b pos) (tOp r ta tb) := by
  intro pins s σ H Q I h
  exact Subscript_ (binT ha hb I h fun v u s2 x y H2 I2 rx ry q => hr a b pins s2 σ H2 x y v u Q I2 rx ry q (hs _ _))
def rIxL (K : PySem.W.Frag) : R2 := fun x y H Q => ∃ p xs i v, x = .ref p ∧ y = .int i ∧ SqL K H p xs ∧ atI xs i = some v ∧ Q v H
def rIxT (K : PySem.W.Frag) : R2 := fun x y H Q => ∃ p xs i v, x = .ref p ∧ y = .int i ∧ SqT K H p xs ∧ atI xs i = some v ∧ Q v H
def rIxS : R2 := fun x y H Q => ∃ z i c, x = .str z ∧ y = .int i ∧ z.length ≤ sizeLine ∧ atI z.cps.toList i = some c ∧ Q (.str ⟨#[c]⟩) H
theorem ix_list : IxR X (rIxL X.K) := by
  intro value slice pins s σ H x y v u Q I rx ry h hs
  obtain ⟨p, xs, i, z, rfl, rfl, hq, he, q⟩ := h
  cases rx
  obtain ⟨t, rfl⟩ := ry
  obtain ⟨its, r, pl, hz⟩ := I.list hq
  obtain ⟨j, h1, h2, h3, h4, h5⟩ := atI_get he
  obtain ⟨w, ew, rw'⟩ := r.get h2
  have hl := r.length
  have hn := line63
  have fin : EP X pins σ Q w s := ⟨z, H, I, rw', q⟩
  by_cases h0 : 0 ≤ i
  · have hj : i.toNat = j := by
      rw [seqIndex_of h0 h5] at h1
      exact Option.some.inj h1
    exact item_listR pl.isList h0 (by omega) (by rw [hj]; simpa using ew) fin hs
  · have hj : (i + (its.toArray.size : Int)).toNat = j := by
      rw [seqIndex_neg (by omega) h4] at h1
      rw [List.size_toArray, ← hl]
      exact Option.some.inj h1
    exact subscriptTail_builtinR (x := w) pl.isList.typeIs slot_list_getitem.lookup
      (wpAny_getItem_list_neg (Q := fun r s' => r = w ∧ EP X pins σ Q r s') pl.isList (by omega) (by rw [List.size_toArray] <;> omega) (by omega) (by rw [hj]; simpa using ew) ⟨rfl, fin⟩) hs
theorem ix_tup : IxR X (rIxT X.K) := by
  intro value slice pins s σ H x y v u Q I rx ry h hs
  obtain ⟨p, xs, i, z, rfl, rfl, hq, he, q⟩ := h
  cases rx
  obtain ⟨t, rfl⟩ := ry
  obtain ⟨its, r, pl, hz⟩ := I.tuple hq
  obtain ⟨j, h1, h2, h3, h4, h5⟩ := atI_get he
  obtain ⟨w, ew, rw'⟩ := r.get h2
  have hl := r.length
  have hn := line63
  have fin : EP X pins σ Q w s := ⟨z, H, I, rw', q⟩
  exact subscriptTail_builtinR (x := w) pl.typeIs slot_tuple_getitem.lookup
    (getItem_tuple (j := j) (Q := fun r s' => r = w ∧ EP X pins σ Q r s') pl (by omega) (by omega) (by rw [List.size_toArray, ← hl]; exact h1) (by simpa using ew) ⟨rfl, fin⟩) hs
theorem ix_str : IxR X rIxS := by
  intro value slice pins s σ H x y v u Q I rx ry h hs
  obtain ⟨z, i, c, rfl, rfl, hz, he, q⟩ := h
  obtain ⟨t, rfl⟩ := rx
  obtain ⟨t', rfl⟩ := ry
  obtain ⟨j, h1, h2, h3, h4, h5⟩ := atI_get he
  have hl : z.cps.toList.length = z.length := by simp [Str.length]
  rw [hl] at h1 h4 h5
  have hn := line63
  exact tail_any (typeIs_str s z t) slot_str_getitem.lookup (getItem_str (c := c) (by
    have e1 : decide (i < -(2 ^ 63 : Int)) = false := decide_eq_false (by omega)
    have e2 : decide (i ≥ 2 ^ 63) = false := decide_eq_false (by omega)
    rw [e1, e2, Bool.or_false]) (by rw [h1]; simpa using h2) ⟨.str ⟨#[c]⟩, H, I.tok _, ⟨_, rfl⟩, q⟩) hs
theorem slice_bounds (lo hi : Option Int) (n : Nat) : (sliceBounds lo hi none n).1 = ((HT.sIx n 0 lo : Nat) : Int) ∧ (sliceBounds lo hi none n).2.1 = ((HT.sIx n n hi : Nat) : Int) ∧ (sliceBounds lo hi none n).2.2 = 1 := by
  refine ⟨?_, ?_, rfl⟩
  · cases lo with
    | none => simp [sliceBounds, HT.sIx]
    | some i =>
      simp only [sliceBounds, HT.sIx, Option.getD_none, show (1 : Int) > 0 by decide, if_true]
      by_cases h : i < 0
      · simp only [h, if_true] <;> omega
      · simp only [h, if_false] <;> omega
  · cases hi with
    | none => simp [sliceBounds, HT.sIx]
    | some i =>
      simp only [sliceBounds, HT.sIx, Option.getD_none, show (1 : Int) > 0 by decide, if_true]
      by_cases h : i < 0
      · simp only [h, if_true] <;> omega
      · simp only [h, if_false] <;> omega
theorem slicePick_cut (its : List Value) (lo hi : Option Int) : slicePick its.toArray lo hi none = ((its.drop (HT.sIx its.length 0 lo)).take (HT.sIx its.length its.length hi - HT.sIx its.length 0 lo)).toArray := by
  obtain ⟨h1, h2, h3⟩ := slice_bounds lo hi its.toArray.size
  unfold slicePick
  rw [h1, h2, h3]
  simp only [sliceRange_one, pick_run, List.size_toArray] <;> rfl
def rSlL (K : PySem.W.Frag) : V → Option Int → Option Int → Hp → VK → Prop := fun x lo hi H Q => ∃ a xs, x = .ref a ∧ SqL K H a xs ∧ ∀ p, H p = none → Q (.ref p) (upd H p (.lst (cutV xs lo hi)))
theorem sl_list : SlR X (rSlL X.K) := by
  intro pins s σ H x v vl vu lo hi sl Q I rx hs pl pu h
  obtain ⟨a, xs, rfl, hx, q⟩ := h
  cases rx
  obtain ⟨its, r, ht, hz⟩ := I.list hx
  have hlen := r.length
  refine ⟨"list", _, slot_list_getitem.lookup, ht.isList.typeIs, ?_⟩
  refine wpAny_getItem_list_slice ht.isList hs pl pu .none (by simp) ?_ (by rw [List.size_toArray] <;> omega)
  rw [slicePick_cut, ← hlen]
  refine ⟨.ref s.heap.objs.size, _, I.laid (t' := s.toks) (o := .lst (cutV xs lo hi)) (fun b ob q => Heap.get?_push_of_some _ q) (Nat.le_refl _) ?_, rfl, q _ (I.hok.fresh (Nat.le_refl _))⟩
  exact ⟨Nat.le_trans (cutV_length xs lo hi) hz, _, 0, (r.drop (HT.sIx xs.length 0 lo)).take (HT.sIx xs.length xs.length hi - HT.sIx xs.length 0 lo), Heap.get?_push_size _ rfl⟩
def flatV : V → Bool
  | .non => true
  | .bl _ => true
  | .int _ => true
  | .str _ => true
  | _ => false
def eqV : V → V → Bool
  | .non, .non => true
  | .bl a, .bl b => a == b
  | .bl a, .int b => (if a then 1 else 0) == b
  | .int a, .bl b => a == (if b then 1 else 0)
  | .int a, .int b => a == b
  | .str a, .str b => a == b
  | _, _ => false
theorem eqAt_V {A : Around} {s : Shared} {y x : V} {u v : Value} (ry : RelV y u) (rx : RelV x v) (fy : flatV y = true) (fx : flatV x = true) : SeqAt.EqAt A s u v (eqV y x) := by
  cases y with
  | non =>
    cases ry
    cases x with
    | non => cases rx; exact SeqAt.EqAt.same _
    | bl b => cases rx; exact SeqAt.EqAt.none_bool b
    | int b => obtain ⟨t, rfl⟩ := rx; exact SeqAt.EqAt.none_int b t
    | str b => obtain ⟨t, rfl⟩ := rx; exact SeqAt.EqAt.none_str b t
    | _ => exact absurd (show false = true from fx) Bool.false_ne_true
  | bl a =>
    cases ry
    cases x with
    | non => cases rx; exact SeqAt.EqAt.bool_none a
    | bl b => cases rx; exact SeqAt.EqAt.bool_bool a b
    | int b => obtain ⟨t, rfl⟩ := rx; exact SeqAt.EqAt.bool_int a b t
    | str b => obtain ⟨t, rfl⟩ := rx; exact SeqAt.EqAt.bool_str a b t
    | _ => exact absurd (show false = true from fx) Bool.false_ne_true
  | int a =>
    obtain ⟨t', rfl⟩ := ry
    cases x with
    | non => cases rx; exact SeqAt.EqAt.int_none a t'
    | bl b => cases rx; exact SeqAt.EqAt.int_bool a t' b
    | int b => obtain ⟨t, rfl⟩ := rx; exact SeqAt.EqAt.int_int a t' b t
    | str b => obtain ⟨t, rfl⟩ := rx; exact SeqAt.EqAt.int_str a t' b t
    | _ => exact absurd (show false = true from fx) Bool.false_ne_true
  | str a =>
    obtain ⟨t', rfl⟩ := ry
    cases x with
    | non => cases rx; exact SeqAt.EqAt.str_none a t'
    | bl b => cases rx; exact SeqAt.EqAt.str_bool a t' b
    | int b => obtain ⟨t, rfl⟩ := rx; exact SeqAt.EqAt.str_int a t' b t
    | str b => obtain ⟨t, rfl⟩ := rx; exact SeqAt.EqAt.str_str a t' b t
    | _ => exact absurd (show false = true from fx) Bool.false_ne_true
  | _ => exact absurd (show false = true from fy) Bool.false_ne_true
def eqU (x : V) (u : Value) : Bool := match u with
  | .none => eqV .non x
  | .bool b => eqV (.bl b) x
  | .int i _ => eqV (.int i) x
  | .str z _ => eqV (.str z) x
  | _ => false
theorem eqU_of {x y : V} {u : Value} (r : RelV y u) (f : flatV y = true) : eqU x u = eqV y x := by
  cases y with
  | non => cases r; rfl
  | bl b => cases r; rfl
  | int i => obtain ⟨t, rfl⟩ := r; rfl
  | str z => obtain ⟨t, rfl⟩ := r; rfl
  | _ => exact absurd (show false = true from f) Bool.false_ne_true
theorem any_eqU {x : V} : ∀ {xs : List V} {us : List Value}, Vals xs us → xs.all flatV = true → us.any (eqU x) = xs.any fun y => eqV y x
  | _, _, .nil, _ => rfl
  | y :: xs, u :: us, .cons r t, f => by
    rw [List.all_cons, Bool.and_eq_true] at f
    rw [List.any_cons, List.any_cons, eqU_of r f.1, any_eqU t f.2]
theorem mem_eqAt {A : Around} {s : Shared} {x : V} {v : Value} (rx : RelV x v) (fx : flatV x = true) : ∀ {xs : List V} {us : List Value}, Vals xs us → xs.all flatV = true → ∀ u ∈ us, SeqAt.EqAt A s u v (eqU x u)
  | _, _, .nil, _ => fun u hu => by cases hu
  | y :: xs, u :: us, .cons r t, f => fun u' hu => by
    rw [List.all_cons, Bool.and_eq_true] at f
    rcases List.mem_cons.mp hu with rfl | hu
    · rw [eqU_of r f.1]; exact eqAt_V r rx f.1 fx
    · exact mem_eqAt rx fx t f.2 u' hu
def inV (x : V) (xs : List V) : Bool := xs.any fun y => eqV y x
def rIn (K : PySem.W.Frag) (neg : Bool) : R2 := fun x y H Q => ∃ p xs, y = .ref p ∧ (SqL K H p xs ∨ SqT K H p xs) ∧ flatV x = true ∧ xs.all flatV = true ∧ Q (.bl (if neg then !inV x xs else inV x xs)) H
theorem op_in_seq : OpR X (compareOp .In) (rIn X.K false) := by
  intro pins s σ H x y v u Q I rx ry h
  obtain ⟨p, xs, rfl, hq, fx, fs, q⟩ := h
  cases ry
  rcases hq with hq | hq
  · obtain ⟨its, r, pl, hz⟩ := I.list hq
    refine SeqAt.in_listAt (eqU x) pl.isList (fun w hw => mem_eqAt rx fx r fs w (by simpa using hw)) ⟨.bl _, H, I, rfl, ?_⟩
    rw [show its.toArray.any (eqU x) = its.any (eqU x) by simp, any_eqU r fs]
    exact q
  · obtain ⟨its, r, pl, hz⟩ := I.tuple hq
    refine SeqAt.in_tupleAt (eqU x) pl (fun w hw => mem_eqAt rx fx r fs w (by simpa using hw)) ⟨.bl _, H, I, rfl, ?_⟩
    rw [show its.toArray.any (eqU x) = its.any (eqU x) by simp, any_eqU r fs]
    exact q
theorem op_notIn_seq : OpR X (compareOp .NotIn) (rIn X.K true) := by
  intro pins s σ H x y v u Q I rx ry h
  obtain ⟨p, xs, rfl, hq, fx, fs, q⟩ := h
  cases ry
  rcases hq with hq | hq
  · obtain ⟨its, r, pl, hz⟩ := I.list hq
    refine SeqAt.notIn_listAt (eqU x) pl.isList (fun w hw => mem_eqAt rx fx r fs w (by simpa using hw)) ⟨.bl _, H, I, rfl, ?_⟩
    rw [show its.toArray.any (eqU x) = its.any (eqU x) by simp, any_eqU r fs]
    exact q
  · obtain ⟨its, r, pl, hz⟩ := I.tuple hq
    refine SeqAt.notIn_tupleAt (eqU x) pl (fun w hw => mem_eqAt rx fx r fs w (by simpa using hw)) ⟨.bl _, H, I, rfl, ?_⟩
    rw [show its.toArray.any (eqU x) = its.any (eqU x) by simp, any_eqU r fs]
    exact q
theorem call_len_seq : CallR X (.builtin "len") (fun xs H Q => ∃ p ys, xs = [.ref p] ∧ (SqL X.K H p ys ∨ SqT X.K H p ys) ∧ Q (.int ys.length) H) := by
  intro pins s σ H xs us Q I r h
  obtain ⟨p, ys, rfl, hq, q⟩ := h
  obtain ⟨u, rfl, rx⟩ := vals1 r
  cases rx
  have hn := line63
  rcases hq with hq | hq
  · obtain ⟨its, r', pl, hz⟩ := I.list hq
    have hlen := r'.length
    exact Calls.call_len_list pl.isList (by simp only [List.size_toArray] <;> omega) ⟨.int ys.length, H, I.tok _, ⟨s.toks + 1, by rw [List.size_toArray, hlen]⟩, q⟩
  · obtain ⟨its, r', pl, hz⟩ := I.tuple hq
    have hlen := r'.length
    exact len_tuple pl (by simp only [List.size_toArray] <;> omega) ⟨.int ys.length, H, I.tok _, ⟨s.toks + 1, by rw [List.size_toArray, hlen]⟩, q⟩
theorem call_len_str : CallR X (.builtin "len") (fun xs H Q => ∃ z, xs = [.str z] ∧ z.length ≤ sizeLine ∧ Q (.int z.length) H) := by
  intro pins s σ H xs us Q I r h
  obtain ⟨z, rfl, hz, q⟩ := h
  obtain ⟨u, rfl, t, rfl⟩ := vals1 r
  have hn := line63
  exact len_str (by omega) ⟨.int z.length, H, I.tok _, ⟨_, rfl⟩, q⟩
theorem call_tuple_of : CallR X (.type "tuple") (fun xs H Q => ∃ p ys, xs = [.ref p] ∧ ((SqL X.K H p ys ∧ ∀ l, H l = none → Q (.ref l) (upd H l (.tup ys))) ∨ (SqT X.K H p ys ∧ Q (.ref p) H))) := by
  intro pins s σ H xs us Q I r h
  obtain ⟨p, ys, rfl, h⟩ := h
  obtain ⟨u, rfl, rx⟩ := vals1 r
  cases rx
  rcases h with ⟨hq, q⟩ | ⟨hq, q⟩
  · obtain ⟨its, r', pl, hz⟩ := I.list hq
    have hlen := r'.length
    refine call_tuple_list pl.isList (fun h' kp => ?_) (by simp only [List.size_toArray] <;> omega)
    have I1 : Inv X pins σ H { s with heap := h' } := I.kept (t' := s.toks) kp
    have I2 : Inv X pins σ (upd H h'.objs.size (.tup ys)) { s with heap := h'.push { cls := .type "tuple", data := .seq its.toArray } } :=
      I1.laid (t' := s.toks) (fun b o e => Heap.get?_push_of_some _ e) (Nat.le_refl _) (show ObjOk X.prog X.w _ _ _ (.tup ys) from ⟨hz, its, r', IsTup.new _ _⟩)
    exact ⟨.ref h'.objs.size, _, I2, rfl, q _ (I1.hok.fresh (Nat.le_refl _))⟩
  · obtain ⟨its, r', pl, hz⟩ := I.tuple hq
    exact call_tuple_same pl ⟨.ref p, H, I, rfl, q⟩
def tyV (K : PySem.W.Frag) (T : String) (x : V) (H : Hp) : Prop := match x with
  | .str _ => T = "str"
  | .int _ => T = "int"
  | .ref p => (T = "list" ∧ ∃ xs, SqL K H p xs) ∨ (T = "tuple" ∧ ∃ o, K.lookup p = some o ∧ o.cls = .type "tuple" ∧ o.dict = none) ∨
      (T = "dict" ∧ ((∃ kvs, H p = some (.dK kvs)) ∨ ∃ kvs, H p = some (.dT kvs))) ∨ (T = "set" ∧ ∃ S n, H p = some (.set S n))
  | _ => False
theorem tyV_is {pins : List (Addr × Obj)} {σ : St} {H : Hp} {s : Shared} {T : String} {x : V} {v : Value} (I : Inv X pins σ H s) (r : RelV x v) (ty : tyV X.K T x H) :
    s.TypeIs v T ∧ ∀ a, v = .ref a → ∃ ob, s.heap.get? a = some ob ∧ ob.dict = none := by
  cases x with
  | str z =>
    obtain ⟨t, rfl⟩ := r
    cases (show T = "str" from ty)
    exact ⟨typeIs_str s z t, fun _ e => nomatch e⟩
  | int i =>
    obtain ⟨t, rfl⟩ := r
    cases (show T = "int" from ty)
    exact ⟨typeIs_int s i t, fun _ e => nomatch e⟩
  | ref p =>
    cases r
    rcases ty with ⟨rfl, xs, hq⟩ | ⟨rfl, o, hk, hc, hd⟩ | ⟨rfl, hk⟩ | ⟨rfl, S, n, hk⟩
    · obtain ⟨its, _, pl, _⟩ := I.list hq
      refine ⟨pl.isList.typeIs, fun a e => ?_⟩
      cases e
      obtain ⟨o, n, e, c, hd, _⟩ := pl
      exact ⟨o, e, hd⟩
    · refine ⟨⟨o, I.kIn p o hk, hc⟩, fun a e => ?_⟩
      cases e
      exact ⟨o, I.kIn _ o hk, hd⟩
    · have z : ∃ o, s.heap.get? p = some o ∧ o.ExactDict := by
        rcases hk with ⟨kvs, hk⟩ | ⟨kvs, hk⟩
        · obtain ⟨_, _, _, _, o, _, _, e, ex, _⟩ := I.hok p _ hk
          exact ⟨o, e, ex⟩
        · obtain ⟨_, _, _, _, o, _, _, e, ex, _⟩ := I.hok p _ hk
          exact ⟨o, e, ex⟩
      obtain ⟨o, e, ex⟩ := z
      refine ⟨⟨o, e, ex.1⟩, fun a e2 => ?_⟩
      cases e2
      exact ⟨o, e, ex.2.1⟩
    · obtain ⟨o, _, _, _, e, ex, _⟩ := I.hok p _ hk
      refine ⟨⟨o, e, ex.1⟩, fun a e2 => ?_⟩
      cases e2
      exact ⟨o, e, ex.2.1⟩
  | _ => exact False.elim ty
def tBM0 (K : PySem.W.Frag) (T : String) (r : V → List V → Hp → VK → Prop) (to : TE) : TE := fun σ H Q => to σ H fun x H1 => tyV K T x H1 ∧ r x [] H1 Q
def tBM (K : PySem.W.Frag) (T : String) (r : V → List V → Hp → VK → Prop) (to : TE) (t : TA) : TE := fun σ H Q => to σ H fun x H1 => tyV K T x H1 ∧ t σ H1 fun xs H2 => r x xs H2 Q
variable {o e : Expr} {es : List Expr} {to : TE} {t : TA} {name : Str} {apos cpos : Pos} {T id : String} {r : V → List V → Hp → VK → Prop}
theorem pe_bm0 (pa : PlainAttrs T) (slot : Slot T name id) (hty : typeOf (.builtin id) = pure (.type "method_descriptor")) (hm : MtR X id r) (ho : PE X o to)
    (hbase : attributeBase o name X.env (eval o X.env) = eval o X.env := by rfl) (hline : (apos.endLine == cpos.line) = true := by rfl) : PE X (.Call (.Attribute o name apos) [] [] cpos) (tBM0 X.K T r to) := by
  intro pins s σ H Q I h
  refine wpAny_Call_method0_late hbase hline (thn (ho pins s σ H _ I h) fun v s1 ⟨x, H1, I1, r1, ty, q1⟩ => ?_)
  obtain ⟨h1, h2⟩ := tyV_is I1 r1 ty
  exact ⟨T, id, pa, slot, hty, h1, h2, Calls.callWith_builtin rfl (PySem.evalArgs_none (hm pins s1 σ H1 x [] v [] Q I1 r1 .nil q1))⟩
theorem pe_bm (pa : PlainAttrs T) (slot : Slot T name id) (hty : typeOf (.builtin id) = pure (.type "method_descriptor")) (hm : MtR X id r) (ho : PE X o to) (ha : PA X (e :: es) t)
    (hbase : attributeBase o name X.env (eval o X.env) = eval o X.env := by rfl)
    (hfew : ((backTo cpos (starEach (e :: es) X.env)).all (fun x => !x.1) && (backToKw cpos (keywordEach [] X.env)).all (fun x => x.1.isSome)
      && decide ((e :: es).length + ([] : List Keyword).length + (if ([] : List Keyword).isEmpty then 0 else 1) < 30)) = true := by rfl)
    (hline : (apos.endLine == cpos.line) = true := by rfl) (hs : starEach (e :: es) X.env = (false, eval e X.env) :: starEach es X.env := by rfl) (hplain : (backTo cpos (starEach es X.env)).any (·.1) = false := by rfl) :
    PE X (.Call (.Attribute o name apos) (e :: es) [] cpos) (tBM X.K T r to t) := by
  intro pins s σ H Q I h
  refine wpAny_Call_method_late hbase hfew hline rfl (thn (ho pins s σ H _ I h) fun v s1 ⟨x, H1, I1, r1, ty, q1⟩ => ?_)
  obtain ⟨h1, h2⟩ := tyV_is I1 r1 ty
  refine ⟨T, id, pa, slot, hty, h1, h2, ?_⟩
  have hA := ha cpos pins s1 σ H1 _ I1 q1
  rw [hs] at hA ⊢
  refine Calls.callWith_builtin (by show (false || (backTo cpos (starEach es X.env)).any (·.1)) = false; rw [hplain] <;> rfl) (Calls.evalArgs_plain ?_)
  exact thn hA fun us s2 ⟨vs, H2, I2, r2, q2⟩ => hm pins s2 σ H2 x vs v us Q I2 r1 r2 q2
end
end L2
namespace L2
open PySem PySem.Spec PyProof.Rows
def MtM (X : Cx) (id : String) (r : V → List V → Hp → VK → Prop) : Prop :=
  ∀ (pins : List (Addr × Obj)) (s : Shared) (σ : St) (H : Hp) (x : V) (xs : List V) (v : Value) (us : List Value) (Q : VK), Inv X pins σ H s → RelV x v → Vals xs us → r x xs H Q →
    wpAny (model X.prog X.w) X.A (call (.builtin id) (v :: us)) (EP X pins σ Q) X.xe s
theorem Vals.one : ∀ {x : V} {us : List Value}, Vals [x] us → ∃ u, us = [u] ∧ RelV x u
  | _, _, .cons r .nil => ⟨_, rfl, r⟩
section
variable {X : Cx} {pins : List (Addr × Obj)} {σ : St} {H : Hp} {s : Shared} {l b : Addr} {xs ys zs : List V}
theorem Inv.lset {its its' : List Value} {n : Nat} {f : Array Value → Array Value} {t' : Nat} (I : Inv X pins σ H s) (hH : H l = some (.lst xs))
    (e : s.heap.get? l = some { cls := .type "list", data := .seq its.toArray n }) (hf : f its.toArray = its'.toArray) (hv : Vals ys its') (hz : ys.length ≤ sizeLine) :
    Inv X pins σ (upd H l (.lst ys)) { s with heap := s.heap.update l (Obj.mapSeq f), toks := t' } := by
  have q := PySem.IsL.update e f
  rw [hf] at q
  refine I.write (x := l) (e := l) (by rw [hH]; exact trivial) (.inl rfl) (fun b' u hb hu => (Heap.get?_update_other s.heap (Obj.mapSeq f) (Ne.symm hb)).trans hu) ⟨_, q⟩ ?_
  exact ⟨hz, its', _, hv, q⟩
theorem Inv.lnew {its : List Value} {t' : Nat} (I : Inv X pins σ H s) (hv : Vals ys its) (hz : ys.length ≤ sizeLine) :
    Inv X pins σ (upd H s.heap.objs.size (.lst ys)) { s with heap := s.heap.push { cls := .type "list", data := .seq its.toArray }, toks := t' } :=
  I.laid (fun _ _ q => Heap.get?_push_of_some _ q) (Nat.le_refl _) ⟨hz, its, 0, hv, Heap.get?_push_size _ rfl⟩
theorem Inv.fresh (I : Inv X pins σ H s) : H s.heap.objs.size = none := I.hok.fresh (Nat.le_refl _)
theorem Inv.lstM (I : Inv X pins σ H s) (hH : H l = some (.lst xs)) : xs.length ≤ sizeLine ∧ ∃ (its : List Value) (n : Nat), Vals xs its ∧ xs.length = its.length ∧ s.heap.get? l = some { cls := .type "list", data := .seq its.toArray n } := by
  obtain ⟨z, its, n, r, e⟩ := I.hok l _ hH
  exact ⟨z, its, n, r, r.length, e⟩
theorem notLongL {n : Nat} (h : n ≤ sizeLine) : Builtin.List.listTooLong n = false := by
  unfold Builtin.List.listTooLong
  exact decide_eq_false (by omega)
end
section
variable {X : Cx}
def rAppend : V → List V → Hp → VK → Prop := fun x vs H Q => ∃ l xs y, x = .ref l ∧ vs = [y] ∧ H l = some (.lst xs) ∧ xs.length < sizeLine ∧ Q .non (upd H l (.lst (xs ++ [y])))
theorem mt_append : MtM X "list.append" rAppend := by
  intro pins s σ H x vs v us Q I rx rv h
  obtain ⟨l, xs, y, rfl, rfl, hH, hz, q⟩ := h
  cases rx
  obtain ⟨u, rfl, ru⟩ := rv.one
  obtain ⟨z, its, n, r, hl, e⟩ := I.lstM hH
  refine call_meets F.slot_list_append ⟨_, e, rfl⟩ F.entry_list_append (F.args_list_append_2 _ _) (PySem.list_append l its.toArray n u (by rw [List.size_toArray]; omega)) ⟨e, ?_⟩
  refine ⟨.non, _, I.lset (its' := its ++ [u]) hH e (by simp) (r.append (.cons ru .nil)) ?_, rfl, q⟩
  rw [List.length_append, List.length_singleton]
  omega
def rExtend : V → List V → Hp → VK → Prop := fun x vs H Q => ∃ l b xs zs, x = .ref l ∧ vs = [.ref b] ∧ H l = some (.lst xs) ∧ H b = some (.lst zs) ∧ xs.length + zs.length ≤ sizeLine ∧ Q .non (upd H l (.lst (xs ++ zs)))
theorem mt_extend : MtM X "list.extend" rExtend := by
  intro pins s σ H x vs v us Q I rx rv h
  obtain ⟨l, b, xs, zs, rfl, rfl, hH, hB, hz, q⟩ := h
  cases rx
  obtain ⟨u, rfl, ru⟩ := rv.one
  cases ru
  obtain ⟨z, its, n, r, hl, e⟩ := I.lstM hH
  obtain ⟨z2, its2, n2, r2, hl2, e2⟩ := I.lstM hB
  have hsz : its.toArray.size + its2.toArray.size ≤ sizeLine := by rw [List.size_toArray, List.size_toArray]; omega
  have hlong : ¬ (!its.toArray.isEmpty && Builtin.List.listTooLong (its.toArray.size + its2.toArray.size)) = true := by
    rw [notLongL hsz, Bool.and_false]
    exact Bool.false_ne_true
  refine call_meets F.slot_list_extend ⟨_, e, rfl⟩ F.entry_list_extend (F.args_list_extend_2 _ _)
    (AutoSeq1.list_extend_list_list_0 l its.toArray n b its2.toArray n2 hlong (by rw [List.size_toArray]; omega) (by omega)) ⟨e, e2, ?_⟩
  refine ⟨.non, _, I.lset (its' := its ++ its2) hH e (by simp) (r.append r2) ?_, rfl, q⟩
  rw [List.length_append]
  omega
def rCat : R2 := fun x y H Q => ∃ l b xs zs, x = .ref l ∧ y = .ref b ∧ H l = some (.lst xs) ∧ H b = some (.lst zs) ∧ xs.length + zs.length ≤ sizeLine ∧ ∀ p, H p = none → Q (.ref p) (upd H p (.lst (xs ++ zs)))
theorem op_cat : OpR X (binaryOp .Add) rCat := by
  intro pins s σ H x y v u Q I rx ry h
  obtain ⟨l, b, xs, zs, rfl, rfl, hH, hB, hz, q⟩ := h
  cases rx
  cases ry
  obtain ⟨z, its, n, r, hl, e⟩ := I.lstM hH
  obtain ⟨z2, its2, n2, r2, hl2, e2⟩ := I.lstM hB
  refine PySem.P.add_list e e2 ?_ (by rw [List.size_toArray, List.size_toArray]; omega)
  have ea : its.toArray ++ its2.toArray = (its ++ its2).toArray := by simp
  rw [ea]
  exact ⟨.ref _, _, I.lnew (t' := s.toks) (r.append r2) (by rw [List.length_append]; omega), rfl, q _ I.fresh⟩
end
section
variable {prog : Program} {w : World} {A : Around} {E : Value → Shared → Prop} {s : Shared}
end
section
variable {X : Cx}
end
end L2
namespace L2
open PySem PySem.Spec PyProof.Rows
section
variable {κ : Type} [DecidableEq κ]
def valV (kvs : List (κ × V)) (k : κ) : Option V := (kvs.find? fun kv => decide (kv.1 = k)).map (·.2)
def putK (kvs : List (κ × V)) (k : κ) (v : V) : List (κ × V) :=
  if (kvs.any fun kv => decide (kv.1 = k)) = true then kvs.map (fun kv => if kv.1 = k then (kv.1, v) else kv) else kvs ++ [(k, v)]
theorem valV_pos {p : κ × V} {r : List (κ × V)} {k : κ} (e : p.1 = k) : valV (p :: r) k = some p.2 := by simp [valV, List.find?_cons, e]
theorem valV_neg {p : κ × V} {r : List (κ × V)} {k : κ} (e : ¬ p.1 = k) : valV (p :: r) k = valV r k := by simp [valV, List.find?_cons, e]
theorem valV_any (k : κ) : ∀ kvs : List (κ × V), (kvs.any fun kv => decide (kv.1 = k)) = (valV kvs k).isSome
  | [] => rfl
  | p :: r => by
    rw [List.any_cons]
    by_cases e : p.1 = k
    · simp only [valV_pos e, decide_eq_true e, Bool.true_or, Option.isSome_some]
    · rw [valV_neg e, decide_eq_false e, Bool.false_or]; exact valV_any k r
theorem valV_map (k j : κ) (y : V) : ∀ kvs : List (κ × V), valV (kvs.map fun kv => if kv.1 = k then (kv.1, y) else kv) j = (valV kvs j).map fun x => if j = k then y else x
  | [] => rfl
  | p :: r => by
    have ih := valV_map k j y r
    rw [List.map_cons]
    by_cases h : p.1 = k
    · rw [if_pos h]
      by_cases e : p.1 = j
      · rw [valV_pos (p := (p.1, y)) e, valV_pos e, Option.map_some, if_pos (e.symm.trans h)]
      · rw [valV_neg (p := (p.1, y)) e, valV_neg e, ih]
    · rw [if_neg h]
      by_cases e : p.1 = j
      · rw [valV_pos (p := p) e, valV_pos e, Option.map_some, if_neg (fun z => h (e.trans z))]
      · rw [valV_neg (p := p) e, valV_neg e, ih]
theorem valV_snoc (k j : κ) (y : V) : ∀ kvs : List (κ × V), valV kvs k = none → valV (kvs ++ [(k, y)]) j = if j = k then some y else valV kvs j
  | [], _ => by
    by_cases e : k = j
    · rw [if_pos e.symm]; exact valV_pos (p := (k, y)) e
    · rw [if_neg (fun z => e z.symm)]; exact valV_neg (p := (k, y)) e
  | p :: r, hn => by
    rw [List.cons_append]
    have hk : ¬ p.1 = k := fun z => by rw [valV_pos z] at hn; cases hn
    rw [valV_neg hk] at hn
    have ih := valV_snoc k j y r hn
    by_cases e : p.1 = j
    · rw [valV_pos e, valV_pos e, if_neg (fun z => hk (e.trans z))]
    · rw [valV_neg e, valV_neg e, ih]
theorem valV_put (kvs : List (κ × V)) (k j : κ) (y : V) : valV (putK kvs k y) j = if j = k then some y else valV kvs j := by
  unfold putK
  by_cases a : (kvs.any fun kv => decide (kv.1 = k)) = true
  · rw [if_pos a, valV_map]
    rw [valV_any] at a
    by_cases e : j = k
    · obtain ⟨x, hx⟩ := Option.isSome_iff_exists.mp a
      rw [if_pos e, e, hx, Option.map_some, if_pos rfl]
    · rw [if_neg e]
      cases valV kvs j with
      | none => rfl
      | some x => rw [Option.map_some, if_neg e]
  · rw [if_neg a]
    refine valV_snoc k j y kvs ?_
    rw [valV_any] at a
    cases q : valV kvs k with
    | none => rfl
    | some x => rw [q] at a; exact (a rfl).elim
theorem length_putK (kvs : List (κ × V)) (k : κ) (v : V) : (putK kvs k v).length ≤ kvs.length + 1 := by
  unfold putK
  split
  · rw [List.length_map]; omega
  · rw [List.length_append, List.length_cons, List.length_nil]; omega
theorem RelO.isSome_eq {o : Option V} {u : Option Value} (r : RelO o u) : o.isSome = u.isSome := by
  cases o with
  | none => cases u with
    | none => rfl
    | some _ => exact (show False from r).elim
  | some _ => cases u with
    | none => exact (show False from r).elim
    | some _ => rfl
theorem RelO.getD {o : Option V} {u : Option Value} {d : V} {d' : Value} (r : RelO o u) (rd : RelV d d') : RelV (o.getD d) (u.getD d') := by
  cases o with
  | none => cases u with
    | none => exact rd
    | some _ => exact (show False from r).elim
  | some _ => cases u with
    | none => exact (show False from r).elim
    | some _ => exact r
theorem KV.val {kvs : List (κ × V)} {vs : List (κ × Value)} (r : KV kvs vs) (k : κ) : RelO (valV kvs k) (valueAt vs k) := by
  unfold KV at r
  induction r with
  | nil => exact True.intro
  | @cons p q ps qs h t ih =>
    obtain ⟨h1, h2⟩ := h
    by_cases e : p.1 = k
    · have e' : q.1 = k := h1.symm.trans e
      have b : valueAt (q :: qs) k = some q.2 := by simp [valueAt, List.find?_cons, e']
      rw [valV_pos e, b]; exact h2
    · have e' : ¬ q.1 = k := fun z => e (h1.trans z)
      have b : valueAt (q :: qs) k = valueAt qs k := by simp [valueAt, List.find?_cons, e']
      rw [valV_neg e, b]; exact ih
theorem KV.any {kvs : List (κ × V)} {vs : List (κ × Value)} (r : KV kvs vs) (k : κ) : (kvs.any fun kv => decide (kv.1 = k)) = vs.any fun kv => decide (kv.1 = k) := by
  unfold KV at r
  induction r with
  | nil => rfl
  | cons h t ih => rw [List.any_cons, List.any_cons, ih, h.1]
theorem KV.repl {kvs : List (κ × V)} {vs : List (κ × Value)} (r : KV kvs vs) (k : κ) {y : V} {u : Value} (ry : RelV y u) :
    KV (kvs.map fun kv => if kv.1 = k then (kv.1, y) else kv) (vs.map fun kv => if kv.1 = k then (kv.1, u) else kv) := by
  unfold KV at r ⊢
  induction r with
  | nil => exact .nil
  | @cons p q ps qs h t ih =>
    rw [List.map_cons, List.map_cons]
    refine .cons ?_ ih
    obtain ⟨h1, h2⟩ := h
    by_cases e : p.1 = k
    · rw [if_pos e, if_pos (h1.symm.trans e)]; exact ⟨h1, ry⟩
    · rw [if_neg e, if_neg (fun z => e (h1.trans z))]; exact ⟨h1, h2⟩
theorem KV.put {kvs : List (κ × V)} {vs : List (κ × Value)} (r : KV kvs vs) (k : κ) {y : V} {u : Value} (ry : RelV y u) : KV (putK kvs k y) (stored vs k u) := by
  unfold putK stored
  rw [r.any k]
  by_cases e : (vs.any fun kv => decide (kv.1 = k)) = true
  · rw [if_pos e, if_pos e]; exact r.repl k ry
  · rw [if_neg e, if_neg e]; exact Paired.snoc r ⟨rfl, ry⟩
theorem KV.length {kvs : List (κ × V)} {vs : List (κ × Value)} (r : KV kvs vs) : kvs.length = vs.length := Paired.length r
end
theorem kV_is {P : Program} {w : World} {k : Key} {u : Value} (r : RelV (kV k) u) : (mixKind P w).is k u = true := by
  cases k with
  | inl i => obtain ⟨t, e⟩ := (show ∃ t, u = Value.int i t from r); subst e; exact mixKind_int P w i t
  | inr x => obtain ⟨t, e⟩ := (show ∃ t, u = Value.str x t from r); subst e; exact mixKind_str P w x t
theorem items_are {P : Program} {w : World} : ∀ {ks : List Key} {us : List Value}, Vals (ks.map kV) us → ItemsAre (mixKind P w) ks us
  | [], _, r => by rw [List.map_nil] at r; cases r; exact .nil
  | k :: ks, _, r => by
    rw [List.map_cons] at r
    cases r with
    | cons h t => exact .cons (kV_is h) (items_are t)
abbrev KT (H : Hp) : List (List Key × V) → List (List Key × Addr × Value) → Prop := Paired fun p q => p.1 = q.1 ∧ H q.2.1 = some (.tup (p.1.map kV)) ∧ RelV p.2 q.2.2
theorem KT.val {H : Hp} {kvs : List (List Key × V)} {xs : List (List Key × Addr × Value)} (r : KT H kvs xs) (k : List Key) : RelO (valV kvs k) ((atKey xs k).map (·.2)) := by
  induction r with
  | nil => exact True.intro
  | @cons p q ps qs h t ih =>
    obtain ⟨h1, _, h2⟩ := h
    by_cases e : p.1 = k
    · have e' : q.1 = k := h1.symm.trans e
      have b : atKey (q :: qs) k = some q.2 := by simp [atKey, List.find?_cons, e']
      rw [valV_pos e, b]; exact h2
    · have e' : ¬ q.1 = k := fun z => e (h1.trans z)
      have b : atKey (q :: qs) k = atKey qs k := by simp [atKey, List.find?_cons, e']
      rw [valV_neg e, b]; exact ih
theorem KT.repl {H : Hp} {kvs : List (List Key × V)} {xs : List (List Key × Addr × Value)} (r : KT H kvs xs) (k : List Key) {y : V} {u : Value} (ry : RelV y u) :
    KT H (kvs.map fun kv => if kv.1 = k then (kv.1, y) else kv) (xs.map (putAt k u)) := by
  induction r with
  | nil => exact .nil
  | @cons p q ps qs h t ih =>
    rw [List.map_cons, List.map_cons]
    refine .cons ?_ ih
    obtain ⟨h1, h2, h3⟩ := h
    unfold putAt
    by_cases e : p.1 = k
    · rw [if_pos e, if_pos (h1.symm.trans e)]; exact ⟨h1, h2, ry⟩
    · rw [if_neg e, if_neg (fun z => e (h1.trans z))]; exact ⟨h1, h2, h3⟩
theorem KT.put {H : Hp} {kvs : List (List Key × V)} {xs : List (List Key × Addr × Value)} (r : KT H kvs xs) (k : List Key) {b : Addr} {y : V} {u : Value} (hb : H b = some (.tup (k.map kV))) (ry : RelV y u) :
    KT H (putK kvs k y) (storedH xs k b u) := by
  have e : (kvs.any fun kv => decide (kv.1 = k)) = (atKey xs k).isSome := by
    rw [valV_any, (r.val k).isSome_eq, Option.isSome_map]
  unfold putK storedH
  rw [e]
  by_cases q : (atKey xs k).isSome = true
  · rw [if_pos q, if_pos q]; exact r.repl k ry
  · rw [if_neg q, if_neg q]; exact Paired.snoc r ⟨rfl, hb, ry⟩
theorem KT.keeps {H H' : Hp} {kvs : List (List Key × V)} {xs : List (List Key × Addr × Value)} (r : KT H kvs xs) (ht : ∀ b ys, H b = some (.tup ys) → H' b = some (.tup ys)) : KT H' kvs xs :=
  Paired.mapP r fun _ _ z => ⟨z.1, ht _ _ z.2.1, z.2.2⟩
section
variable {P : Program} {w : World} {H : Hp} {h : Heap} {a : Addr}
theorem rd_of {u : HO} (ok : HOk P w H h) (e : Rd H a u) : ObjOk P w H h a u := e.ok ok
theorem dk_rd {kvs : List (Key × V)} (ok : HOk P w H h) (e : Rd H a (.dK kvs)) : kvs.length ≤ sizeLine ∧ (a == sysModules) = false ∧ ∃ vs, KV kvs vs ∧ h.DictOf (mixKind P w) a vs :=
  show ObjOk P w H h a (.dK kvs) from rd_of ok e
theorem dk_of {kvs : List (Key × V)} (ok : HOk P w H h) (e : H a = some (.dK kvs)) : kvs.length ≤ sizeLine ∧ (a == sysModules) = false ∧ ∃ vs, KV kvs vs ∧ h.DictOf (mixKind P w) a vs := dk_rd ok (.inl e)
theorem key_of {ks : List Key} (ok : HOk P w H h) (e : H a = some (.tup (ks.map kV))) : (tupleKind (mixKind P w)).is h ks a := by
  obtain ⟨_, its, r, o, h1, h2, n, h3⟩ := (show ObjOk P w H h a (.tup (ks.map kV)) from ok a _ e)
  exact ⟨o, its.toArray, n, h1, h2, h3, by simpa using items_are r⟩
theorem dt_rd {kvs : List (List Key × V)} (ok : HOk P w H h) (e : Rd H a (.dT kvs)) : kvs.length ≤ sizeLine ∧ (a == sysModules) = false ∧
    ∃ xs, KT H kvs xs ∧ h.DictOfH (tupleKind (mixKind P w)) a xs := by
  obtain ⟨z, y, xs, r, o, es, ep, h1, h2, h3, h4, h5⟩ := (show ObjOk P w H h a (.dT kvs) from rd_of ok e)
  refine ⟨z, y, xs, r, o, es, ep, h1, h2, h3, h4, fun x hx => ?_, h5⟩
  have all : ∀ {l : List (List Key × V)} {m : List (List Key × Addr × Value)}, KT H l m → ∀ x ∈ m, (tupleKind (mixKind P w)).is h x.1 x.2.1 := by
    intro l m q
    induction q with
    | nil => intro x hx; exact nomatch hx
    | @cons p q ps qs hq t ih =>
      intro x hx
      rcases List.mem_cons.mp hx with e | hx
      · subst e
        exact key_of ok (by rw [← hq.1]; exact hq.2.1)
      · exact ih x hx
  exact all r x hx
theorem dt_of {kvs : List (List Key × V)} (ok : HOk P w H h) (e : H a = some (.dT kvs)) : kvs.length ≤ sizeLine ∧ (a == sysModules) = false ∧
    ∃ xs, KT H kvs xs ∧ h.DictOfH (tupleKind (mixKind P w)) a xs := dt_rd ok (.inl e)
end
def DGet (H : Hp) (a : Addr) (y : V) (r : Option V) : Prop :=
  (∃ kvs k, Rd H a (.dK kvs) ∧ y = kV k ∧ r = valV kvs k) ∨ ∃ kvs k b, Rd H a (.dT kvs) ∧ y = .ref b ∧ H b = some (.tup (k.map kV)) ∧ r = valV kvs k
def DPut (H : Hp) (a : Addr) (y v : V) (H' : Hp) : Prop :=
  (∃ kvs k, H a = some (.dK kvs) ∧ y = kV k ∧ kvs.length < sizeLine ∧ H' = upd H a (.dK (putK kvs k v))) ∨
  ∃ kvs k b, H a = some (.dT kvs) ∧ y = .ref b ∧ H b = some (.tup (k.map kV)) ∧ kvs.length < sizeLine ∧ H' = upd H a (.dT (putK kvs k v))
theorem DGet.k {H : Hp} {a : Addr} {kvs : List (Key × V)} {k : Key} (e : H a = some (.dK kvs)) : DGet H a (kV k) (valV kvs k) := .inl ⟨kvs, k, .inl e, rfl, rfl⟩
theorem DPut.k {H : Hp} {a : Addr} {kvs : List (Key × V)} {k : Key} {v : V} (e : H a = some (.dK kvs)) (hl : kvs.length < sizeLine) : DPut H a (kV k) v (upd H a (.dK (putK kvs k v))) := .inl ⟨kvs, k, e, rfl, hl, rfl⟩
section
variable {X : Cx} {pins : List (Addr × Obj)} {σ : St} {H : Hp} {s : Shared} {a : Addr} {y v : V} {u r : Value} {o : Option V} {A : Around} {E : Value → Shared → Prop}
theorem Inv.big (I : Inv X pins σ H s) : sysModules < s.heap.objs.size := by
  have h : mainGlobals < s.heap.objs.size := (I.mod.glob.keeps I.bk).lt
  exact Nat.lt_trans (by decide) h
theorem d_getItem {Q : Value → Shared → Prop} (hu : A.units + 1 < cLine) (I : Inv X pins σ H s) (g : DGet H a y (some v)) (ry : RelV y u) (h : ∀ w' s', Inv X pins σ H s' → RelV v w' → Q w' s') :
    wpAny (model X.prog X.w) A (getItem (.ref a) u) Q E s := by
  rcases g with ⟨kvs, k, e, ey, l⟩ | ⟨kvs, k, b, e, ey, eb, l⟩
  · subst ey
    obtain ⟨z, hd, vs, rel, dd⟩ := dk_rd I.hok e
    obtain ⟨w', hw, rw'⟩ := RelO.some_of (v := v) (o := valueAt vs k) (by rw [l]; exact rel.val k)
    exact wpAny_getItem_of (kV_is ry) dd.mapOf hw (h w' _ (I.tok _) rw')
  · subst ey
    cases (show u = Value.ref b from ry)
    obtain ⟨z, hd, xs, rel, dd⟩ := dt_rd I.hok e
    obtain ⟨w', hw, rw'⟩ := RelO.some_of (v := v) (o := (atKey xs k).map (·.2)) (by rw [l]; exact rel.val k)
    obtain ⟨p, hp, hp2⟩ := Option.map_eq_some_iff.mp hw
    refine wpAny_getItem_heap (tupleKind_room_in1 hu) (key_of I.hok eb) dd hp ?_
    rw [hp2]
    exact h w' _ (I.tok _) rw'
theorem d_in {Q : Value → Shared → Prop} (hu : A.units + 1 < cLine) (I : Inv X pins σ H s) (g : DGet H a y o) (ry : RelV y u) (h : ∀ s', Inv X pins σ H s' → Q (.bool o.isSome) s') :
    wpAny (model X.prog X.w) A (compareOp .In u (.ref a)) Q E s := by
  rcases g with ⟨kvs, k, e, ey, l⟩ | ⟨kvs, k, b, e, ey, eb, l⟩
  · subst ey
    obtain ⟨z, hd, vs, rel, dd⟩ := dk_rd I.hok e
    refine wpAny_in_of (kV_is ry) hd dd.mapOf ?_
    rw [← (rel.val k).isSome_eq, ← l]
    exact h _ (I.tok _)
  · subst ey
    cases (show u = Value.ref b from ry)
    obtain ⟨z, hd, xs, rel, dd⟩ := dt_rd I.hok e
    refine wpAny_in_heap (tupleKind_room_in1 hu) (key_of I.hok eb) hd dd ?_
    have q := (rel.val k).isSome_eq
    rw [Option.isSome_map] at q
    rw [← q, ← l]
    exact h _ (I.tok _)
theorem d_write {h' : Heap} {t' : Nat} {ob : HO} (I : Inv X pins σ H s) (mu : Mut (H a)) (hs : Heap.SameBut a s.heap h') (he : ∃ q, h'.get? a = some q) (new : ObjOk X.prog X.w (upd H a ob) h' a ob) :
    Inv X pins σ (upd H a ob) { s with heap := h', toks := t' } :=
  I.write (x := a) (e := a) mu (.inl rfl) (fun b q hb z => (hs.2 b hb).trans z) he new
theorem dk_new {P : Program} {w : World} {H' : Hp} {h' : Heap} {kvs : List (Key × V)} {vs : List (Key × Value)} (z : kvs.length ≤ sizeLine) (hd : (a == sysModules) = false) (rel : KV kvs vs) (dd : h'.DictOf (mixKind P w) a vs) :
    ObjOk P w H' h' a (.dK kvs) := ⟨z, hd, vs, rel, dd⟩
theorem d_setItem {H' : Hp} {Q : Unit → Shared → Prop} (hu : A.units + 1 < cLine) (I : Inv X pins σ H s) (g : DPut H a y v H') (ry : RelV y u) (rv : RelV v r) (h : ∀ s', Inv X pins σ H' s' → Q () s') :
    wpAny (model X.prog X.w) A (setItem (.ref a) u r) Q E s := by
  rcases g with ⟨kvs, k, e, ey, l, eH⟩ | ⟨kvs, k, b, e, ey, eb, l, eH⟩
  · subst ey eH
    obtain ⟨z, hd, vs, rel, dd⟩ := dk_of I.hok e
    have hz : vs.length ≤ sizeLine := by rw [← rel.length]; exact z
    have hl : (putK kvs k v).length ≤ sizeLine := by have := length_putK kvs k v; omega
    refine wpAny_setItem_pairs (hsz := hz) (kV_is ry) dd fun h' dd' hs => h _ ?_
    have he : ∃ q, h'.get? a = some q := let ⟨q, _, _, hq, _⟩ := dd'; ⟨q, hq⟩
    exact d_write I (by rw [e]; exact True.intro) hs he (dk_new hl hd (rel.put k rv) dd')
  · subst ey eH
    cases (show u = Value.ref b from ry)
    obtain ⟨z, hd, xs, rel, dd⟩ := dt_of I.hok e
    have hz : xs.length ≤ sizeLine := by rw [← Paired.length rel]; exact z
    have hl : (putK kvs k v).length ≤ sizeLine := by have := length_putK kvs k v; omega
    refine wpAny_setItem_heap (hsz := hz) (tupleKind_room_in1 hu) (key_of I.hok eb) dd fun h' dd' hs => h _ ?_
    obtain ⟨q, es, ep, hq, h2, h3, h4, _, h5⟩ := dd'
    refine d_write I (by rw [e]; exact True.intro) hs ⟨q, hq⟩ ⟨hl, hd, _, (rel.put k eb rv).keeps fun c ys ec => ?_, q, es, ep, hq, h2, h3, h4, h5⟩
    rw [upd_ne (ne_of ec e (fun z => nomatch z))]
    exact ec
end
section
variable {X : Cx} {pins : List (Addr × Obj)} {σ : St} {H : Hp} {s : Shared} {a : Addr} {kvs : List (Key × V)} {k : Key} {u : Value} {A : Around} {E : Value → Shared → Prop}
end
def NoSl (i : Expr) : Prop := ∀ ov iv, subscripted i false ov iv = operate [ov, iv] (getItem ov iv)
theorem subD_of {prog : Program} {w : World} {A : Around} {E : Value → Shared → Prop} {s : Shared} {env : Env} {value slice : Expr} {pos : Pos} {T id : String} {Q : Value → Shared → Prop}
    (hl : typeLookup (.type T) "__getitem__" = pure (some (.builtin id))) (hs : NoSl slice)
    (h : wpAny (model prog w) A (eval value env) (fun o s₁ => wpAny (model prog w) A (eval slice env) (fun i s₂ => s₂.TypeIs o T ∧ wpAny (model prog w) A (getItem o i) Q E s₂) E s₁) E s) :
    wpAny (model prog w) A (eval (.Subscript value slice pos) env) Q E s := by
  refine Subscript_ (wpAny_mono h (fun o s₁ h₁ => wpAny_mono h₁ (fun i s₂ h₂ => ?_) fun _ _ x => x) fun _ _ x => x)
  obtain ⟨hT, h₂⟩ := h₂
  unfold subscriptTail
  refine wpAny_bind ?_
  rw [getitemInPython_of_ne hT.not_modules]
  refine wpAny_bind (wpAny_specialOf hT hl ?_)
  have fin : wpAny (model prog w) A (subscripted slice false o i) (fun r s₃ => wpAny (model prog w) A (letTemporaryGo value o r >>= fun _ => pure r) Q E s₃) E s₂ := by
    rw [hs o i]
    exact wpAny_operating (wpAny_mono h₂ (fun r s₃ h₃ => wpAny_bind (wpAny_letTemporaryGo (wpAny_pure h₃))) fun _ _ x => x)
  first
    | exact wpAny_pure (wpAny_bind fin)
    | exact wpAny_bind (wpAny_pure (wpAny_bind fin))
    | exact wpAny_bind fin
theorem dict_typeIs {X : Cx} {pins : List (Addr × Obj)} {σ : St} {H : Hp} {s : Shared} {a : Addr} {y : V} {o : Option V} (I : Inv X pins σ H s) (g : DGet H a y o) : s.TypeIs (.ref a) "dict" := by
  rcases g with ⟨kvs, k, e, _, _⟩ | ⟨kvs, k, b, e, _, _, _⟩
  · obtain ⟨_, _, vs, _, dd⟩ := dk_rd I.hok e
    exact dd.typeIs
  · obtain ⟨_, _, xs, _, dd⟩ := dt_rd I.hok e
    exact dd.typeIs
def tDGet (td ty : TE) : TE := fun σ H Q => td σ H fun x H1 => ty σ H1 fun y H2 => ∃ a v, x = .ref a ∧ DGet H2 a y (some v) ∧ Q v H2
def sDPut (td ty tv : TE) : TS := fun D σ H => tv σ H fun v H1 => td σ H1 fun x H2 => ty σ H2 fun y H3 => ∃ a H4, x = .ref a ∧ DPut H3 a y v H4 ∧ D.nx σ H4
section
variable {X : Cx} {o i e value : Expr} {pos pos' tpos : Pos} {td ty tv : TE}
theorem pe_dget (hu : X.A.units + 1 < cLine) (ho : PE X o td) (hi : PE X i ty) (hs : NoSl i) : PE X (.Subscript o i pos) (tDGet td ty) := by
  intro pins s σ H Q I h
  refine subD_of PySem.F.slot_dict_getitem.lookup hs (thn (ho pins s σ H _ I h) fun u s1 ⟨x, H1, I1, rx, q1⟩ => thn (hi pins s1 σ H1 _ I1 q1) fun iv s2 ⟨y, H2, I2, ry, a, v, ex, g, q2⟩ => ?_)
  subst ex
  obtain rfl : u = Value.ref a := rx
  exact ⟨dict_typeIs I2 g, d_getItem hu I2 g ry fun w' s3 I3 rw' => ⟨v, H2, I3, rw', q2⟩⟩
theorem ps_dput (hu : X.A.units + 1 < cLine) (ho : PE X o td) (hi : PE X i ty) (hv : PE X value tv) (hs : swapsWith value (some (.Subscript o i pos')) pos.line X.env = pure false) :
    PS X (.Assign [.Subscript o i pos'] value pos) (sDPut td ty tv) := by
  intro pins s σ H D I h
  refine wpAny_Assign_Subscript (thn (hv pins s σ H _ I h) fun r s1 ⟨v, H1, I1, rv, q1⟩ => thn (ho pins s1 σ H1 _ I1 q1) fun u s2 ⟨x, H2, I2, rx, q2⟩ => thn (hi pins s2 σ H2 _ I2 q2) fun iv s3 ⟨y, H3, I3, ry, a, H4, ex, g, q3⟩ => ?_) hs
  subst ex
  obtain rfl : u = Value.ref a := rx
  exact d_setItem hu I3 g ry rv fun s4 I4 => ⟨σ, H4, I4, q3⟩
end
theorem dk_empty {P : Program} {w : World} {H : Hp} (h : Heap) (hb : sysModules < h.objs.size) : ObjOk P w H (h.push { cls := .type "dict", data := .dict #[] }) h.objs.size (.dK []) :=
  ⟨Nat.zero_le _, beq_eq_false_iff_ne.mpr (Ne.symm (Nat.ne_of_lt hb)), [], .nil, Heap.DictOf.new h⟩
def tDNewK : TE := fun _ H Q => ∀ p, H p = none → Q (.ref p) (upd H p (.dK []))
section
variable {X : Cx} {pos : Pos}
theorem pe_dnewK : PE X (.Dict [] [] pos) tDNewK := fun pins s σ H Q I h =>
  wpAny_Dict_empty ⟨.ref s.heap.objs.size, _, I.laid (a := s.heap.objs.size) (o := .dK []) (t' := s.toks) (fun _ _ q => Heap.get?_push_of_some _ q) (Nat.le_refl _) (dk_empty s.heap I.big), rfl, h _ (I.hok.fresh (Nat.le_refl _))⟩
end
def tPairs : List (TE × TE) → St → Hp → (List (V × V) → Hp → Prop) → Prop
  | [], _, H, Q => Q [] H
  | (tk, tv) :: r, σ, H, Q => tk σ H fun x H1 => tv σ H1 fun y H2 => tPairs r σ H2 fun ps H3 => Q ((x, y) :: ps) H3
abbrev VV : List (V × V) → List (Value × Value) → Prop := Paired fun p q => RelV p.1 q.1 ∧ RelV p.2 q.2
def PPs (X : Cx) (pos : Pos) (keys : List (Option Expr)) (values : List Expr) (trs : List (TE × TE)) : Prop :=
  ∀ (pins : List (Addr × Obj)) (s : Shared) (σ : St) (H : Hp) (Q : List (V × V) → Hp → Prop), Inv X pins σ H s → tPairs trs σ H Q →
    wpAny (model X.prog X.w) X.A (evalPairs (pairTrees keys values X.env pos)) (fun vs s' => ∃ ps H', Inv X pins σ H' s' ∧ VV ps vs ∧ Q ps H') X.xe s
theorem pps_nil {X : Cx} {pos : Pos} : PPs X pos [] [] [] := fun pins s σ H Q I h => pairTrees_nil_walk ⟨[], H, I, .nil, h⟩
theorem pps_cons {X : Cx} {pos : Pos} {k v : Expr} {ks : List (Option Expr)} {vs : List Expr} {tk tv : TE} {trs : List (TE × TE)} (hk : PE X k tk) (hv : PE X v tv) (hr : PPs X pos ks vs trs) :
    PPs X pos (some k :: ks) (v :: vs) ((tk, tv) :: trs) := fun pins s σ H Q I h =>
  pairTrees_cons_walk (thn (hk pins s σ H _ I h) fun u s1 ⟨x, H1, I1, rx, q1⟩ => thn (hv pins s1 σ H1 _ I1 q1) fun w2 s2 ⟨y, H2, I2, ry, q2⟩ =>
    thn (hr pins s2 σ H2 _ I2 q2) fun ws s3 ⟨ps, H3, I3, rel, q3⟩ => ⟨(x, y) :: ps, H3, I3, .cons ⟨rx, ry⟩ rel, q3⟩)
def mergeK (kvs more : List (Key × V)) : List (Key × V) := more.foldl (fun acc kv => putK acc kv.1 kv.2) kvs
theorem KV.merge : ∀ {more : List (Key × V)} {rs : List (Key × Value)} {kvs : List (Key × V)} {vs : List (Key × Value)}, KV more rs → KV kvs vs → KV (mergeK kvs more) (merged vs rs) := by
  intro more rs kvs vs r
  unfold KV at r
  induction r generalizing kvs vs with
  | nil => intro q; exact q
  | @cons p q ps qs h t ih =>
    intro r0
    have e : KV (putK kvs p.1 p.2) (stored vs q.1 q.2) := by
      have := r0.put p.1 h.2
      rw [← h.1]; exact this
    exact ih e
theorem length_mergeK : ∀ (more kvs : List (Key × V)), (mergeK kvs more).length ≤ kvs.length + more.length
  | [], kvs => by show kvs.length ≤ kvs.length + 0; omega
  | p :: r, kvs => by
    have h1 := length_mergeK r (putK kvs p.1 p.2)
    have h2 := length_putK kvs p.1 p.2
    show (mergeK (putK kvs p.1 p.2) r).length ≤ _
    rw [List.length_cons]; omega
theorem carries_of {P : Program} {w : World} : ∀ {kvs : List (Key × V)} {ws : List (Value × Value)}, VV (kvs.map fun kv => (kV kv.1, kv.2)) ws → ∃ rs, Carries (mixKind P w) ws rs ∧ KV kvs rs
  | [], _, r => by rw [List.map_nil] at r; cases r; exact ⟨[], True.intro, .nil⟩
  | p :: kvs, _, r => by
    rw [List.map_cons] at r
    cases r with
    | @cons a b as bs h t =>
      obtain ⟨rs, c, q⟩ := carries_of (P := P) (w := w) t
      obtain ⟨b1, b2⟩ := b
      exact ⟨(p.1, b2) :: rs, ⟨kV_is h.1, rfl, c⟩, .cons ⟨rfl, h.2⟩ q⟩
def tDisp (trs : List (TE × TE)) : TE := fun σ H Q => ∀ p, H p = none → tPairs trs σ (upd H p (.dK [])) fun ps H2 => H2 p = some (.dK []) ∧ ∃ kvs : List (Key × V), ps = kvs.map (fun kv => (kV kv.1, kv.2)) ∧ kvs.length ≤ 15 ∧ Q (.ref p) (upd H2 p (.dK (mergeK [] kvs)))
theorem pe_disp {X : Cx} {pos : Pos} {keys : List (Option Expr)} {values : List Expr} {trs : List (TE × TE)} (h : PPs X pos keys values trs) (hall : keys.all (·.isSome) = true) (hl : keys.length = values.length) (h0 : keys ≠ [])
    (h15 : keys.length ≤ 15) : PE X (.Dict keys values pos) (tDisp trs) := by
  intro pins s σ H Q I q
  have hn := I.hok.fresh (Nat.le_refl s.heap.objs.size)
  have I1 := I.laid (a := s.heap.objs.size) (o := .dK []) (h' := s.heap.push { cls := .type "dict", data := .dict #[] }) (t' := s.toks) (fun _ _ q => Heap.get?_push_of_some _ q) (Nat.le_refl _) (dk_empty s.heap I.big)
  refine wpAny_Dict_walk (knd := mixKind X.prog X.w) hall hl h0 h15 (thn (h pins _ σ _ _ I1 (q _ hn)) fun ws s2 ⟨ps, H2, I2, rel, e, kvs, ep, lk, q2⟩ => ?_)
  subst ep
  obtain ⟨rs, c, rk⟩ := carries_of (P := X.prog) (w := X.w) rel
  obtain ⟨z, hd, vs0, r0, dd⟩ := dk_of I2.hok e
  cases r0
  refine ⟨rs, c, dd, fun h' dd' hs => ⟨.ref s.heap.objs.size, _, ?_, rfl, q2⟩⟩
  have hz : (mergeK [] kvs).length ≤ sizeLine := by
    have h1 := length_mergeK kvs []
    rw [List.length_nil] at h1
    rw [sizeLine_eq]; omega
  have he : ∃ q, h'.get? s.heap.objs.size = some q := let ⟨q, _, _, hq, _⟩ := dd'; ⟨q, hq⟩
  exact d_write I2 (by rw [e]; exact True.intro) hs he (dk_new hz hd (rk.merge .nil) dd')
structure M2 (X : Cx) (o : Expr) (m : Str) (apos : Pos) (e f : Expr) (cpos : Pos) : Prop where
  base : attributeBase o m X.env (eval o X.env) = eval o X.env
  few : ((backTo cpos (starEach [e, f] X.env)).all (fun x => !x.1) && (backToKw cpos (keywordEach [] X.env)).all (fun x => x.1.isSome)
    && decide (([e, f] : List Expr).length + ([] : List Keyword).length + (if ([] : List Keyword).isEmpty then 0 else 1) < 30)) = true
  line : (apos.endLine == cpos.line) = true
  trees : backTo cpos (starEach [e, f] X.env) = [(false, eval e X.env), (false, eval f X.env)]
def IsD (H : Hp) (a : Addr) : Prop := (∃ kvs, Rd H a (.dK kvs)) ∨ ∃ kvs, Rd H a (.dT kvs)
theorem isD_at {X : Cx} {pins : List (Addr × Obj)} {σ : St} {H : Hp} {s : Shared} {a : Addr} (I : Inv X pins σ H s) (d : IsD H a) :
    s.TypeIs (.ref a) "dict" ∧ (∀ b, Value.ref a = .ref b → ∃ ob, s.heap.get? b = some ob ∧ ob.dict = none) ∧ (a == sysModules) = false := by
  rcases d with ⟨kvs, e⟩ | ⟨kvs, e⟩
  · obtain ⟨_, hd, vs, _, dd⟩ := dk_rd I.hok e
    refine ⟨dd.typeIs, fun b q => ?_, hd⟩
    cases q
    obtain ⟨ob, _, _, h1, h2, _⟩ := dd
    exact ⟨ob, h1, h2.2.1⟩
  · obtain ⟨_, hd, xs, _, dd⟩ := dt_rd I.hok e
    refine ⟨dd.typeIs, fun b q => ?_, hd⟩
    cases q
    obtain ⟨ob, _, _, h1, h2, _⟩ := dd
    exact ⟨ob, h1, h2.2.1⟩
section
variable {X : Cx} {pins : List (Addr × Obj)} {σ : St} {H : Hp} {s : Shared} {a : Addr} {y d : V} {u r : Value} {o : Option V} {A : Around} {E : Value → Shared → Prop}
theorem d_get2 {Q : Value → Shared → Prop} (hu : A.units + 1 < cLine) (I : Inv X pins σ H s) (g : DGet H a y o) (ry : RelV y u) (rd : RelV d r) (h : ∀ w' s', Inv X pins σ H s' → RelV (o.getD d) w' → Q w' s') :
    wpAny (model X.prog X.w) A (call (.builtin "dict.get") [.ref a, u, r]) Q E s := by
  rcases g with ⟨kvs, k, e, ey, l⟩ | ⟨kvs, k, b, e, ey, eb, l⟩
  · subst ey
    obtain ⟨z, hd, vs, rel, dd⟩ := dk_rd I.hok e
    refine call_meetsIn PySem.F.slot_dict_get dd.typeIs PySem.F.entry_dict_get (PySem.F.args_dict_get_3 _ _ _) (meets_dict_get_default (mixKind X.prog X.w) a (kV_is ry) hd r) ⟨_, dd.mapOf, h _ _ (I.tok _) ?_⟩
    rw [l]
    exact (rel.val k).getD rd
  · subst ey
    cases (show u = Value.ref b from ry)
    obtain ⟨z, hd, xs, rel, dd⟩ := dt_rd I.hok e
    refine call_meetsIn PySem.F.slot_dict_get dd.typeIs PySem.F.entry_dict_get (PySem.F.args_dict_get_3 _ _ _) (meetsH_dict_get_default (tupleKind (mixKind X.prog X.w)) a b hd r) ⟨tupleKind_room_in1 hu, k, xs, key_of I.hok eb, dd, h _ _ (I.tok _) ?_⟩
    rw [l]
    exact (rel.val k).getD rd
end
def tDGet2 (td ty tx : TE) : TE := fun σ H Q => td σ H fun x H1 => ∃ a, x = .ref a ∧ IsD H1 a ∧ ty σ H1 fun y H2 => tx σ H2 fun z H3 => ∃ o, DGet H3 a y o ∧ Q (o.getD z) H3
section
variable {X : Cx} {o e f : Expr} {apos cpos : Pos} {td ty tx : TE}
theorem pe_dget2 (hu : X.A.units + 1 < cLine) (ho : PE X o td) (he : PE X e ty) (hf : PE X f tx) (m : M2 X o "get" apos e f cpos) : PE X (.Call (.Attribute o "get" apos) [e, f] [] cpos) (tDGet2 td ty tx) := by
  intro pins s σ H Q I h
  refine wpAny_Call_method m.base m.few m.line PySem.F.plainAttrs_dict PySem.F.slot_dict_get PySem.F.type_dict_get (thn (ho pins s σ H _ I h) fun u s1 ⟨x, H1, I1, rx, a, ex, d, q1⟩ => ?_)
  subst ex
  obtain rfl : u = Value.ref a := rx
  obtain ⟨t1, t2, _⟩ := isD_at I1 d
  refine ⟨t1, t2, ?_⟩
  rw [m.trees]
  refine Calls.callWith_builtin rfl (Calls.evalArgs_plain (Calls.spliced_cons (thn (he pins s1 σ H1 _ I1 q1) fun iv s2 ⟨y, H2, I2, ry, q2⟩ =>
    Calls.spliced_cons (thn (hf pins s2 σ H2 _ I2 q2) fun fv s3 ⟨z, H3, I3, rz, ov, g, q3⟩ => Calls.spliced_nil ?_))))
  exact d_get2 hu I3 g ry rz fun w' s4 I4 rw' => ⟨_, H3, I4, rw', q3⟩
end
section
variable {X : Cx} {pins : List (Addr × Obj)} {σ : St} {H : Hp} {s : Shared} {a : Addr} {kvs : List (Key × V)} {A : Around} {E : Value → Shared → Prop}
theorem d_copyOf {Q : Value → Shared → Prop} (I : Inv X pins σ H s) (e : Rd H a (.dK kvs)) (h : ∀ p s', H p = none → Inv X pins σ (upd H p (.dK kvs)) s' → Q (.ref p) s') : wpAny (model X.prog X.w) A (call (.type "dict") [.ref a]) Q E s := by
  obtain ⟨z, hd, vs, rel, dd⟩ := dk_rd I.hok e
  refine kt_call_dict hd dd (by rw [← rel.length]; exact z) fun h' dd' hs => ?_
  refine h _ _ (I.hok.fresh (Nat.le_refl _)) (I.laid (a := s.heap.objs.size) (o := .dK kvs) (t' := s.toks) (fun b q hq => ?_) (Nat.le_refl _) (dk_new z (beq_eq_false_iff_ne.mpr (Ne.symm (Nat.ne_of_lt I.big))) rel dd'))
  exact (hs.2 b (Nat.ne_of_lt (Heap.lt_size hq))).trans (Heap.get?_push_of_some _ hq)
end
section
variable {X : Cx} {pins : List (Addr × Obj)} {σ : St} {H : Hp} {s : Shared} {a : Addr} {y : V} {u : Value} {A : Around} {E : Value → Shared → Prop}
end
end L2
namespace Att
open PySem PySem.W PySem.Calls PyProof.Rows
theorem ints_of_wellAll {P : Params} {h : Heap} : ∀ (ns : List Int) (vs : List Value), WellAll P h vs (ns.map WData.int) → IntsAre vs ns := by
  intro ns
  induction ns with
  | nil =>
    intro vs w
    rw [List.map_nil] at w
    cases w
    exact .nil
  | cons n ns ih =>
    intro vs w
    rw [List.map_cons] at w
    cases w with
    | cons a b =>
      cases a
      exact .cons _ _ (ih _ b)
theorem script_of {l : OpenLaw} {n : Nat} (hn : l.most = some n) {P : Params} {h : Heap} {args : List WData} {vals : List Value}
    (hpre : l.row.toRowW.claim.pre args = true) (hwl : WellAll P h vals args) :
    ∃ a vs ns, vals = [Value.ref a] ∧ args = [WData.list (ns.map WData.int)] ∧ h.get? a = some { cls := .type "list", data := .seq vs.toArray } ∧ IntsAre vs ns ∧ ns.length ≤ n := by
  have hsh : WShape.hasAll [] args [.list .int] = true := (pre_splitW hpre).1
  have hc : l.pre.holds [] { args := args } = true := (pre_splitW hpre).2
  obtain ⟨d, r, rfl, h1, h2⟩ := hasAllW_cons hsh
  obtain rfl := hasAllW_nil h2
  obtain ⟨xs, rfl, h3⟩ := hasW_list h1
  obtain ⟨ns, rfl⟩ := items_int h3
  have hlen : ns.length ≤ n := by
    unfold OpenLaw.pre at hc
    have h4 : (WTm.not (.lt (.lit (.int (n : Int))) (.len (.arg 0)))).holds [] { args := [.list (ns.map .int)] } = true := by
      have h4 := (holds_andW hc).1
      rw [hn] at h4
      exact h4
    have h5 := condW_of h4 (w_not (w_lt w_lit (w_len_list (w_arg rfl))))
    rw [List.length_map] at h5
    refine Nat.le_of_not_lt fun q => ?_
    have q' : (n : Int) < ((ns.length : Nat) : Int) := by omega
    first
      | (rw [decide_eq_true q'] at h5; exact absurd h5 (by decide))
      | (simp at h5; omega)
  cases hwl with
  | cons w1 w2 =>
    cases w2
    cases w1 with
    | list ho hall => exact ⟨_, _, ns, rfl, rfl, ho, ints_of_wellAll ns _ hall, hlen⟩
theorem post_true (l : OpenLaw) (args : List WData) : l.row.toRowW.claim.post args (.bool true) args = true :=
  postW_of (r := l.row.toRowW) (X := (true == true))
    (show WShape.has [] (.bool true) .bool = true by first | rfl | decide | simp [WShape.has, WShape.arms, WShape.armsAll])
    (show (WTm.eq .res (.lit (.bool true))).value [] { args := args, res := some (.bool true), after := args } = some (.bool (true == true)) from w_eq_bool (w_res rfl) w_lit) rfl
theorem attach_call {l : OpenLaw} {n : Nat} {q : Program} {loose : List Str} {XP : (Str → Option Value) → Heap → Prop} {YP : World → Heap → Prop} {d : DefRec}
    (hn : l.most = some n) (hdf : d.params.defaults = [])
    (call : ∀ (w : World) (s₀ s₁ : Shared) (mg mb : Str → Option Value) (fa : Addr) (o : Obj) (pm cd doc : Value) (a : Addr) (vs : List Value) (ns : List Int),
      Ground q loose [] XP w s₀ mg mb s₁.heap → YP w s₁.heap →
      s₁.heap.get? fa = some o → o.data = .func (docDef d.name d.params d.body d.scope pm cd doc) → s₁.heap.CodeRec cd d.name → mg d.name = some (.ref fa) →
      s₁.heap.get? a = some { cls := .type "list", data := .seq vs.toArray } → IntsAre vs ns → ns.length ≤ n → s₁.gens = #[] →
      codeAny (model l.prog w) callerA (.call (.ref fa) ⟨[.ref a], []⟩) (fun r s' => r = .ok (.ret (.bool true)) ∧ OldK s₁.heap s'.heap ∧ s'.os = s₁.os ∧ AllBare s'.gens) s₁) :
    WalkO q loose XP YP l.row.toRowW d [] (fun f vs => PySem.call f vs) := by
  intro w s₀ s₁ mg mb G Y fa o pm cd doc dV kV ho hd hcd hD hmg hg args vals as hpre hlay hrd hwl hlo
  obtain rfl : dV = .none := Dflts.none hD hdf
  obtain rfl : kV = .none := Dflts.noKw hD
  obtain ⟨a, vs, ns, rfl, rfl, hobj, hints, hlen⟩ := script_of hn hpre hwl
  refine enter_call (codeAny_mono (call w s₀ s₁ mg mb fa o pm cd doc a vs ns G Y ho (fd_plain hd) hcd hmg hobj hints hlen hg) fun r s' hq => ?_)
  obtain ⟨rfl, h2, h3, h4⟩ := hq
  exact ⟨.inl ⟨.bool true, .bool true, [], rfl, fun _ => rfl, .bool true, post_true l _, fun _ => ⟨List.Pairwise.nil, fun _ hm => (nomatch hm)⟩⟩, h2, h3, h4⟩
section
variable {prog : Program} {w : World} {A : Around} {E : Value → Shared → Prop} {s : Shared} {K : Frag}
end
end Att
namespace L2
open PySem PySem.Spec PyProof.Rows
theorem vals_ints : ∀ {vs : List Value} {ns : List Int}, IntsAre vs ns → Vals (ns.map V.int) vs
  | _, _, .nil => .nil
  | _, _, .cons n t h => .cons ⟨t, rfl⟩ (vals_ints h)
def Only (H : Hp) : Prop := ∀ b, H b = none ∨ ∃ o xs, H b = some (.frz o (.lst xs))
theorem law_call {P : Program} {w : World} {K : PySem.W.Frag} {mg mb : Str → Option Value} {CX : CXT} {k : Nat} {fa a : Addr} {fd : FuncData} {x : Str} {sp : Sp} {s₁ : Shared} {vs : List Value} {ns : List Int}
    (KX : K.In s₁.heap) (hns : s₁.heap.Ns mainGlobals mg) (hb : s₁.heap.Ns builtinsNs mb) (hbb : ∀ x : Str, x ≠ "__name__" → mb x = bootBuiltins x) (hlim : s₁.heap.NoLimit) (hg : s₁.gens = #[])
    (ha : s₁.heap.get? a = some { cls := .type "list", data := .seq vs.toArray }) (hi : IntsAre vs ns) (hl : ns.length ≤ sizeLine) (hr : Room k callerA)
    (F : ∀ base : Heap, K.In base → base.Ns mainGlobals mg → FnOk P w K mg base CX k fa fd [x] sp) (hbind : ∀ (s : Shared) (u : Value), BindsTo s fd ⟨[u], []⟩ [(x, u)])
    (hsp : ∀ H : Hp, Only H → SqL K H a (ns.map V.int) → sp [.ref a] H (fun v _ => v = .bl true) fun _ _ _ => False)
    (hCX : ∀ H e s', CX [] H s₁ (fun _ _ _ => False) e s' → False) :
    codeAny (model P w) callerA (.call (.ref fa) ⟨[.ref a], []⟩) (fun r s' => r = .ok (.ret (.bool true)) ∧ OldK s₁.heap s'.heap ∧ s'.os = s₁.os ∧ AllBare s'.gens) s₁ := by
  have rv := vals_ints hi
  have lenV := hi.length
  have core : ∀ H : Hp, Only H → SqL K H a (ns.map V.int) → HOk P w H s₁.heap → (∀ b, H b ≠ none → b = a) → (H a ≠ none → K.lookup a = none) →
      codeAny (model P w) callerA (.call (.ref fa) ⟨[.ref a], []⟩) (fun r s' => r = .ok (.ret (.bool true)) ∧ OldK s₁.heap s'.heap ∧ s'.os = s₁.os ∧ AllBare s'.gens) s₁ := by
    intro H hO hS hok hA hK
    have base_of : ∀ {b : Addr} {o : Obj}, s₁.heap.get? b = some o → H b = none → (hidT s₁.heap H).get? b = some o := fun e n => hidT_get e n
    have noA : ∀ {b : Addr} {o : Obj} {es : Array DictEntry} {ep : Nat}, s₁.heap.get? b = some o → o.data = .dict es ep → H b = none := fun {b o es ep} e d => by
      cases q : H b with
      | none => rfl
      | some u =>
        have e' : b = a := hA b (by rw [q]; simp)
        subst e'
        rw [ha] at e; cases e
        have d' : Data.seq vs.toArray _ = Data.dict es ep := d
        cases d'
    have nsK : ∀ {b : Addr} {m : Str → Option Value}, s₁.heap.Ns b m → (hidT s₁.heap H).Ns b m := fun {b m} ⟨o, es, ep, e, d, r⟩ => ⟨o, es, ep, base_of e (noA e d), d, r⟩
    have hKb : K.In (hidT s₁.heap H) := fun b o e => base_of (KX b o e) (by
      cases q : H b with
      | none => rfl
      | some u =>
        have e' : b = a := hA b (by rw [q]; simp)
        subst e'
        rw [hK (by rw [q]; simp)] at e; cases e)
    have hM : Mod K mg (hidT s₁.heap H) := ⟨hKb, nsK hns, ⟨mb, nsK hb, hbb⟩, let ⟨mc, h1, h2⟩ := hlim; ⟨mc, nsK h1, h2⟩⟩
    have e0 : Env0 P w K mg (hidT s₁.heap H) callerA [] s₁ H := ⟨rfl, hM, fun b o e => of_hidT e, Nat.le_of_eq (hidT_size _ _), trivial, fun b hb => absurd (show b ∈ ([] : List Addr) from hb) (by simp), hok, .of_eq hg⟩
    refine codeAny_mono ((F _ hKb (nsK hns)).run callerA [] s₁ H ⟨[.ref a], []⟩ [.ref a] [.ref a] _ _ hr e0 (hbind s₁ (.ref a)) (.cons rfl .nil) (hsp H hO hS)) fun r s' h => ?_
    cases r with
    | error e => exact (hCX H e s' h).elim
    | ok fl =>
      cases fl with
      | next => exact False.elim h
      | brk => exact False.elim h
      | cont => exact False.elim h
      | ret u =>
        obtain ⟨v, H', os, bare, un, hok', r', q⟩ := h
        have q' : v = .bl true := q
        subst q'
        obtain rfl : u = Value.bool true := r'
        refine ⟨rfl, OldK.of_keep fun b o e => ?_, os, bare⟩
        cases q : H b with
        | none => exact un.keep b o e q (by intro z; exact absurd (show b ∈ ([] : List Addr) from z) (by simp)) (by simp)
        | some u =>
          rcases hO b with z | ⟨ob, xs, z⟩
          · rw [q] at z; cases z
          · have z2 := un.frzs b ob _ z
            obtain ⟨e1, _⟩ := hok b _ z
            obtain ⟨e2, _⟩ := hok' b _ z2
            rw [e] at e1; cases e1
            exact e2
  cases hk : K.lookup a with
  | some o =>
    have e := KX a o hk
    rw [ha] at e
    cases e
    refine core (fun _ => none) (fun _ => .inl rfl) (.inr ⟨_, vs.toArray, _, hk, rfl, rfl, rfl, by rw [List.size_toArray, lenV]; exact hl, by simpa using rv⟩) (fun b u z => by have z' : (none : Option HO) = some u := z; cases z') (fun b z => absurd rfl z) fun z => absurd rfl z
  | none =>
    refine core (fun b => if b = a then some (.frz { cls := .type "list", data := .seq vs.toArray } (.lst (ns.map V.int))) else none) (fun b => ?_) (.inl (.inr ⟨{ cls := .type "list", data := .seq vs.toArray }, if_pos rfl⟩)) (fun b u z => ?_) (fun b z => ?_) fun _ => hk
    · by_cases hb : b = a
      · exact .inr ⟨_, _, if_pos hb⟩
      · exact .inl (if_neg hb)
    · by_cases hb : b = a
      · have z' := (if_pos hb).symm.trans z
        cases z'
        subst hb
        exact ⟨ha, by rw [List.length_map]; exact hl, vs, _, rv, ha⟩
      · have z' := (if_neg hb).symm.trans z
        cases z'
    · by_cases hb : b = a
      · exact hb
      · exact absurd (if_neg hb) z
end L2
namespace L2
open PySem PySem.Spec PyProof.Rows
theorem walk_of {l : PySem.W.OpenLaw} {n k : Nat} {q : Program} {loose : List Str} {XP : (Str → Option Value) → Heap → Prop} {YP : World → Heap → Prop} {d : DefRec} {K : Params → PySem.W.Frag} {CX : World → CXT} {sp : World → Sp} {x : Str}
    (hn : l.most = some n) (hn2 : n ≤ sizeLine) (hdf : d.params.defaults = []) (hr : Room k callerA)
    (hY : ∀ (w : World) (h : Heap), YP w h → (K w.params).In h)
    (F : ∀ (w : World) (mg : Str → Option Value) (fa : Addr) (h : Heap), (K w.params).In h → h.Ns mainGlobals mg → mg d.name = some (.ref fa) →
      ∃ fd : FuncData, (∀ (s : Shared) (u : Value), BindsTo s fd ⟨[u], []⟩ [(x, u)]) ∧
        ∀ base : Heap, (K w.params).In base → base.Ns mainGlobals mg → FnOk l.prog w (K w.params) mg base (CX w) k fa fd [x] (sp w))
    (hsp : ∀ (w : World) (H : Hp) (a : Addr) (ns : List Int), ns.length ≤ n → Only H → SqL (K w.params) H a (ns.map V.int) → sp w [.ref a] H (fun v _ => v = .bl true) fun _ _ _ => False)
    (hCX : ∀ (w : World) (H : Hp) (s : Shared) (e : Value) (s' : Shared), CX w [] H s (fun _ _ _ => False) e s' → False) :
    PySem.W.WalkO q loose XP YP l.row.toRowW d [] (fun f vs => PySem.call f vs) := by
  refine Att.attach_call hn hdf fun w s₀ s₁ mg mb fa o pm cd doc a vs ns G Y ho hd hcd hmg hobj hints hlen hg => ?_
  have KX := hY w _ Y
  obtain ⟨fd, hb, hF⟩ := F w mg fa _ KX G.T.g hmg
  exact law_call KX G.T.g G.T.b G.T.builtins G.T.nolimit hg hobj hints (Nat.le_trans hlen hn2) hr hF hb (fun H hO hS => hsp w H a ns hlen hO hS) fun H e s' => hCX w H s₁ e s'
end L2
namespace L2
open PySem PySem.Spec PyProof.Rows
def defArgs (s : Stmt) : Arguments := match s with
  | .FunctionDef _ a _ _ _ _ _ _ _ _ => a
  | _ => { posonlyargs := [], args := [], vararg := none, kwonlyargs := [], kw_defaults := [], kwarg := none, defaults := [] }
def defBody (s : Stmt) : List Stmt := match s with
  | .FunctionDef _ _ b _ _ _ _ _ _ _ => b
  | _ => []
def defScope (s : Stmt) : Scope := match s with
  | .FunctionDef _ _ _ _ _ _ sc _ _ _ => sc
  | _ => { kind := .function, names := [], isGenerator := false, isCoroutine := false }
abbrev CX0 : CXT := fun _ _ _ _ _ _ => False
abbrev E0 : XK := fun _ _ _ => False
theorem pass0 {X : Cx} : Passes CX0 X E0 := fun _ _ _ _ _ _ _ h => h.elim
structure Fun (K : PySem.W.Frag) (x qual : Str) (st : Stmt) (f : Addr) (fd : FuncData) : Prop where
  ex : ∃ (oc : Value) (od : Option Addr) (kV doc pm : Value) (an : Option Addr) (cdv ct : Value) (osl : Array (Option Value)),
    fd = PySem.W.fnOf x qual (defArgs st) (defBody st) (defScope st) .none kV doc pm an cdv ct ∧ K.lookup f = some ⟨oc, od, .func fd, osl⟩ ∧ PySem.W.codeIn K cdv qual = true
  kp : PySem.W.keepIn K (.ref f) = true
section
variable {P : Program} {w : World} {K : PySem.W.Frag} {mg : Str → Option Value} {base : Heap}
theorem Fun.ok {x qual : Str} {st : Stmt} {f : Addr} {fd : FuncData} {N ps : List Str} {k : Nat} {sp : Sp} (F : Fun K x qual st f fd) (S : FnScope N ps (defScope st)) (len : ∀ vs H Q E, sp vs H Q E → vs.length = ps.length)
    (hbody : ∀ (cdv : Value) (A : Around) (outer : List Env) (s : Shared) (H : Hp) (vs : List V) (Q : VK) (E : XK), Room k (A.deeper (envOfC qual (defScope st) s.heap.objs.size f cdv)) → sp vs H Q E →
      ∃ t, PSs (cxOf CX0 P w K mg base N qual (defScope st) f cdv A outer s H E).nox (defBody st) t ∧ t { nx := fun _ H' => Q .non H', rt := Q } (start N vs) H) : FnOk P w K mg base CX0 (k + 1) f fd ps sp := by
  obtain ⟨oc, od, kV, doc, pm, an, cdv, ct, osl, rfl, lk, hcd⟩ := F.ex
  refine fn_of lk hcd S len fun A outer s H vs Q E hr hsp => ?_
  obtain ⟨t, h, q⟩ := hbody cdv A outer s H vs Q E hr hsp
  exact ⟨t, h.nox, q⟩
theorem Fun.binds {x qual : Str} {st : Stmt} {f : Addr} {fd : FuncData} {ps : List Str} (F : Fun K x qual st f fd)
    (h : ∀ (kV doc pm : Value) (an : Option Addr) (cdv ct : Value) (us : List Value), us.length = ps.length → bindArgs (PySem.W.fnOf x qual (defArgs st) (defBody st) (defScope st) .none kV doc pm an cdv ct) ⟨us, []⟩ = pure (ps.zip us)) : Binds K fd ps [] := by
  obtain ⟨oc, od, kV, doc, pm, an, cdv, ct, osl, rfl, lk, hcd⟩ := F.ex
  exact .all (h kV doc pm an cdv ct)
theorem fun_mk {x qual : Str} {st : Stmt} {f : Addr} {oc : Value} {od an : Option Addr} {osl : Array (Option Value)} {kV doc pm cdv ct : Value} (l : K.lookup f = some ⟨oc, od, .func (PySem.W.fnOf x qual (defArgs st) (defBody st) (defScope st) .none kV doc pm an cdv ct), osl⟩)
    (c : PySem.W.codeIn K cdv qual = true) (k : PySem.W.keepIn K (.ref f) = true) : Fun K x qual st f (PySem.W.fnOf x qual (defArgs st) (defBody st) (defScope st) .none kV doc pm an cdv ct) := ⟨⟨oc, od, kV, doc, pm, an, cdv, ct, osl, rfl, l, c⟩, k⟩
end
theorem hu_of {A : Around} {k : Nat} (hr : Room k A) : A.units + 1 < cLine := Nat.lt_of_le_of_lt (Nat.add_le_add_left (by decide : 1 ≤ 64) _) hr.units
theorem small1000 {n : Nat} (h : n ≤ 1000) : n < sizeLine := Nat.lt_of_le_of_lt h (by decide)
section
variable {X : Cx}
theorem pv (i : Nat) {x : Str} {pos : Pos} (hN : X.N[i]? = some x := by rfl) (hv : Vis X.env.scope x := by first | exact Or.inl rfl | exact Or.inr (Or.inl rfl) | exact Or.inr (Or.inr rfl)) (hd : (x == ("__debug__" : Str)) = false := by decide)
    (hcd : (x == ("__classdict__" : Str)) = false := by decide) : PE X (.Name x pos) (tVar i) := pe_var hN hv hd hcd
end
theorem iteF {A B : Prop} (h : B) : if false = true then A else B := by
  rw [if_neg Bool.false_ne_true]
  exact h
theorem iteT {A B : Prop} (h : A) : if true = true then A else B := by
  rw [if_pos rfl]
  exact h
theorem ite2 {c A B : Prop} [Decidable c] (h1 : c → A) (h2 : ¬ c → B) : if c then A else B := by
  by_cases h : c
  · rw [if_pos h]
    exact h1 h
  · rw [if_neg h]
    exact h2 h
def Same (H H' : Hp) : Prop := ∀ b o, H b = some o → H' b = some o
theorem Same.refl (H : Hp) : Same H H := fun _ _ h => h
theorem Same.trans {H H1 H2 : Hp} (a : Same H H1) (b : Same H1 H2) : Same H H2 := fun c o h => b c o (a c o h)
theorem Same.free {H H' : Hp} (e : Same H H') {l : Addr} (h : H' l = Option.none) : H l = Option.none := by
  cases q : H l with
  | none => rfl
  | some o =>
    rw [e l o q] at h
    cases h
theorem Same.seq {K : PySem.W.Frag} {H H' : Hp} {a : Addr} {xs : List V} (e : Same H H') (h : SqL K H a xs) : SqL K H' a xs := by
  rcases h with (h | ⟨o, h⟩) | h
  · exact .inl (.inl (e _ _ h))
  · exact .inl (.inr ⟨o, e _ _ h⟩)
  · exact .inr h
section
variable {κ : Type} [DecidableEq κ]
end
end L2
set_option Elab.async false
set_option linter.all false
set_option maxRecDepth 100000
set_option maxHeartbeats 4000000
namespace L2
open PySem PySem.Spec PyProof.Rows
abbrev NoX : Value → Shared → Prop := fun _ _ => False
theorem noX {al : Type} {t : Sem al} {Q : al → Shared → Prop} {M : Model} {A : Around} {E : Value → Shared → Prop} {s : Shared} (h : wpAny M A t Q NoX s) : wpAny M A t Q E s :=
  wpAny_mono h (fun _ _ q => q) fun _ _ z => z.elim
def capSt (cap : List (Option Nat)) (σ : St) : St := cap.map fun o => match o with
  | none => none
  | some j => (σ[j]?).join
inductive Ext : St → St → Prop
  | nil : Ext [] []
  | skip {a b : St} {x : Option V} : Ext a b → Ext (none :: a) (x :: b)
  | keep {a b : St} {x : Option V} : Ext a b → Ext (x :: a) (x :: b)
theorem Ext.len {a b : St} (h : Ext a b) : a.length = b.length := by
  induction h with
  | nil => rfl
  | skip _ ih => simp [ih]
  | keep _ ih => simp [ih]
theorem Ext.get {a b : St} (h : Ext a b) : ∀ (i : Nat) v, a[i]? = some (some v) → b[i]? = some (some v) := by
  induction h with
  | nil => intro i v e; simp at e
  | skip _ ih =>
    intro i v e
    cases i with
    | zero => simp at e
    | succ i => simpa using ih i v (by simpa using e)
  | keep _ ih =>
    intro i v e
    cases i with
    | zero => simpa using e
    | succ i => simpa using ih i v (by simpa using e)
def Cx.block (X : Cx) (sc : Scope) (cl : List (Str × Addr)) (N : List Str) (s : Shared) (H : Hp) (C : Addr) (ex : List Addr) : Cx where
  prog := X.prog
  w := X.w
  K := X.K
  mg := X.mg
  base := X.base
  A := X.A
  N := N
  s₀ := s
  H₀ := H
  env := compEnvC sc cl C X.env
  outer := X.stack
  stack := X.stack
  ex := ex
  fn := fun _ => false
  calm := X.calm
  pn := []
  xe := NoX
theorem closure_ok {env : Env} : ∀ (names : List (Str × NameKind)) (cs : List (Str × Addr)), (∀ n, (n, NameKind.free) ∈ names → ∃ c, env.cells.lookup n = some c) →
    (∀ x c, cs.lookup x = some c → env.cells.lookup x = some c) →
    ∃ cl : List (Str × Addr), (forIn names cs fun (x : Str × NameKind) (r : List (Str × Addr)) => (if (x.2 == NameKind.free) = true then do let c ← cellOf env x.1; pure (ForInStep.yield ((x.1, c) :: r)) else pure (ForInStep.yield r)) : Sem (List (Str × Addr))) = pure cl ∧
      (∀ x c, cl.lookup x = some c → env.cells.lookup x = some c) ∧ (∀ n, (n, NameKind.free) ∈ names → ∃ c, cl.lookup n = some c) ∧ (∀ n c, cs.lookup n = some c → ∃ c, cl.lookup n = some c)
  | [], cs, _, hc => ⟨cs, rfl, hc, fun _ h => (nomatch h), fun n c e => ⟨c, e⟩⟩
  | (n, k) :: r, cs, h, hc => by
    by_cases hk : k = .free
    · subst hk
      obtain ⟨c, ec⟩ := h n List.mem_cons_self
      have hc' : ∀ x c', ((n, c) :: cs).lookup x = some c' → env.cells.lookup x = some c' := fun x c' e => by
        rw [List.lookup_cons] at e
        cases hx : x == n with
        | true => rw [hx] at e; cases e; rw [eq_of_beq hx]; exact ec
        | false => rw [hx] at e; exact hc x c' e
      obtain ⟨cl, e1, e2, e3, e4⟩ := closure_ok r ((n, c) :: cs) (fun m hm => h m (List.mem_cons_of_mem _ hm)) hc'
      refine ⟨cl, ?_, e2, fun m hm => ?_, fun m c' e => ?_⟩
      · rw [List.forIn_cons, ← e1]
        simp only [beq_self_eq_true, if_true, cellOf, ec]
        rfl
      · rcases List.mem_cons.mp hm with z | z
        · cases z
          exact e4 n c (by simp)
        · exact e3 m z
      · by_cases hm : m = n
        · subst hm; exact e4 m c (by simp)
        · exact e4 m c' (by rw [List.lookup_cons, beq_eq_false_iff_ne.mpr hm]; exact e)
    · have hb : (k == NameKind.free) = false := by simpa using hk
      obtain ⟨cl, e1, e2, e3, e4⟩ := closure_ok r cs (fun m hm => h m (List.mem_cons_of_mem _ hm)) hc
      refine ⟨cl, ?_, e2, fun m hm => ?_, e4⟩
      · rw [List.forIn_cons, ← e1]
        simp only [hb, Bool.false_eq_true, if_false]
        rfl
      · rcases List.mem_cons.mp hm with z | z
        · cases z; exact absurd rfl hk
        · exact e3 m z
theorem closure_of {sc : Scope} {env : Env} (h : ∀ n, (n, NameKind.free) ∈ sc.names → ∃ c, env.cells.lookup n = some c) :
    ∃ cl : List (Str × Addr), closureFor sc env = pure cl ∧ (∀ x c, cl.lookup x = some c → env.cells.lookup x = some c) ∧ (∀ n, (n, NameKind.free) ∈ sc.names → ∃ c, cl.lookup n = some c) := by
  obtain ⟨cl, e1, e2, e3, _⟩ := closure_ok (env := env) sc.names [] h (fun x c e => by simp at e)
  refine ⟨cl, ?_, e2, e3⟩
  unfold closureFor
  rw [← bind_pure (pure cl), ← e1]
theorem lookup_mem {names : List (Str × NameKind)} {x : Str} {k : NameKind} (h : names.lookup x = some k) : (x, k) ∈ names := by
  induction names with
  | nil => simp at h
  | cons p r ih =>
    obtain ⟨n, j⟩ := p
    rw [List.lookup_cons] at h
    cases hx : x == n with
    | true => rw [hx] at h; cases h; rw [eq_of_beq hx]; exact List.mem_cons_self
    | false => rw [hx] at h; exact List.mem_cons_of_mem _ (ih h)
theorem relabel_free {sc : Scope} {env : Env} {x : Str} {k : NameKind} (hk : k = .cell ∨ k = .free) (nc : ∀ y ∈ sc.names, y.2 ≠ .cell) (h : (relabel sc env).names.lookup x = some k) : (x, NameKind.free) ∈ sc.names := by
  have m := lookup_mem h
  obtain ⟨⟨n, j⟩, hm, e⟩ := List.mem_map.mp m
  have q : (if (j == NameKind.free && env.scope.kind == .function && env.kindOf n == some .cell) = true then (n, NameKind.cell) else (n, j)) = (x, k) := e
  split at q
  · rename_i c
    rw [Bool.and_eq_true, Bool.and_eq_true] at c
    have j' : j = .free := by simpa using c.1.1
    cases q
    rw [j'] at hm
    exact hm
  · cases q
    rcases hk with z | z
    · exact absurd z (nc _ hm)
    · rw [z] at hm; exact hm
theorem lookup_relabel_free {sc : Scope} {env : Env} {x : Str} : ∀ {names : List (Str × NameKind)}, names.lookup x = some .free →
    (names.map fun (n, k) => if (k == NameKind.free && env.scope.kind == .function && env.kindOf n == some .cell) then (n, NameKind.cell) else (n, k)).lookup x = some .cell ∨
    (names.map fun (n, k) => if (k == NameKind.free && env.scope.kind == .function && env.kindOf n == some .cell) then (n, NameKind.cell) else (n, k)).lookup x = some .free
  | [], h => by simp at h
  | (n, k) :: r, h => by
    have ih := @lookup_relabel_free sc env x r
    rw [List.lookup_cons] at h
    by_cases c : (k == NameKind.free && env.scope.kind == .function && env.kindOf n == some .cell) = true
    · rw [List.map_cons]
      simp only [c, if_true, List.lookup_cons]
      cases hx : x == n with
      | true => exact .inl rfl
      | false => rw [hx] at h; exact ih h
    · rw [List.map_cons]
      have c' := Bool.eq_false_iff.mpr c
      simp only [c', Bool.false_eq_true, if_false, List.lookup_cons]
      cases hx : x == n with
      | true => rw [hx] at h; cases h; exact .inr rfl
      | false => rw [hx] at h; exact ih h
theorem comp_loop {P : Program} {w : World} {A : Around} {R : Result → Shared → Prop} {s : Shared} {elt tg iter : Expr} {ifs : List Expr} {sc : Scope} {pos : Pos} {it acc : Value} {env : Env} (J : Nat → Shared → Prop)
    (turn : ∀ n s, J n s → wpAny (model P w) A (pyNext it) (fun r s1 => match r with
      | none => R (.ok .next) s1
      | some v => wpAny (model P w) A (letOwnedTupleGo tg it v) (fun _ s2 => wpAny (model P w) A (assign tg env v) (fun _ s3 =>
          wpAny (model P w) A (forIn ifs true fun c r => if r = true then do let ok ← isTrue c env (eval c env); pure (ForInStep.yield ok) else pure (ForInStep.yield r)) (fun ok s4 =>
            if ok = true then wpAny (model P w) A (eval elt env) (fun x s5 => wpAny (model P w) A (call (.builtin "list.append") [acc, x]) (fun _ s6 => ∃ m, m < n ∧ J m s6) NoX s5) NoX s4
            else ∃ m, m < n ∧ J m s4) NoX s3) NoX s2) NoX s1) NoX s) (n : Nat) (h : J n s) :
    codeAny (model P w) A (.compLoop (.ListComp elt [⟨tg, iter, ifs, 0⟩] sc pos) 0 it acc env) R s := by
  refine codeAny_loop rfl J (fun n s hJ => ?_) n h
  refine wpAny_noted ?_
  rw [compTurn_list]
  refine wpAny_bind (wpAny_standAt (wpAny_bind (noX (thn (turn n s hJ) fun r s1 h1 => ?_))))
  cases r with
  | none => exact wpAny_pure h1
  | some v =>
    refine wpAny_bind (noX (thn h1 fun _ s2 h2 => ?_))
    refine wpAny_bind (noX (thn h2 fun _ s3 h3 => ?_))
    refine wpAny_bind (noX (thn h3 fun ok s4 h4 => ?_))
    cases ok with
    | false => exact wpAny_pure ⟨rfl, h4⟩
    | true => exact wpAny_bind (wpAny_bind (noX (thn h4 fun x s5 h5 => wpAny_bind (noX (thn h5 fun _ s6 h6 => wpAny_pure (wpAny_pure ⟨rfl, h6⟩))))))
def PTs (X : Cx) (ifs : List Expr) (t : TT) : Prop :=
  ∀ (pins : List (Addr × Obj)) (s : Shared) (σ : St) (H : Hp) (Q : Bool → Hp → Prop), Inv X pins σ H s → t σ H Q →
    wpAny (model X.prog X.w) X.A (forIn ifs true fun c r => if r = true then do let ok ← isTrue c X.env (eval c X.env); pure (ForInStep.yield ok) else pure (ForInStep.yield r)) (TP X pins σ Q) X.xe s
def tYes : TT := fun _ H Q => Q true H
theorem pts_nil {X : Cx} : PTs X [] tYes := fun _ _ _ H _ I h => wpAny_tests_nil ⟨H, I, h⟩
theorem pts_one {X : Cx} {c : Expr} {t : TT} (h : PT X c t) : PTs X [c] t := fun pins s σ H Q I hq => wpAny_tests_one (h pins s σ H Q I hq)
def tComp (cap : List (Option Nat)) (wi : TI) (g : TG) (tt : TT) (te : TE) : TE := fun σ H Q => wi σ H fun J H1 => ∀ acc, H1 acc = none →
  ∃ W : Nat → Nat → Hp → Prop, (∃ m, W 0 m (upd H1 acc (.lst []))) ∧ ∀ i m H2, W i m H2 →
    (J.stop i H2 ∧ Q (.ref acc) H2) ∨ (J.go i H2 ∧ ∃ N : Hp → Prop, (∀ H', N H' → ∃ m', m' < m ∧ W (i + 1) m' H') ∧ ∀ x H3, J.yld i H2 x H3 → g x (capSt cap σ) H3 fun σ2 H4 => Ext (capSt cap σ) σ2 ∧ tt σ2 H4 fun b H5 =>
      if b = true then te σ2 H5 fun y H6 => ∃ zs, H6 acc = some (.lst zs) ∧ zs.length < sizeLine ∧ N (upd H6 acc (.lst (zs ++ [y])))
      else N H5)
theorem HOk.but {P : Program} {w : World} {H : Hp} {h h' : Heap} {C : Addr} (x : HOk P w H h) (n : H C = none) (sb : Heap.SameBut C h h') : HOk P w H h' := fun a o e =>
  (x a o e).stay (fun b u hb q => (sb.2 b (fun z => by
    subst z
    rcases hb with z | z
    · subst z; rw [n] at e; cases e
    · rw [n] at z; cases z)).trans q) (fun _ q => q) fun _ _ q => q
theorem Un.but {fs ex : List Addr} {H H' : Hp} {h h1 h2 : Heap} {C : Addr} (u : Un fs ex H H' h h1) (lt : h.objs.size ≤ C) (sb : Heap.SameBut C h1 h2) : Un fs ex H H' h h2 := by
  have ne : ∀ b o, h.get? b = some o → b ≠ C := fun b o e => Nat.ne_of_lt (Nat.lt_of_lt_of_le (Heap.lt_size e) lt)
  refine ⟨fun b o e n hb hx => (sb.2 b (ne b o e)).trans (u.keep b o e n hb hx), fun b o e n hb hx => ?_, u.free, fun b o e hx => ?_, u.tups, u.frzs, u.tbls⟩
  · obtain ⟨sl, q⟩ := u.slot b o e n hb hx
    exact ⟨sl, (sb.2 b (ne b o e)).trans q⟩
  · obtain ⟨o', q⟩ := u.there b o e hx
    exact ⟨o', (sb.2 b (ne b o e)).trans q⟩
section
variable {X : Cx}
theorem block_ok {pins : List (Addr × Obj)} {σ : St} {H : Hp} {s : Shared} {sc : Scope} {cl : List (Str × Addr)} {N : List Str} {C : Addr} {fp : List Addr} (I : Inv X pins σ H s) (hk : sc.kind = .function) (nc : ∀ y ∈ sc.names, y.2 ≠ .cell)
    (hC : s.heap.objs.size ≤ C) (hf : ∀ b ∈ fp, FpOk X pins H b) (hfo : ∀ b ∈ fp, ∃ o, s.heap.get? b = some o) (c1 : ∀ x c, cl.lookup x = some c → X.env.cells.lookup x = some c) (c2 : ∀ n, (n, NameKind.free) ∈ sc.names → ∃ c, cl.lookup n = some c) :
    (X.block sc cl N s H C fp).Ok where
  mod := I.ok.mod
  kind := hk
  glob := I.ok.glob
  blt := I.ok.blt
  above := hC
  inj := fun x y c e e' => I.ok.inj x y c (c1 x c e) (c1 y c e')
  has := fun x h => c2 x (h.elim (relabel_free (.inl rfl) nc) (relabel_free (.inr rfl) nc))
  cab := fun x c e => (nomatch e)
  hd := I.ok.hd
  frames := I.ok.frames
  stk := .inl rfl
  exf := fun b hb => ⟨fun z => by
    obtain ⟨o, e⟩ := hfo b hb
    have lt := Heap.lt_size e
    rw [z] at lt
    exact absurd (Nat.lt_of_lt_of_le lt hC) (Nat.lt_irrefl _), fun x c e => (hf b hb).2.2.2.2.1 x c (c1 x c e)⟩
  bs := I.bs
  bsz := Nat.le_trans I.ok.bsz I.sz
  noex := fun b o e hb => by
    rcases (hf b hb).2.2.2.1 with z | z
    · exact I.ok.noex b o e z
    · exact absurd (Nat.lt_of_lt_of_le (Heap.lt_size (I.ok.bs b o e).1) z) (Nat.lt_irrefl _)
  exfs := fun b hb hs => by
    rcases List.mem_cons.mp (I.stkSub b hs) with z | z
    · exact (hf b hb).2.1 z
    · exact (hf b hb).2.2.1 z
  funs := I.stack
  frf := I.stkFree
theorem pe_comp {elt tg iter : Expr} {ifs : List Expr} {sc : Scope} {pos : Pos} {wi : TI} {g : TG} {tt : TT} {te : TE} (N : List Str) (cap : List (Option Nat)) (hc : X.calm = true) (hi : PI X tg iter wi)
    (hg : ∀ cl s H C ex, PG (X.block sc cl N s H C ex) tg g) (ht : ∀ cl s H C ex, PTs (X.block sc cl N s H C ex) ifs tt) (he : ∀ cl s H C ex, PE (X.block sc cl N s H C ex) elt te)
    (hk : sc.kind = .function) (nc : ∀ y ∈ sc.names, y.2 ≠ .cell) (hnames : ∀ y ∈ sc.names, y.2 = .local → sc.names.lookup y.1 = some .local)
    (hfree : ∀ n, (n, NameKind.free) ∈ sc.names → X.env.kindOf n = some .cell)
    (hcap : ∀ (i j : Nat), cap[i]? = some (some j) → ∃ x, N[i]? = some x ∧ X.N[j]? = some x ∧ sc.names.lookup x = some .free) (hlen : cap.length = N.length)
    (hs : ∀ x, foldedSetIterable iter X.env x = pure x := by intro _; rfl) : PE X (.ListComp elt [⟨tg, iter, ifs, 0⟩] sc pos) (tComp cap wi g tt te) := by
  intro pins s σ H Q I h
  obtain ⟨cl, hclos, c1, c2⟩ := closure_of (sc := sc) (env := X.env) fun n hn => I.ok.has n (.inl (hfree n hn))
  rw [eval_ListComp]
  refine wpAny_comprehension_free (use := none) rfl hs hclos hk hnames ?_
  refine thn (hi pins s σ H _ I h) fun v s1 h1 => thn h1 fun itv s2 h2 => ?_
  obtain ⟨it, fp, tn, J, H2, e, I2, T, st2, f2, q2⟩ := h2
  subst e
  have hfr : H2 s2.heap.objs.size = none := I2.fresh
  obtain ⟨W, ⟨m0, w0⟩, turn⟩ := q2 s2.heap.objs.size hfr
  have I3 := I2.lnew (ys := []) (its := []) (t' := s2.toks) .nil (Nat.zero_le _)
  have hacc : H2 s2.heap.objs.size = none := hfr
  refine wpAny_newObj_type (wpAny_newFunctionEnv nc (by intro y hy; simp at hy) (fun h4 hns hsb => ?_) hk)
  generalize hs3 : ({ s2 with heap := s2.heap.push { cls := .type "list", data := .seq ([] : List Value).toArray } } : Shared) = s3 at hns hsb I3 ⊢
  have hheap : s3.heap = s2.heap.push { cls := .type "list", data := .seq ([] : List Value).toArray } := by rw [← hs3]
  generalize hH3 : upd H2 s2.heap.objs.size (.lst []) = H3 at I3 w0
  have up2 : ∀ b o, s2.heap.get? b = some o → s3.heap.get? b = some o := fun b o q => by rw [hheap]; exact Heap.get?_push_of_some _ q
  have neA : ∀ b ∈ fp, b ≠ s2.heap.objs.size := fun b hb => by
    obtain ⟨o, q, _⟩ := T.obj _ _ st2 b hb
    exact Nat.ne_of_lt (Heap.lt_size q)
  have f3 : ∀ b ∈ fp, FpOk X pins H3 b := fun b hb => ⟨by rw [← hH3, upd_ne (neA b hb)]; exact (f2 b hb).1, (f2 b hb).2⟩
  have o3 : ∀ b ∈ fp, ∃ o, s3.heap.get? b = some o := fun b hb => by
    obtain ⟨o, q, _⟩ := T.obj _ _ st2 b hb
    exact ⟨o, up2 b o q⟩
  have ok' := block_ok (N := N) (C := s3.heap.objs.size) I3 hk nc (Nat.le_refl _) f3 o3 c1 c2
  generalize hC : s3.heap.objs.size = C at hns hsb ok' ⊢
  have ltC : ∀ b o, s3.heap.get? b = some o → b ≠ C := fun b o q => by rw [← hC]; exact Nat.ne_of_lt (Heap.lt_size q)
  have up4 : ∀ b o, s3.heap.get? b = some o → h4.get? b = some o := fun b o q => hsb.extBut b o (ltC b o q) (Heap.get?_push_of_some _ q)
  have st4 : tn 0 h4 := T.keep _ _ _ st2 fun b hb o q => up4 b o (up2 b o q)
  have I4 : Inv (X.block sc cl N s3 H3 C fp) [] (capSt cap σ) H3 { s3 with heap := h4, toks := s3.toks + ([] : List (Str × Value)).length } := by
    refine ⟨ok', rfl, I3.bare, Un.kept up4, ⟨_, hns, fun i x v e1 e2 e3 => ?_⟩, fun x c q => ?_, ?_, fun x c q => I3.freeC x c (c1 x c q), fun p hp => (nomatch hp), I3.hok.kept up4, ?_⟩
    · have ee : ∃ j, cap[i]? = some (some j) ∧ σ[j]? = some (some v) := by
        unfold capSt at e2
        rw [List.getElem?_map] at e2
        cases q : cap[i]? with
        | none => rw [q] at e2; cases e2
        | some o =>
          rw [q] at e2
          cases o with
          | none => cases e2
          | some j =>
            refine ⟨j, rfl, ?_⟩
            have e2' : some ((σ[j]?).join) = some (some v) := e2
            cases z : σ[j]? with
            | none => rw [z] at e2'; cases e2'
            | some o' =>
              rw [z] at e2'
              have e2'' : o' = some v := Option.some.inj e2'
              rw [e2'']
      obtain ⟨j, ej, es⟩ := ee
      obtain ⟨x', n1, n2, n3⟩ := hcap i j ej
      have e1' : N[i]? = some x := e1
      rw [n1] at e1'
      cases e1'
      have hfr' : (x, NameKind.free) ∈ sc.names := lookup_mem n3
      have kc := hfree x hfr'
      obtain ⟨m, _, hl⟩ := I3.loc
      obtain ⟨u, r, l⟩ := hl j x v n2 es (.inr (.inl kc))
      refine ⟨u, r, ?_⟩
      rcases l with ⟨l, _⟩ | ⟨_, c, ec, z⟩
      · rw [kc] at l; cases l
      · obtain ⟨c', ec'⟩ := c2 x hfr'
        have := c1 x c' ec'
        rw [ec] at this
        cases this
        obtain ⟨oc, q1, q2⟩ := z
        exact .inr ⟨lookup_relabel_free (sc := sc) n3, c, ec', oc, up4 _ _ q1, q2⟩
    · obtain ⟨v, oc, q1, q2⟩ := I3.cell x c (c1 x c q)
      exact ⟨v, oc, up4 _ _ q1, q2⟩
    · exact I3.hok.fresh (by rw [hC]; exact Nat.le_refl _)
    · show (capSt cap σ).length = N.length
      unfold capSt
      rw [List.length_map, hlen]
  have loop : codeAny (model X.prog X.w) X.A (.compLoop (.ListComp elt [⟨tg, iter, ifs, 0⟩] sc pos) 0 (.ref it) (.ref s2.heap.objs.size) (compEnvC sc cl C X.env)) (compPost (model X.prog X.w) X.A X.xe none (EP X pins σ Q) (.ref s2.heap.objs.size) C)
      { s3 with heap := h4, toks := s3.toks + ([] : List (Str × Value)).length } := by
    have stat : ∀ {H' : Hp}, (∀ b ∈ fp, H' b = none) → ∀ b ∈ fp, FpOk (X.block sc cl N s3 H3 C fp) [] H' b := fun hn b hb =>
      ⟨hn b hb, (ok'.exf b hb).1, ok'.exfs b hb, .inl hb, (ok'.exf b hb).2, fun p hp => (nomatch hp)⟩
    refine comp_loop (fun n s' => ∃ i H', Inv (X.block sc cl N s3 H3 C fp) [] (capSt cap σ) H' s' ∧ tn i s'.heap ∧ (∀ b ∈ fp, H' b = none) ∧ W i n H') ?_ m0 ⟨0, H3, I4, st4, fun b hb => (f3 b hb).1, w0⟩
    rintro n s5 ⟨i, H5, I5, st5, fr5, w5⟩
    rcases turn i n H5 w5 with ⟨stop, qn⟩ | ⟨go, N', hN', step⟩
    · refine thn (T.done (X.block sc cl N s3 H3 C fp) rfl rfl rfl hc i [] s5 _ H5 NoX I5 (stat fr5) st5 stop) fun r s6 ⟨hr, I6⟩ => ?_
      subst hr
      obtain ⟨m, hm, _⟩ := I6.loc
      refine ⟨m, hm, fun h' sb => ⟨.ref s2.heap.objs.size, H5, ?_, rfl, qn⟩⟩
      refine I3.call' (s' := { s6 with heap := h' }) (ch := fp) I6.os (I6.base.but (by rw [← hC]; exact Nat.le_refl _) sb) (I6.hok.but I6.free sb) I6.bare fun b hb => ?_
      obtain ⟨g0, g1, g2, g3, g4, g5⟩ := f3 b hb
      exact ⟨g3, g1, g4, g5⟩
    · refine thn (T.item (X.block sc cl N s3 H3 C fp) rfl rfl rfl hc i [] s5 _ H5 NoX I5 (stat fr5) st5 go) fun r s6 ⟨u, hr, h6⟩ => ?_
      subst hr
      refine thn h6 fun _ s7 ⟨x, H7, I7, r7, y7, st7, fr7⟩ => ?_
      have I7' := I7.pinned (stat fr7) (T.obj _ _ st7)
      have again : ∀ {σ8 : St} {H8 : Hp} {s8 : Shared}, Inv (X.block sc cl N s3 H3 C fp) ([] ++ pinsAt fp s7.heap) σ8 H8 s8 → Ext (capSt cap σ) σ8 → N' H8 →
          ∃ m, m < n ∧ ∃ i H', Inv (X.block sc cl N s3 H3 C fp) [] (capSt cap σ) H' s8 ∧ tn i s8.heap ∧ (∀ b ∈ fp, H' b = none) ∧ W i m H' := fun {σ8 H8 s8} I8 ex n8 => by
        obtain ⟨m', hm, w8⟩ := hN' H8 n8
        have I8' := I8.unpinned.weak ex.len ex.get
        refine ⟨m', hm, i + 1, H8, I8', T.keep _ _ _ st7 fun b hb o q => (I8.pin (b, o) (List.mem_append_right _ (List.mem_append_right _ (mem_pinsAt hb q)))).1, fun b hb => ?_, w8⟩
        obtain ⟨o, q, d⟩ := T.obj _ _ st7 b hb
        exact (I8.pin (b, o) (List.mem_append_right _ (List.mem_append_right _ (mem_pinsAt hb q)))).2.1
      refine thn (hg cl s3 H3 C fp _ s7 _ H7 x u _ I7' r7 (step x H7 y7)) fun _ s8 ⟨σ8, H8, I8, ex8, q8⟩ => ?_
      refine thn (ht cl s3 H3 C fp _ s8 σ8 H8 _ I8 q8) fun b s9 ⟨H9, I9, q9⟩ => ?_
      cases b with
      | false => exact again I9 ex8 q9
      | true =>
        rw [if_pos rfl] at q9 ⊢
        refine thn (he cl s3 H3 C fp _ s9 σ8 H9 _ I9 q9) fun yv s10 ⟨y, H10, I10, r10, zs, e10, l10, q10⟩ => ?_
        refine thn (mt_append (X := X.block sc cl N s3 H3 C fp) _ s10 σ8 H10 (.ref s2.heap.objs.size) [y] (.ref s2.heap.objs.size) [yv] (fun _ H' => N' H') I10 rfl (.cons r10 .nil) ⟨_, zs, y, rfl, rfl, e10, l10, q10⟩) fun _ s11 ⟨_, H11, I11, _, q11⟩ => ?_
        exact again I11 ex8 q11
  exact codeAny_compStart_list loop (T.self X.A 0 _ _ _ st4 loop)
end
theorem comp_tup {K : PySem.W.Frag} {a acc : Addr} {xs : List V} {g : TG} {tt : TT} {te : TE} {σ : St} {H : Hp} {Q : VK} (Pv : Nat → Hp → Prop) (h0 : Pv 0 (upd H acc (.lst []))) (hl : ∀ i H, i ≤ xs.length → Pv i H → SqT K H a xs)
    (hs : ∀ i x H, xs[i]? = some x → Pv i H → g x σ H fun σ2 H4 => Ext σ σ2 ∧ tt σ2 H4 fun b H5 =>
      if b = true then te σ2 H5 fun y H6 => ∃ zs, H6 acc = some (.lst zs) ∧ zs.length < sizeLine ∧ Pv (i + 1) (upd H6 acc (.lst (zs ++ [y]))) else Pv (i + 1) H5) (hd : ∀ H, Pv xs.length H → Q (.ref acc) H) :
    ∃ W : Nat → Nat → Hp → Prop, (∃ m, W 0 m (upd H acc (.lst []))) ∧ ∀ i m H2, W i m H2 →
      ((Itt K a).stop i H2 ∧ Q (.ref acc) H2) ∨ ((Itt K a).go i H2 ∧ ∃ N : Hp → Prop, (∀ H', N H' → ∃ m', m' < m ∧ W (i + 1) m' H') ∧ ∀ x H3, (Itt K a).yld i H2 x H3 → g x σ H3 fun σ2 H4 => Ext σ σ2 ∧ tt σ2 H4 fun b H5 =>
        if b = true then te σ2 H5 fun y H6 => ∃ zs, H6 acc = some (.lst zs) ∧ zs.length < sizeLine ∧ N (upd H6 acc (.lst (zs ++ [y])))
        else N H5) := by
  refine ⟨fun i m H => m = xs.length - i ∧ i ≤ xs.length ∧ Pv i H, ⟨xs.length, by simp, Nat.zero_le _, h0⟩, ?_⟩
  rintro i m H2 ⟨rfl, hi, p⟩
  have q := hl i H2 hi p
  by_cases hlt : i < xs.length
  · refine .inr ⟨⟨xs, xs[i], q, by simp [hlt]⟩, Pv (i + 1), fun H' p' => ⟨xs.length - (i + 1), by omega, rfl, hlt, p'⟩, fun x H' y => ?_⟩
    obtain ⟨e, y⟩ := y
    subst e
    exact hs i x _ (y xs q) p
  · have e : i = xs.length := by omega
    subst e
    exact .inl ⟨⟨xs, q, Nat.le_refl _⟩, hd H2 p⟩
theorem comp_range {lo : Int} {n : Nat} {acc : Addr} {g : TG} {tt : TT} {te : TE} {σ : St} {H : Hp} {Q : VK} (Pv : Nat → Hp → Prop) (h0 : Pv 0 (upd H acc (.lst [])))
    (hs : ∀ i H, i < n → Pv i H → g (.int (lo + i)) σ H fun σ2 H4 => Ext σ σ2 ∧ tt σ2 H4 fun b H5 =>
      if b = true then te σ2 H5 fun y H6 => ∃ zs, H6 acc = some (.lst zs) ∧ zs.length < sizeLine ∧ Pv (i + 1) (upd H6 acc (.lst (zs ++ [y]))) else Pv (i + 1) H5) (hd : ∀ H, Pv n H → Q (.ref acc) H) :
    ∃ W : Nat → Nat → Hp → Prop, (∃ m, W 0 m (upd H acc (.lst []))) ∧ ∀ i m H2, W i m H2 →
      ((Itr lo n).stop i H2 ∧ Q (.ref acc) H2) ∨ ((Itr lo n).go i H2 ∧ ∃ N : Hp → Prop, (∀ H', N H' → ∃ m', m' < m ∧ W (i + 1) m' H') ∧ ∀ x H3, (Itr lo n).yld i H2 x H3 → g x σ H3 fun σ2 H4 => Ext σ σ2 ∧ tt σ2 H4 fun b H5 =>
        if b = true then te σ2 H5 fun y H6 => ∃ zs, H6 acc = some (.lst zs) ∧ zs.length < sizeLine ∧ N (upd H6 acc (.lst (zs ++ [y])))
        else N H5) := by
  refine ⟨fun i m H => m = n - i ∧ i ≤ n ∧ Pv i H, ⟨n, by simp, Nat.zero_le _, h0⟩, ?_⟩
  rintro i m H2 ⟨rfl, hi, p⟩
  by_cases hlt : i < n
  · refine .inr ⟨hlt, Pv (i + 1), fun H' p' => ⟨n - (i + 1), by omega, rfl, hlt, p'⟩, fun x H' y => ?_⟩
    obtain ⟨e, y⟩ := y
    subst e y
    exact hs i _ hlt p
  · have e : i = n := by omega
    subst e
    exact .inl ⟨Nat.le_refl _, hd H2 p⟩
def compCk (sc : Scope) (env : Env) (XN N : List Str) (cap : List (Option Nat)) : Bool :=
  (sc.kind == .function) && (sc.names.all fun y => y.2 != .cell) && (sc.names.all fun y => y.2 != .local || sc.names.lookup y.1 == some .local) &&
  (sc.names.all fun y => y.2 != .free || env.kindOf y.1 == some .cell) &&
  ((List.range cap.length).all fun i => match cap[i]? with
    | some (some j) => (match N[i]? with | some x => XN[j]? == some x && sc.names.lookup x == some .free | none => false)
    | _ => true) && (cap.length == N.length)
theorem pe_compB {X : Cx} {elt tg iter : Expr} {ifs : List Expr} {sc : Scope} {pos : Pos} {wi : TI} {g : TG} {tt : TT} {te : TE} (N : List Str) (cap : List (Option Nat)) (hc : X.calm = true) (hi : PI X tg iter wi)
    (hg : ∀ cl s H C ex, PG (X.block sc cl N s H C ex) tg g) (ht : ∀ cl s H C ex, PTs (X.block sc cl N s H C ex) ifs tt) (he : ∀ cl s H C ex, PE (X.block sc cl N s H C ex) elt te)
    (ck : compCk sc X.env X.N N cap = true) (hs : ∀ x, foldedSetIterable iter X.env x = pure x := by intro _; rfl) : PE X (.ListComp elt [⟨tg, iter, ifs, 0⟩] sc pos) (tComp cap wi g tt te) := by
  unfold compCk at ck
  simp only [Bool.and_eq_true] at ck
  obtain ⟨⟨⟨⟨⟨k1, k2⟩, k3⟩, k4⟩, k5⟩, k6⟩ := ck
  refine pe_comp N cap hc hi hg ht he (by simpa using k1) (fun y hy => ?_) (fun y hy z => ?_) (fun n hn => ?_) (fun i j e => ?_) (by simpa using k6) hs
  · have := List.all_eq_true.mp k2 y hy
    simpa using this
  · have := List.all_eq_true.mp k3 y hy
    rw [z] at this
    simpa using this
  · have := List.all_eq_true.mp k4 _ hn
    simpa using this
  · have hi : i < cap.length := (List.getElem?_eq_some_iff.mp e).1
    have := List.all_eq_true.mp k5 i (List.mem_range.mpr hi)
    rw [e] at this
    dsimp only at this
    cases q : N[i]? with
    | none => rw [q] at this; cases this
    | some x =>
      rw [q] at this
      dsimp only at this
      rw [Bool.and_eq_true] at this
      exact ⟨x, rfl, by simpa using this.1, by simpa using this.2⟩
end L2
set_option Elab.async false
set_option linter.all false
set_option maxRecDepth 100000
set_option maxHeartbeats 4000000
namespace L2
open PySem PySem.Spec PyProof.Rows
section
variable {prog : Program} {w : World} {A : Around} {E : Value → Shared → Prop} {s : Shared}
theorem next_tup_item {it t : Addr} {i : Nat} {items : Array Value} {x : Value} {Q : Value → Shared → Prop} (hit : s.heap.IsTupleIter it t i) (ht : s.heap.IsTuple t items) (hx : items[i]? = some x)
    (hQ : ∀ h', h'.IsTupleIter it t (i + 1) → Heap.SameBut it s.heap h' → Q x { s with heap := h' }) : wpAny (model prog w) A (Builtin.SmallTypes.nextOf (.ref it)) Q E s := by
  obtain ⟨o, ho, hc, hd⟩ := id hit; obtain ⟨ol, hol, _, nl, hdl⟩ := ht; unfold Builtin.SmallTypes.nextOf
  refine wpAny_bind (wpAny_callSpecial?_slot (name := Str.ofString "__next__") hit.typeIs F.slot_tuple_iterator_next (wpAny_call_entry F.slot_tuple_iterator_next hit.typeIs F.entry_tuple_iterator_next ?_ (F.args_tuple_iterator_next_1 _)))
  show wpAny _ _ (field (.ref it) 0 >>= _) _ _ s; refine wpAny_bind (wpAny_field ho hd (x := .ref t) rfl ?_)
  show wpAny _ _ (if (Value.ref t == Value.none) = true then _ else _) _ _ s; rw [if_neg (show ¬ ((Value.ref t == Value.none) = true) from Bool.false_ne_true)]
  show wpAny _ _ (field (.ref it) 1 >>= _) _ _ s; refine wpAny_bind (wpAny_field ho hd (x := .int i 0) rfl ?_)
  show wpAny _ _ (seqItems? (.ref t) >>= _) _ _ s; refine wpAny_bind (wpAny_seqItems hol hdl ?_); simp only [Int.toNat_natCast, hx]
  refine wpAny_bind (wpAny_setField ho hd (by simp) (wpAny_pure ⟨x, rfl, wpAny_pure (hQ _ ?_ (Heap.SameBut.update ..))⟩))
  exact ⟨_, Heap.get?_update_self _ ho (Obj.isFreed_of_fields (Obj.data_mapFields hd _)), (Obj.cls_mapFields ..).trans hc, by rw [Obj.data_mapFields hd]; simp [rawInt]⟩
theorem next_tup_end {it t : Addr} {i : Nat} {items : Array Value} {Q : Value → Shared → Prop} (hh : A.handled = none) (hit : s.heap.IsTupleIter it t i) (ht : s.heap.IsTuple t items) (hx : items[i]? = none)
    (hE : ∀ h' e, Heap.ExtBut it s.heap h' → (∃ o, h'.get? e = some o ∧ o.cls = .type "StopIteration") → E (.ref e) { s with heap := h' }) : wpAny (model prog w) A (Builtin.SmallTypes.nextOf (.ref it)) Q E s := by
  obtain ⟨o, ho, hc, hd⟩ := id hit; obtain ⟨ol, hol, _, nl, hdl⟩ := ht; unfold Builtin.SmallTypes.nextOf
  refine wpAny_bind (wpAny_callSpecial?_slot (name := Str.ofString "__next__") hit.typeIs F.slot_tuple_iterator_next (wpAny_call_entry F.slot_tuple_iterator_next hit.typeIs F.entry_tuple_iterator_next ?_ (F.args_tuple_iterator_next_1 _)))
  show wpAny _ _ (field (.ref it) 0 >>= _) _ _ s; refine wpAny_bind (wpAny_field ho hd (x := .ref t) rfl ?_)
  show wpAny _ _ (if (Value.ref t == Value.none) = true then _ else _) _ _ s; rw [if_neg (show ¬ ((Value.ref t == Value.none) = true) from Bool.false_ne_true)]
  show wpAny _ _ (field (.ref it) 1 >>= _) _ _ s; refine wpAny_bind (wpAny_field ho hd (x := .int i 0) rfl ?_)
  show wpAny _ _ (seqItems? (.ref t) >>= _) _ _ s; refine wpAny_bind (wpAny_seqItems hol hdl ?_); simp only [Int.toNat_natCast, hx]
  refine wpAny_bind (wpAny_rule (wpAny_bind (wpAny_setField ho hd (by simp) ?_))); show wpAny _ _ (newExc (.type "StopIteration") [] >>= _) _ _ _
  refine wpAny_bind ?_; simp only [newExc, newTuple]; refine wpAny_bind (wpAny_newObj_type ?_ (by size_fits))
  refine wpAny_bind (m := firstArgMember _ _) (wpAny_of_eq (a := Value.none) (by first | rfl | (simp only [firstArgMember]; rfl)) ?_); refine wpAny_newObj_type ?_ (by size_fits)
  simp only [raiseNew]; refine wpAny_bind (wpAny_handled ?_); first | rw [show A.in1.handled = none from hh] | rw [hh]
  refine wpAny_bind (wpAny_pure (wpAny_throw ?_)); exact hE _ _ (((Heap.SameBut.update ..).extBut.push _).push _) ⟨_, Heap.get?_push_size _ rfl, rfl⟩
theorem draws_tuple {prog : Program} {w : World} {A : Around} (hh : A.handled = none) (it t : Addr) (hne : t ≠ it) (items : Array Value) :
    Draws prog w A it [it, t] items.size (fun i v => items[i]? = some v) (fun i h => h.IsTupleIter it t i ∧ h.IsTuple t items) where
  live := fun _ _ st => let ⟨o, ho, _⟩ := st.1; ⟨o, ho⟩
  frame := fun _ _ _ st hk => ⟨let ⟨o, ho, r⟩ := st.1; ⟨o, hk it (by simp) o ho, r⟩, let ⟨o, ho, r⟩ := st.2; ⟨o, hk t (by simp) o ho, r⟩⟩
  item := fun i s Q E hi st hQ => next_tup_item st.1 st.2 (x := items[i]) (by simp [hi]) fun h' hit' hs' => hQ _ h' s.toks (by simp [hi]) ⟨hit', let ⟨o, ho, r⟩ := st.2; ⟨o, hs'.extBut t o hne ho, r⟩⟩ hs'
  done := fun s Q E st hE => next_tup_end hh st.1 st.2 (by simp) hE
theorem meets_enum_tup (l : Addr) (items : Array Value) (n : Nat) (dct : Option Addr) (sl : Array (Option Value)) :
    Meets (Builtin.«enumerate.__new__» ⟨[.type "enumerate", .ref l], []⟩) (fun _ R s => s.heap.get? l = some { cls := .type "tuple", dict := dct, data := .seq items n, slots := sl } ∧
      R (.ok (.ret (.ref (s.heap.push { cls := .type "tuple_iterator", data := .fields #[.ref l, .int 0 0] }).objs.size)))
        { s with heap := (s.heap.push { cls := .type "tuple_iterator", data := .fields #[.ref l, .int 0 0] }).push { cls := .type "enumerate", data := .fields #[.none, .bool false, .ref s.heap.objs.size, rawInt 0, .none, .none] } }) :=
  .of_wp fun prog w A R s h => by
    obtain ⟨hp, g, d, tk, os⟩ := s; obtain ⟨hl, h⟩ := h; have hsub := sub_enumerate
    have hL : Heap.IsTuple (Shared.heap ⟨hp, g, d, tk, os⟩) l items := ⟨_, hl, rfl, n, rfl⟩
    wp_walk using AutoSeq1.wpAny_loadPart' hl
    refine wpAny_stack_any fun st => wpAny_pure ?_; split
    · rename_i c _ _ _ _ _; cases (c == Value.type "enumerate")
      · wp_walk using AutoSeq1.wpAny_loadPart' hl, wpAny_pyIter_tuple hL; exact ⟨_, rfl, h⟩
      · wp_walk using AutoSeq1.wpAny_loadPart' hl, wpAny_pyIter_tuple hL; exact ⟨_, rfl, h⟩
    · wp_walk using AutoSeq1.wpAny_loadPart' hl, wpAny_pyIter_tuple hL; exact ⟨_, rfl, h⟩
theorem call_enum_tup {l : Addr} {items : Array Value} {Q : Value → Shared → Prop} (hL : s.heap.IsTuple l items)
    (h : ∀ h', IsEnum h' (s.heap.objs.size + 1) s.heap.objs.size 0 .none → h'.IsTupleIter s.heap.objs.size l 0 → h'.objs.size = s.heap.objs.size + 2 →
      (∀ b o, s.heap.get? b = some o → h'.get? b = some o) → Q (.ref (s.heap.objs.size + 1)) { s with heap := h' }) : wpAny (model prog w) A (call (.type "enumerate") [.ref l]) Q E s := by
  obtain ⟨⟨c, dct, dt, sl⟩, hl, hc, n, hd⟩ := hL; replace hc : c = .type "tuple" := hc; replace hd : dt = .seq items n := hd; subst hc hd
  refine callType_new F.called_enumerate (by decide) (F.typeCall_enumerate_1 _) (F.newCall_enumerate_1 _) (fun obj => F.args_object_init_2 obj _) F.entry_enumerate_new (meets_enum_tup l items n dct sl) ⟨hl, ?_⟩
  have hz : (s.heap.push { cls := .type "tuple_iterator", data := .fields #[.ref l, .int 0 0] }).objs.size = s.heap.objs.size + 1 := Heap.size_push ..
  show _ ∧ _
  rw [hz]
  have he : IsEnum ((s.heap.push { cls := .type "tuple_iterator", data := .fields #[.ref l, .int 0 0] }).push { cls := .type "enumerate", data := .fields #[.none, .bool false, .ref s.heap.objs.size, rawInt 0, .none, .none] }) (s.heap.objs.size + 1) s.heap.objs.size 0 .none := by
    have := Heap.get?_push_size (s.heap.push { cls := .type "tuple_iterator", data := .fields #[.ref l, .int 0 0] }) (o := { cls := .type "enumerate", data := .fields #[.none, .bool false, .ref s.heap.objs.size, rawInt 0, .none, .none] }) rfl
    rw [hz] at this; exact this
  exact ⟨⟨_, he, rfl⟩, h _ he ⟨_, Heap.get?_push_of_some _ (Heap.get?_push_size _ rfl), rfl, rfl⟩ (by rw [Heap.size_push, hz]) fun b o x => Heap.get?_push_of_some _ (Heap.get?_push_of_some _ x)⟩
end
section
variable {X : Cx} {pins : List (Addr × Obj)} {σ : St} {H : Hp} {s : Shared} {h' : Heap}
theorem Inv.turnedN {t' : Nat} {ch : List Addr} (I : Inv X pins σ H s) (k : ∀ b o, b ∉ ch → s.heap.get? b = some o → h'.get? b = some o) (hf : ∀ b ∈ ch, FpOk X pins H b) : Inv X pins σ H { s with heap := h', toks := t' } := by
  refine I.step (g' := s.gens) (d' := s.drawn) (ch := ch) (fun b hb => ?_) (fun b o _ _ hc e _ => k b o hc e) (fun b o _ _ hc e _ => ⟨o.slots, k b o hc e⟩) (fun _ _ _ _ n => n)
    (fun b o hc e => ⟨o, k b o hc e⟩) (fun _ _ e => e) (fun _ _ _ e => e) (fun b ps e => ⟨#[], by rw [e]; simp⟩) (fun m hm => ?_) (fun b u e => ?_) I.bare
  · obtain ⟨f0, f1, f2, f3, f4, f5⟩ := hf b hb
    exact ⟨f3, f1, f4, f5⟩
  · obtain ⟨o, es, ep, ho, r⟩ := hm
    exact ⟨o, es, ep, k _ o (fun z => (hf _ z).2.1 rfl) ho, r⟩
  · refine (I.hok b u e).stay (fun c v hc q => k c v (fun z => ?_) q) (fun _ q => q) fun _ _ q => q
    have n := (hf c z).1
    rcases hc with y | y
    · rw [y, e] at n; cases n
    · rw [y] at n; cases n
theorem Inv.turnedL {t' : Nat} {ch : List Addr} {a : Addr} {o : HO} (I : Inv X pins σ H s) (k : ∀ b o, b ∉ ch → s.heap.get? b = some o → h'.get? b = some o) (hf : ∀ b ∈ ch, FpOk X pins H b) (hp : s.heap.objs.size ≤ a)
    (new : ObjOk X.prog X.w (upd H a o) h' a o) : Inv X pins σ (upd H a o) { s with heap := h', toks := t' } := by
  have hn : H a = none := I.hok.fresh hp
  have ne : ∀ b u, s.heap.get? b = some u → b ≠ a := fun b u e => Nat.ne_of_lt (Nat.lt_of_lt_of_le (Heap.lt_size e) hp)
  refine I.step (g' := s.gens) (d' := s.drawn) (ch := ch) (fun b hb => ?_) (fun b o _ _ hc e _ => k b o hc e) (fun b o _ _ hc e _ => ⟨o.slots, k b o hc e⟩) (fun b u _ e n => by rw [upd_ne (ne b u e)]; exact n)
    (fun b o hc e => ⟨o, k b o hc e⟩) (fun b xs q => by rw [upd_ne (ne_of_none q hn)]; exact q) (fun b u xs q => by rw [upd_ne (ne_of_none q hn)]; exact q) (fun b ps q => ⟨#[], by rw [upd_ne (ne_of_none q hn), q]; simp⟩) (fun m hm => ?_) (fun b u e => ?_) I.bare
  · obtain ⟨f0, f1, f2, f3, f4, f5⟩ := hf b hb
    exact ⟨f3, f1, f4, f5⟩
  · obtain ⟨o, es, ep, ho, r⟩ := hm
    exact ⟨o, es, ep, k _ o (fun z => (hf _ z).2.1 rfl) ho, r⟩
  · by_cases hb : b = a
    · subst hb
      rw [upd_same] at e
      cases e
      exact new
    · rw [upd_ne hb] at e
      refine (I.hok b u e).stay (fun c v hc q => k c v (fun z => ?_) q) (fun c q => by rw [upd_ne (ne_of_none q hn)]; exact q) fun c xs q => by rw [upd_ne (ne_of_none q hn)]; exact q
      have n := (hf c z).1
      rcases hc with y | y
      · rw [y, e] at n; cases n
      · rw [y] at n; cases n
end
def Ite (K : PySem.W.Frag) (a : Addr) : It :=
  ⟨fun i H => ∃ xs x, SqT K H a xs ∧ xs[i]? = some x, fun i H x H' => ∃ T y, H T = none ∧ x = .ref T ∧ H' = upd H T (.tup [.int i, y]) ∧ ∀ xs, SqT K H a xs → xs[i]? = some y, fun i H => ∃ xs, SqT K H a xs ∧ xs.length ≤ i⟩
theorem turn_enum {P : Program} {w : World} {K : PySem.W.Frag} {es : List Expr} {k : Nat} {pos : Pos} (a e it : Addr) (hei : e ≠ it) :
    Turn P w K (.Tuple es k pos) (Ite K a) [e, it] e (fun i h => (∃ old, IsEnum h e it i old) ∧ h.IsTupleIter it a i) where
  mem := by simp
  obj := fun i h st b hb => by
    obtain ⟨⟨old, z⟩, o, e', c, d⟩ := st
    rcases List.mem_cons.mp hb with y | y
    · subst y; exact ⟨_, z, fun v q => by have q' : Data.fields _ = Data.cell v := q; cases q'⟩
    · cases List.mem_singleton.mp y
      exact ⟨o, e', fun v q => by rw [d] at q; cases q⟩
  keep := fun i h h' st k => by
    obtain ⟨⟨old, z⟩, o, e', r⟩ := st
    exact ⟨⟨old, k e (by simp) _ z⟩, o, k it (by simp) o e', r⟩
  item := by
    intro X hP hw hK hc i pins s σ H E I hf st hg
    subst hP hw hK
    obtain ⟨xs, x, hq, hx⟩ := hg
    obtain ⟨its, rv, p, hz⟩ := I.tuple hq
    obtain ⟨u, hu, ru⟩ := rv.get hx
    obtain ⟨⟨old, he⟩, hit⟩ := st
    have p' : s.heap.IsTuple a its.toArray := p
    have hai : a ≠ it := fun z => by
      obtain ⟨o1, q1, c1, _⟩ := p'
      obtain ⟨o2, q2, c2, _⟩ := hit
      rw [z, q2] at q1; cases q1; rw [c2] at c1; injection c1 with c3; exact absurd c3 (by decide)
    have hae : a ≠ e := fun z => by
      obtain ⟨o1, q1, c1, _⟩ := p'
      rw [z] at q1
      have he' : s.heap.get? e = some _ := he
      rw [he'] at q1; cases q1; injection c1 with c3; exact absurd c3 (by decide)
    have hilt : i < its.toArray.size := by
      have := (List.getElem?_eq_some_iff.mp hu).1
      simpa using this
    refine wpAny_pyNext_enum_itemD (draws_tuple (A := X.A.in1) (I.ok.hd hc) it a hai its.toArray) he ⟨hit, p'⟩ hilt hei (by simp [hei, Ne.symm hae]) fun y h1 tk hy ho hst hT hsz hk => ?_
    have hyu : y = u := by
      have : (its.toArray)[i]? = some u := by simpa using hu
      rw [hy] at this; exact Option.some.inj this
    subst hyu
    refine ⟨_, rfl, ?_⟩
    have hn : H s.heap.objs.size = none := I.fresh
    have I1 : Inv X pins σ (upd H s.heap.objs.size (.tup [.int i, x])) { s with heap := h1, toks := tk + 1 } := I.turnedL (ch := [e, it]) (fun b o hb q => hk b o (fun z => hb (by simp [z])) (fun z => hb (by simp [z])) q) hf (Nat.le_refl _)
      ⟨Nat.le_of_lt (small1000 (show 2 ≤ 1000 by decide)), [.int i tk, y], .cons ⟨_, rfl⟩ (.cons ru .nil), _, hT, rfl, _, rfl⟩
    have neT : ∀ b ∈ [e, it], b ≠ s.heap.objs.size := fun b hb => by
      rcases List.mem_cons.mp hb with z | z
      · subst z; exact Nat.ne_of_lt (Heap.lt_size (show s.heap.get? b = some _ from he))
      · cases List.mem_singleton.mp z
        obtain ⟨o2, q2, _⟩ := hit
        exact Nat.ne_of_lt (Heap.lt_size q2)
    refine wpAny_letOwnedTupleGo_enum (s := { s with heap := h1, toks := tk + 1 }) ho fun h2 he2 hs2 => ⟨.ref s.heap.objs.size, _, ?_, rfl, ⟨_, x, hn, rfl, rfl, fun ys hy' => by rw [I.tuple_inj hy' hq]; exact hx⟩, ⟨⟨_, he2⟩, ?_⟩, fun b hb => ?_⟩
    · refine I1.turnedN (t' := tk + 1) (ch := [e]) (fun b o hb q => (hs2.2 b (fun z => hb (by simp [z]))).trans q) fun b hb => ?_
      have eb := List.mem_singleton.mp hb
      subst eb
      obtain ⟨f0, f⟩ := hf b (by simp)
      exact ⟨by rw [upd_ne (neT b (by simp))]; exact f0, f⟩
    · obtain ⟨o2, q2, r2⟩ := hst.1
      exact ⟨o2, (hs2.2 it hei.symm).trans q2, r2⟩
    · rw [upd_ne (neT b hb)]; exact (hf b hb).1
  done := by
    intro X hP hw hK hc i pins s σ H E I hf st hg
    subst hP hw hK
    obtain ⟨xs, hq, hx⟩ := hg
    obtain ⟨its, rv, p, hz⟩ := I.tuple hq
    obtain ⟨⟨old, he⟩, hit⟩ := st
    have p' : s.heap.IsTuple a its.toArray := p
    have hai : a ≠ it := fun z => by
      obtain ⟨o1, q1, c1, _⟩ := p'
      obtain ⟨o2, q2, c2, _⟩ := hit
      rw [z, q2] at q1; cases q1; rw [c2] at c1; injection c1 with c3; exact absurd c3 (by decide)
    have hl := rv.length
    have hT : s.TypeIs (.ref e) "enumerate" := ⟨_, he, rfl⟩
    unfold pyNext
    refine wpAny_bind (wpAny_attempt (wpAny_callSpecial?_slot (name := Str.ofString "__next__") hT F.slot_enumerate_next (wpAny_call_entry F.slot_enumerate_next hT F.entry_enumerate_next ?_ (F.args_enumerate_next_1 _))))
    show wpAny _ _ (field (.ref e) 2 >>= _) _ _ _
    refine wpAny_bind (wpAny_field he rfl (x := .ref it) rfl ?_)
    refine wpAny_bind (next_tup_end (I.ok.hd hc) hit p' (by simp; omega) fun h1 x hx1 ⟨o, ho, hc'⟩ => ?_)
    refine wpAny_bind (wpAny_isInstance (T := "StopIteration") (b := true) ⟨o, ho, hc'⟩ isSubtype_stop ?_)
    exact wpAny_pure ⟨rfl, I.turnedN (t' := s.toks) (ch := [it]) (fun b o hb q => hx1 b o (fun z => hb (by simp [z])) q) fun b hb => hf b (by simp at hb ⊢; exact .inr hb)⟩
  self := fun _ _ _ _ _ st h => let ⟨⟨_, he⟩, _⟩ := st; wpAny_pyIter_enum he h
def iEnum (K : PySem.W.Frag) (ta : TA) : TI := fun σ H R => ta σ H fun vs H1 => ∃ a, vs = [.ref a] ∧ (∃ xs, SqT K H1 a xs) ∧ R (Ite K a) H1
theorem pi_enum {X : Cx} {es : List Expr} {k : Nat} {tpos : Pos} {a : Expr} {ta : TA} {p pos : Pos} (hg : Gl X "enumerate") (hm : X.mg "enumerate" = none) (ha : PA X [a] ta) (hs : starEach [a] X.env = [(false, eval a X.env)] := by rfl) :
    PI X (.Tuple es k tpos) (.Call (.Name "enumerate" p) [a] [] pos) (iEnum X.K ta) := by
  intro pins s σ H R I h
  refine Call_ (ld_blt I hg hm boot_enumerate (PyProof.Rows.callWith_type1 (thn (ha pos pins s σ H _ I h) fun us s1 ⟨vs, H1, I1, r1, q1⟩ => ?_) hs rfl))
  obtain ⟨b, e, ⟨xs, hq⟩, q⟩ := q1
  subst e
  obtain ⟨u, rfl, ru⟩ := vals1 r1
  cases ru
  obtain ⟨its, rv, tp, hz⟩ := I1.tuple hq
  refine call_enum_tup (show s1.heap.IsTuple b its.toArray from tp) fun h' he hit hsz hk => ?_
  refine wpAny_pyIter_enum he ⟨_, [s1.heap.objs.size + 1, s1.heap.objs.size], _, _, H1, rfl, I1.kept (t' := s1.toks) hk, turn_enum b _ _ (Nat.succ_ne_self _), ⟨⟨_, he⟩, hit⟩, fun c hc => ?_, q⟩
  have ge : s1.heap.objs.size ≤ c := by
    rcases List.mem_cons.mp hc with z | z
    · rw [z]; exact Nat.le_succ _
    · rw [List.mem_singleton.mp z]; exact Nat.le_refl _
  exact I1.fpOk ge (I1.hok.fresh ge)
theorem for_enum {K : PySem.W.Frag} {a : Addr} {xs : List V} {g : TG} {tb : TS} {D : Ends} {σ : St} {H : Hp} (Pv : Nat → St → Hp → Prop) (h0 : Pv 0 σ H) (hl : ∀ i σ H, i ≤ xs.length → Pv i σ H → SqT K H a xs)
    (hs : ∀ i x T σ H, xs[i]? = some x → Pv i σ H → H T = none → g (.ref T) σ (upd H T (.tup [.int i, x])) fun σ2 H2 => tb { D with nx := Pv (i + 1), ct := Pv (i + 1), bk := D.nx } σ2 H2) (hd : ∀ σ H, Pv xs.length σ H → D.nx σ H) :
    ∃ W : Nat → Nat → St → Hp → Prop, (∃ m, W 0 m σ H) ∧ ∀ i m σ H, W i m σ H →
      ((Ite K a).stop i H ∧ D.nx σ H) ∨ ((Ite K a).go i H ∧ ∃ N : St → Hp → Prop, (∀ σ' H', N σ' H' → ∃ m', m' < m ∧ W (i + 1) m' σ' H') ∧ ∀ x H', (Ite K a).yld i H x H' → g x σ H' fun σ2 H2 => tb { D with nx := N, ct := N, bk := D.nx } σ2 H2) := by
  refine ⟨fun i m σ H => m = xs.length - i ∧ i ≤ xs.length ∧ Pv i σ H, ⟨xs.length, by simp, Nat.zero_le _, h0⟩, ?_⟩
  rintro i m σ H ⟨rfl, hi, p⟩
  have q := hl i σ H hi p
  by_cases hlt : i < xs.length
  · refine .inr ⟨⟨xs, xs[i], q, by simp [hlt]⟩, Pv (i + 1), fun σ' H' p' => ⟨xs.length - (i + 1), by omega, rfl, hlt, p'⟩, fun x H' y => ?_⟩
    obtain ⟨T, z, hT, ex, eH, y⟩ := y
    subst ex eH
    exact hs i z T σ H (y xs q) p hT
  · have e : i = xs.length := by omega
    subst e
    exact .inl ⟨⟨xs, q, Nat.le_refl _⟩, hd σ H p⟩
end L2
set_option Elab.async false
set_option linter.all false
set_option maxRecDepth 100000
set_option maxHeartbeats 4000000
namespace L2
open PySem PySem.Spec PyProof.Rows
section
variable {X : Cx}
theorem same_upd {H : Hp} {p : Addr} {o : HO} (h : H p = none) : Same H (upd H p o) := fun b u q => by rw [upd_ne (ne_of_none q h)]; exact q
def rIsi (K : PySem.W.Frag) : List V → Hp → VK → Prop := fun xs H Q => ∃ x T t b, xs = [x, .ty T] ∧ TyOf K H x t ∧ PySem.W.kitOne K t (.type T) = some b ∧ Q (.bl b) H
theorem call_isi : CallR X (.builtin "isinstance") (rIsi X.K) := by
  intro pins s σ H xs us Q I r h
  obtain ⟨x, T, t, b, rfl, ty, e, q⟩ := h
  obtain ⟨u, w', rfl, ru, rw'⟩ := vals2 r
  cases rw'
  exact isinst_ok I ru ty e fun tk => ⟨.bl b, H, I.tok tk, rfl, q⟩
def rSlS : V → Option Int → Option Int → Hp → VK → Prop := fun x lo hi H Q => ∃ z, x = .str z ∧ z.length ≤ sizeLine ∧ ((Txt.slice z lo hi).length ≤ z.length → Q (.str (Txt.slice z lo hi)) H)
theorem part_of {v : Value} {o : Option Int} (p : IsPart v o) : ∃ q : Option (Int × Tok), q.map (·.1) = o ∧ v = (match q with | none => Value.none | some (i, t) => .int i t) := by
  cases p with
  | none => exact ⟨none, rfl, rfl⟩
  | int i t => exact ⟨some (i, t), rfl, rfl⟩
theorem sl_str : SlR X rSlS := by
  intro pins s σ H x v vl vu lo hi sl Q I rx hs pl pu h
  obtain ⟨z, rfl, hz, q⟩ := h
  obtain ⟨t, rfl⟩ := rx
  obtain ⟨l, hl, el⟩ := part_of pl
  obtain ⟨u, hu, eu⟩ := part_of pu
  subst hl hu
  refine ⟨"str", _, F.slot_str_getitem.lookup, typeIs_str _ _ _, wpAny_getItem_str_slice (l := l) (u := u) (st := none) ?_ rfl (post_val_or_str ⟨Nat.le_trans (Txt.slice_le z _ _) hz, fun t' k => ⟨.str (Txt.slice z _ _), H, I.kept (fun _ _ e => e), ⟨t', rfl⟩, q (Txt.slice_le z _ _)⟩⟩)⟩
  obtain ⟨o, ho, hc, hd⟩ := hs
  refine ⟨o, ho, hc, ?_⟩
  rw [hd, el, eu]
  cases l <;> cases u <;> rfl
theorem eqV_str (a b : Str) : eqV (.str a) (.str b) = true ↔ a = b := by
  constructor
  · intro h; simpa [eqV] using h
  · intro h; subst h; simp [eqV]
theorem flat_strs (xs : List Str) : (xs.map V.str).all flatV = true := by
  rw [List.all_eq_true]
  intro x hx
  obtain ⟨y, _, rfl⟩ := List.mem_map.mp hx
  rfl
def rSortD : List V → Hp → VK → Prop := fun xs H Q => ∃ (d : Addr) (kvs : List (Key × V)) (ks : List Str), xs = [.ref d] ∧ H d = some (.dK kvs) ∧ kvs.map (·.1) = ks.map Sum.inr ∧ ks.length < 64 ∧
  ∀ (l : Addr) (ss : List Str), H l = none → ss.Perm ks → ss.Pairwise (fun a b => ltCps b.cps.toList a.cps.toList = false) → Q (.ref l) (upd H l (.lst (ss.map V.str)))
theorem strs_of {P : Program} {w : World} : ∀ {vs : List (Key × Value)} {ks : List Str} {us : List Value}, vs.map (·.1) = ks.map Sum.inr → us.length = vs.length →
    (∀ (j : Nat) (v : Value), us[j]? = some v → ∃ k x, vs[j]? = some (k, x) ∧ (mixKind P w).is k v = true) → StrsAre us ks
  | [], [], [], _, _, _ => .nil
  | (k, x) :: vs, y :: ks, u :: us, e, hl, h => by
    have e1 : k = Sum.inr y := (List.cons.inj e).1
    have e2 : vs.map (·.1) = ks.map Sum.inr := (List.cons.inj e).2
    obtain ⟨k', x', q, m⟩ := h 0 u rfl
    have q' : (k, x) = (k', x') := Option.some.inj q
    cases q'
    subst e1
    rcases keyIs_shape (show keyIs (Sum.inr y) u = true from m) with ⟨i, t, z, _⟩ | ⟨z, t, z1, z2⟩
    · cases z
    · cases z1
      subst z2
      exact .cons _ t (strs_of e2 (by simpa using hl) fun j v hv => h (j + 1) v (by simpa using hv))
  | [], _ :: _, _, e, _, _ => nomatch e
  | _ :: _, [], _, e, _, _ => nomatch e
  | [], [], _ :: _, _, e, _ => nomatch e
  | _ :: _, _ :: _, [], _, e, _ => nomatch e
theorem vals_strs : ∀ {us : List Value} {ks : List Str}, StrsAre us ks → Vals (ks.map V.str) us
  | _, _, .nil => .nil
  | _, _, .cons y t r => .cons ⟨t, rfl⟩ (vals_strs r)
theorem cps_trans {a b c : Str} (h1 : ltCps b.cps.toList a.cps.toList = false) (h2 : ltCps c.cps.toList b.cps.toList = false) : ltCps c.cps.toList a.cps.toList = false := by
  rw [ltCps_eq, decide_eq_false_iff_not] at *
  exact List.le_trans (l₁ := a.cps.toList) (l₂ := b.cps.toList) (l₃ := c.cps.toList) h1 h2
theorem rising_all : ∀ (p : Str) (l : List Str), risingS p l = true → (p :: l).Pairwise (fun a b => ltCps b.cps.toList a.cps.toList = false)
  | p, [], _ => by simp
  | p, x :: r, h => by
    have h' : (!ltCps x.cps.toList p.cps.toList && risingS x r) = true := h
    rw [Bool.and_eq_true] at h'
    have h1 : ltCps x.cps.toList p.cps.toList = false := by simpa using h'.1
    have ih := rising_all x r h'.2
    refine List.pairwise_cons.mpr ⟨fun y hy => ?_, ih⟩
    rcases List.mem_cons.mp hy with z | z
    · subst z; exact h1
    · exact cps_trans h1 ((List.pairwise_cons.mp ih).1 y z)
theorem pairwise_sorted : ∀ {l : List Str}, sortedS l = true → l.Pairwise (fun a b => ltCps b.cps.toList a.cps.toList = false)
  | [], _ => .nil
  | x :: r, h => rising_all x r h
theorem kv_keys {kvs : List (Key × V)} {vs : List (Key × Value)} (h : KV kvs vs) : kvs.map (·.1) = vs.map (·.1) := by
  unfold KV at h
  induction h with
  | nil => rfl
  | cons r _ ih => simp [r.1, ih]
theorem call_sortedD (hc : X.calm = true) : CallR X (.builtin "sorted") rSortD := by
  intro pins s σ H xs us Q I r h
  obtain ⟨d, kvs, ks, rfl, hd, hk, h64, q⟩ := h
  obtain ⟨u, rfl, ru⟩ := vals1 r
  cases ru
  obtain ⟨hz, hsm, vs, kv, hdo⟩ := (show ObjOk X.prog X.w H s.heap d (.dK kvs) from I.hok d _ hd)
  obtain ⟨ep, hat⟩ := hdo.dictAt
  have hks : vs.map (·.1) = ks.map Sum.inr := by rw [← kv_keys kv]; exact hk
  have hn : vs.length = ks.length := by have := congrArg List.length hks; simpa using this
  have line : vs.length ≤ sizeLine := Nat.le_of_lt (small1000 (by omega))
  refine Calls.call_function_entry kind_sorted plain_sorted entry_sorted (args_sorted1 _) ?_
  unfold Builtin.«sorted»
  refine wpAny_bind (m := checkCount "sorted" 1 1 _) (wpAny_pure ?_)
  refine wpAny_bind (PySem.W.kdu_collect (A := X.A.in1) (PySem.W.kdl_dict (knd := mixKind X.prog X.w) (kvs := vs) (ep := ep) hsm) (I.ok.hd hc) hat line fun h1 tk acc hk1 hacc => ?_)
  have la : acc.toList.length = vs.length := by rw [Array.length_toList]; exact hacc.1
  have hS : StrsAre acc.toList ks := strs_of (P := X.prog) (w := X.w) hks la fun j v hv => hacc.2 j v (by rw [← Array.getElem?_toList]; exact hv)
  have I1 : Inv X pins σ H { s with heap := h1, toks := tk } := I.kept hk1
  refine wpAny_bind (wpAny_newList ?_ (by rw [la]; exact line))
  have hoL : (h1.push { cls := .type "list", data := .seq acc.toList.toArray }).get? h1.objs.size = some (seqObj "list" acc.toList.toArray 0) := Heap.get?_push_size _ rfl
  refine wpAny_bind (wpAny_holding (wpAny_call_entry slot_list_sort ⟨_, hoL, rfl⟩ entry_list_sort (list_sort_treeK strKind_oneLt hoL hS.keysOf (fun a b rest e => keyKind_strs (ss := ks) (by rw [← e]; exact hS)) (by rw [la, hn]; exact h64) fun st' a1 a2 => ⟨_, rfl, ?_⟩) (args_list_sort _)))
  obtain ⟨ss, b1, b2, b3⟩ := sorted_out_str hS a1 a2
  obtain ⟨e, he⟩ : ∃ e, (sortedHeap (h1.push { cls := .type "list", data := .seq acc.toList.toArray }) h1.objs.size acc.toList ((arrOf st').map (·.2))).get? h1.objs.size = some (seqObj "list" ((arrOf st').map (·.2)) e) := sortedHeap_at hoL
  refine wpAny_pure ⟨_, rfl, ⟨.ref h1.objs.size, upd H h1.objs.size (.lst (ss.map V.str)), I1.laid (t' := tk) (a := h1.objs.size) (o := .lst (ss.map V.str)) (fun b o hb => ?_) (Nat.le_refl _) ⟨?_, _, e, vals_strs b1, ?_⟩, rfl, q _ ss (I1.hok.fresh (Nat.le_refl _)) b2 (pairwise_sorted b3)⟩⟩
  · rw [sortedHeap_old (Nat.ne_of_lt (Heap.lt_size hb)) (by rw [Heap.size_push]; exact Nat.lt_succ_of_lt (Heap.lt_size hb))]
    exact Heap.get?_push_of_some _ hb
  · rw [List.length_map, b2.length_eq]
    exact Nat.le_of_lt (small1000 (by omega))
  · rw [he]
end
end L2
set_option Elab.async false
set_option linter.all false
set_option maxRecDepth 100000
set_option maxHeartbeats 4000000
namespace L2
open PySem PySem.Spec PyProof.Rows
structure FnB (P : Program) (w : World) (K : PySem.W.Frag) (mg : Str → Option Value) (base : Heap) (k : Nat) (x : Str) (f : Addr) (fd : FuncData) (ps : List Str) (sp : Sp) : Prop where
  ok : FnOk P w K mg base CX0 k f fd ps sp
  bd : Binds K fd ps []
  kp : PySem.W.keepIn K (.ref f) = true
  gl : mg x = some (.ref f)
theorem FnB.up {P : Program} {w : World} {K : PySem.W.Frag} {mg : Str → Option Value} {base : Heap} {j k : Nat} {x : Str} {f : Addr} {fd : FuncData} {ps : List Str} {sp : Sp} (F : FnB P w K mg base j x f fd ps sp) (h : j ≤ k) : FnB P w K mg base k x f fd ps sp :=
  ⟨F.ok.mono h, F.bd, F.kp, F.gl⟩
def Tk (H H' : Hp) : Prop := ∀ b xs, H b = some (.tup xs) → H' b = some (.tup xs)
theorem Tk.refl (H : Hp) : Tk H H := fun _ _ h => h
theorem Tk.trans {H H1 H2 : Hp} (a : Tk H H1) (b : Tk H1 H2) : Tk H H2 := fun c xs h => b c xs (a c xs h)
theorem Same.tk {H H' : Hp} (h : Same H H') : Tk H H' := fun b xs e => h b _ e
theorem Tk.lst {H : Hp} {p : Addr} {xs : List V} {o : HO} (h : H p = some (.lst xs)) : Tk H (upd H p o) := fun b ys e => by
  rw [upd_ne (fun z => by subst z; rw [h] at e; cases e)]; exact e
theorem Tk.dk {H : Hp} {p : Addr} {kvs : List (Key × V)} {o : HO} (h : H p = some (.dK kvs)) : Tk H (upd H p o) := fun b ys e => by
  rw [upd_ne (fun z => by subst z; rw [h] at e; cases e)]; exact e
section
variable {X : Cx}
def rCatV : R2 := fun x y H Q => ∃ a b xs ys, x = .ref a ∧ y = .ref b ∧ H a = some (.tup xs) ∧ H b = some (.tup ys) ∧ xs.length + ys.length ≤ sizeLine ∧
  ∀ p H', Same H H' → H' p = some (.tup (xs ++ ys)) → Q (.ref p) H'
theorem op_catV : OpR X (binaryOp .Add) rCatV := by
  intro pins s σ H x y v u Q I rx ry h
  obtain ⟨a, b, xs, ys, rfl, rfl, ha, hb, hz, q⟩ := h
  by_cases hx : xs = []
  · subst hx
    cases rx
    cases ry
    obtain ⟨its, r1, p1, _⟩ := I.tuple (SqT.of ha)
    obtain ⟨its2, r2, p2, _⟩ := I.tuple (SqT.of hb)
    have e0 : its = [] := r1.nil_iff.mpr rfl
    subst e0
    obtain ⟨⟨cls, dd, data, sl⟩, ho, hc, n, hd⟩ := id p1
    obtain ⟨⟨cls2, dd2, data2, sl2⟩, ho2, hc2, n2, hd2⟩ := id p2
    simp only at hc hd hc2 hd2
    subst hc hd hc2 hd2
    exact concat_meets ⟨_, ho, rfl⟩ ⟨_, ho2, rfl⟩ noFill_tuple_add seq_tuple_add PySem.F.slot_tuple_add PySem.F.entry_tuple_add (PySem.F.args_tuple_add_2 _ _) (tuple_addW0 a b _ _ n n2 dd dd2 sl sl2 rfl) ⟨ho, ho2, ⟨.ref b, H, I, rfl, q b H (.refl H) hb⟩⟩
  · refine op_catT pins s σ H (.ref a) (.ref b) v u Q I rx ry ⟨a, b, xs, ys, rfl, rfl, SqT.of ha, SqT.of hb, hx, hz, fun e => ?_, fun e p hp => ?_⟩
    · subst e
      exact q a H (.refl H) (by rw [List.append_nil]; exact ha)
    · exact q p _ (same_upd hp) upd_same
def rSlV : V → Option Int → Option Int → Hp → VK → Prop := fun x lo hi H Q => ∃ a xs, x = .ref a ∧ H a = some (.tup xs) ∧
  ¬ (HT.sIx xs.length 0 lo = 0 ∧ HT.sIx xs.length xs.length hi = xs.length) ∧ ∀ p H', Same H H' → H' p = some (.tup (cutV xs lo hi)) → Q (.ref p) H'
theorem sl_tupV : SlR X rSlV := by
  intro pins s σ H x v vl vu lo hi sl Q I rx hs pl pu h
  obtain ⟨a, xs, rfl, ha, hw, q⟩ := h
  exact sl_tup pins s σ H (.ref a) v vl vu lo hi sl Q I rx hs pl pu ⟨a, xs, rfl, SqT.of ha, hw, fun p hp => q p _ (same_upd hp) upd_same⟩
end
inductive Atom where
  | name (x : Str) | num (n : Int) | gap (g : Str)
inductive Bin where
  | add | sub | mul | thn
def Bin.s : Bin → Str
  | .add => "add" | .sub => "sub" | .mul => "mul" | .thn => "then"
inductive Tr where
  | num (n : Int) | name (x : Str) | ask (x : Str) | stop (x : Str) | gap (g : Str) (as : List Atom)
  | say (a : Tr) | bin (o : Bin) (a b : Tr) | ite (a b c : Tr) | lett (x : Str) (a b : Tr)
def AtRep (H : Hp) : Atom → V → Prop
  | .name x, v => ∃ a, v = .ref a ∧ H a = some (.tup [.str "name", .str x])
  | .num n, v => ∃ a, v = .ref a ∧ H a = some (.tup [.str "num", .int n])
  | .gap g, v => ∃ a b, v = .ref a ∧ H a = some (.tup [.str "gap", .str g, .ref b]) ∧ H b = some (.tup [])
def Rep (H : Hp) : Tr → V → Prop
  | .num n, v => ∃ a, v = .ref a ∧ H a = some (.tup [.str "num", .int n])
  | .name x, v => ∃ a, v = .ref a ∧ H a = some (.tup [.str "name", .str x])
  | .ask x, v => ∃ a, v = .ref a ∧ H a = some (.tup [.str "ask", .str x])
  | .stop x, v => ∃ a, v = .ref a ∧ H a = some (.tup [.str "stop", .str x])
  | .gap g as, v => ∃ a b us, v = .ref a ∧ H a = some (.tup [.str "gap", .str g, .ref b]) ∧ H b = some (.tup us) ∧ us.length ≤ 1000 ∧ Paired (AtRep H) as us
  | .say t, v => ∃ a u, v = .ref a ∧ H a = some (.tup [.str "say", u]) ∧ Rep H t u
  | .bin o s t, v => ∃ a u w, v = .ref a ∧ H a = some (.tup [.str o.s, u, w]) ∧ Rep H s u ∧ Rep H t w
  | .ite r s t, v => ∃ a u w z, v = .ref a ∧ H a = some (.tup [.str "if", u, w, z]) ∧ Rep H r u ∧ Rep H s w ∧ Rep H t z
  | .lett x s t, v => ∃ a u w, v = .ref a ∧ H a = some (.tup [.str "let", .str x, u, w]) ∧ Rep H s u ∧ Rep H t w
theorem AtRep.mono {H H' : Hp} (k : Tk H H') : ∀ {t : Atom} {v : V}, AtRep H t v → AtRep H' t v
  | .name _, _, ⟨a, e, h⟩ => ⟨a, e, k _ _ h⟩
  | .num _, _, ⟨a, e, h⟩ => ⟨a, e, k _ _ h⟩
  | .gap _, _, ⟨a, b, e, h, h'⟩ => ⟨a, b, e, k _ _ h, k _ _ h'⟩
theorem Rep.mono {H H' : Hp} (k : Tk H H') : ∀ {t : Tr} {v : V}, Rep H t v → Rep H' t v
  | .num _, _, ⟨a, e, h⟩ => ⟨a, e, k _ _ h⟩
  | .name _, _, ⟨a, e, h⟩ => ⟨a, e, k _ _ h⟩
  | .ask _, _, ⟨a, e, h⟩ => ⟨a, e, k _ _ h⟩
  | .stop _, _, ⟨a, e, h⟩ => ⟨a, e, k _ _ h⟩
  | .gap _ _, _, ⟨a, b, us, e, h, h', n, p⟩ => ⟨a, b, us, e, k _ _ h, k _ _ h', n, Paired.mapP p fun _ _ z => z.mono k⟩
  | .say _, _, ⟨a, u, e, h, r⟩ => ⟨a, u, e, k _ _ h, r.mono k⟩
  | .bin _ _ _, _, ⟨a, u, w, e, h, r, s⟩ => ⟨a, u, w, e, k _ _ h, r.mono k, s.mono k⟩
  | .ite _ _ _, _, ⟨a, u, w, z, e, h, r, s, t⟩ => ⟨a, u, w, z, e, k _ _ h, r.mono k, s.mono k, t.mono k⟩
  | .lett _ _ _, _, ⟨a, u, w, e, h, r, s⟩ => ⟨a, u, w, e, k _ _ h, r.mono k, s.mono k⟩
inductive Kd where
  | num | name | ask | stop | gap | say | add | sub | mul | thn | ite | lett
  deriving DecidableEq
def Kd.s : Kd → Str
  | .num => "num" | .name => "name" | .ask => "ask" | .stop => "stop" | .gap => "gap"
  | .say => "say" | .add => "add" | .sub => "sub" | .mul => "mul" | .thn => "then" | .ite => "if" | .lett => "let"
def Kd.leaf : Kd → Bool
  | .num => true | .name => true | .ask => true | .stop => true | .gap => true
  | _ => false
theorem Kd.inj {a b : Kd} (h : a.s = b.s) : a = b := by
  revert h
  cases a <;> cases b <;> first | (intro _; rfl) | (intro h; exact absurd h (by decide +kernel))
theorem Kd.eq_iff {a b : Kd} : (V.str a.s = V.str b.s) ↔ a = b := ⟨fun h => Kd.inj (V.str.inj h), fun h => by rw [h]⟩
def Bin.kd : Bin → Kd
  | .add => .add | .sub => .sub | .mul => .mul | .thn => .thn
def Tr.kd : Tr → Kd
  | .num _ => .num | .name _ => .name | .ask _ => .ask | .stop _ => .stop | .gap _ _ => .gap
  | .say _ => .say | .bin o _ _ => o.kd | .ite _ _ _ => .ite | .lett _ _ _ => .lett
def Tr.sign (t : Tr) : Str := t.kd.s
theorem Bin.kd_s (o : Bin) : o.kd.s = o.s := by cases o <;> rfl
def Tr.parts : Tr → List Tr
  | .say a => [a] | .bin _ a b => [a, b] | .ite a b c => [a, b, c] | .lett _ a b => [a, b]
  | _ => []
def Tr.head : Tr → Nat
  | .gap _ _ => 3 | .say _ => 1 | .bin _ _ _ => 1 | .ite _ _ _ => 1
  | _ => 2
theorem Rep.all {H : Hp} : ∀ {t : Tr} {v : V}, Rep H t v → ∃ a hs us, v = .ref a ∧ H a = some (.tup (.str t.sign :: hs ++ us)) ∧ hs.length + 1 = t.head ∧ Paired (Rep H) t.parts us
  | .num n, _, ⟨a, e, h⟩ => ⟨a, [.int n], [], e, h, rfl, .nil⟩
  | .name x, _, ⟨a, e, h⟩ => ⟨a, [.str x], [], e, h, rfl, .nil⟩
  | .ask x, _, ⟨a, e, h⟩ => ⟨a, [.str x], [], e, h, rfl, .nil⟩
  | .stop x, _, ⟨a, e, h⟩ => ⟨a, [.str x], [], e, h, rfl, .nil⟩
  | .gap g _, _, ⟨a, b, us, e, h, h', _, p⟩ => ⟨a, [.str g, .ref b], [], e, h, rfl, .nil⟩
  | .say _, _, ⟨a, u, e, h, r⟩ => ⟨a, [], [u], e, h, rfl, .cons r .nil⟩
  | .bin o _ _, _, ⟨a, u, w, e, h, r, s⟩ => ⟨a, [], [u, w], e, (by show _ = some (HO.tup [V.str o.kd.s, u, w]); rw [Bin.kd_s]; exact h), rfl, .cons r (.cons s .nil)⟩
  | .ite _ _ _, _, ⟨a, u, w, z, e, h, r, s, t⟩ => ⟨a, [], [u, w, z], e, h, rfl, .cons r (.cons s (.cons t .nil))⟩
  | .lett x _ _, _, ⟨a, u, w, e, h, r, s⟩ => ⟨a, [.str x], [u, w], e, h, rfl, .cons r (.cons s .nil)⟩
def Tr.size : Tr → Nat
  | .say a => a.size + 1 | .bin _ a b => a.size + b.size + 1 | .ite a b c => a.size + b.size + c.size + 1 | .lett _ a b => a.size + b.size + 1
  | _ => 1
theorem paired_get {α : Type} {F : α → V → Prop} : ∀ {as : List α} {us : List V} {i : Nat} {u : V}, Paired F as us → us[i]? = some u → ∃ a, as[i]? = some a ∧ F a u
  | _, _, _, _, .nil, e => by simp at e
  | _, _, 0, _, .cons r _, e => by simp at e; subst e; exact ⟨_, rfl, r⟩
  | _, _, i + 1, u, .cons _ t, e => by
    obtain ⟨a, h1, h2⟩ := paired_get (i := i) (u := u) t (by simpa using e)
    exact ⟨a, by simpa using h1, h2⟩
theorem same_set {H H' : Hp} {p : Addr} {o : HO} (g : Same H H') (h : H p = none) : Same H (upd H' p o) := fun b u q => by rw [upd_ne (ne_of_none q h)]; exact g b u q
theorem take_next {α : Type} {as : List α} {i : Nat} {a : α} (h : as[i]? = some a) : as.take (i + 1) = as.take i ++ [a] := by
  rw [List.take_add_one, h]; rfl
def Atom.names : Atom → List Str
  | .name x => [x]
  | _ => []
def Tr.names : Tr → List Str
  | .name x => [x]
  | .gap _ as => as.flatMap Atom.names
  | _ => []
theorem iteY {c : Prop} [Decidable c] {A B : Prop} (hc : c) (h : A) : if decide c = true then A else B := by rw [if_pos (decide_eq_true hc)]; exact h
theorem iteN {c : Prop} [Decidable c] {A B : Prop} (hc : ¬ c) (h : B) : if decide c = true then A else B := by rw [if_neg (by rw [decide_eq_false hc]; exact Bool.false_ne_true)]; exact h
theorem line1000 {n : Nat} (h : n ≤ 1000) : n ≤ sizeLine := Nat.le_of_lt (small1000 h)
def constVs : List Expr → Option (List V)
  | [] => some []
  | .Constant (.str x) _ _ :: r => (constVs r).map fun l => V.str x :: l
  | .Constant (.int i) _ _ :: r => (constVs r).map fun l => V.int i :: l
  | _ => none
def tRow (vs : List V) : TA := fun _ H Q => Q vs H
theorem pa_row {X : Cx} : ∀ {es : List Expr} (vs : List V), constVs es = some vs → PA X es (tRow vs)
  | [], vs, h => by cases h; exact pa_nil
  | .Constant (.str x) j p :: r, vs, h => by
    obtain ⟨l, hl, e⟩ := Option.map_eq_some_iff.mp (show (constVs r).map (fun l => V.str x :: l) = some vs from h)
    subst e
    exact pa_cons pe_str (pa_row l hl)
  | .Constant (.int x) j p :: r, vs, h => by
    obtain ⟨l, hl, e⟩ := Option.map_eq_some_iff.mp (show (constVs r).map (fun l => V.int x :: l) = some vs from h)
    subst e
    exact pa_cons pe_int (pa_row l hl)
def rowT : Expr → Option (List V)
  | .Tuple es _ _ => constVs es
  | _ => none
def rowL : Expr → Option (List V)
  | .List es _ => constVs es
  | _ => none
theorem pe_tupR {X : Cx} {e : Expr} (vs : List V) (h : rowT e = some vs) : PE X e (tTup (tRow vs)) := by
  unfold rowT at h
  split at h
  · exact pe_tup (pa_row vs h)
  · cases h
theorem pe_lstR {X : Cx} {e : Expr} (vs : List V) (h : rowL e = some vs) : PE X e (tLst (tRow vs)) := by
  unfold rowL at h
  split at h
  · exact pe_lst (pa_row vs h)
  · cases h
end L2
set_option Elab.async false
set_option linter.all false
set_option maxRecDepth 100000
set_option maxHeartbeats 4000000
namespace L2
open PySem
abbrev DRow := Str × (Str ⊕ Int)
abbrev En := Str → Int
abbrev Res := List DRow × (Int ⊕ Str)
def askR (x : Str) : DRow := ("ask", .inl x)
def sayR (n : Int) : DRow := ("say", .inr n)
def Bin.op : Bin → Int → Int → Int
  | .add, m, n => (m + n) % 10 ^ 30
  | .sub, m, n => (m - n) % 10 ^ 30
  | .mul, m, n => (m * n) % 10 ^ 30
  | .thn, _, n => n
def En.set (e : En) (x : Str) (n : Int) : En := fun y => if y = x then n else e y
def pre (D : List DRow) (o : Option Res) : Option Res := o.map fun q => (D ++ q.1, q.2)
def seqR (r : Option Res) (k : Int → Option Res) : Option Res := r.bind fun r => match r.2 with
  | .inr w => some (r.1, .inr w)
  | .inl n => pre r.1 (k n)
def ev (a : En) : Tr → En → Option Res
  | .num n, _ => some ([], .inl n)
  | .name x, e => some ([], .inl (e x))
  | .ask x, _ => some ([askR x], .inl (a x))
  | .stop x, _ => some ([], .inr x)
  | .gap _ _, _ => none
  | .say t, e => seqR (ev a t e) fun n => some ([sayR n], .inl n)
  | .bin o s t, e => seqR (ev a s e) fun m => seqR (ev a t e) fun n => some ([], .inl (o.op m n))
  | .ite c s t, e => seqR (ev a c e) fun n => if n = 0 then ev a t e else ev a s e
  | .lett x s t, e => seqR (ev a s e) fun n => ev a t (e.set x n)
def aft (a : En) (t : Tr) (e : En) (E : List Int) : Option (Option Res × List Int) :=
  match t with
  | .say _ => match E with
    | n :: E => some (some ([sayR n], .inl n), E)
    | _ => none
  | .bin .thn _ t => match E with
    | _ :: E => some (ev a t e, E)
    | _ => none
  | .bin o _ _ => match E with
    | n :: m :: E => some (some ([], .inl (o.op m n)), E)
    | _ => none
  | .ite _ s t => match E with
    | n :: E => some (if n = 0 then ev a t e else ev a s e, E)
    | _ => none
  | .lett x _ t => match E with
    | n :: E => some (ev a t (e.set x n), E)
    | _ => none
  | _ => none
abbrev Item := Tr × En × Bool
def cont (a : En) : List Item → List Int → Option Res
  | [], [] => none
  | [], n :: _ => some ([], .inl n)
  | (t, e, false) :: W, E => seqR (ev a t e) fun n => cont a W (n :: E)
  | (t, e, true) :: W, E => (aft a t e E).bind fun p => seqR p.1 fun n => cont a W (n :: p.2)
section
variable {a e : En} {W : List Item} {E : List Int}
end
end L2
set_option Elab.async false
set_option linter.all false
set_option maxRecDepth 100000
set_option maxHeartbeats 4000000
namespace L2
open PySem PySem.Spec PyProof.Rows
theorem call_dictD {X : Cx} : CallR X (.type "dict") (fun xs H Q => ∃ a kvs, xs = [V.ref a] ∧ H a = some (.dK kvs) ∧ ∀ p, H p = none → Q (.ref p) (upd H p (.dK kvs))) := by
  intro pins s σ H xs us Q I r h
  obtain ⟨a, kvs, rfl, ha, q⟩ := h
  obtain ⟨u, rfl, ru⟩ := vals1 r
  cases ru
  exact d_copyOf I (.inl ha) fun p s' hp I' => ⟨.ref p, _, I', rfl, q p hp⟩
section
variable {P : Program} {w : World} {K : PySem.W.Frag} {mg : Str → Option Value} {base : Heap}
end
end L2
set_option Elab.async false
set_option linter.all false
set_option maxRecDepth 100000
set_option maxHeartbeats 4000000
namespace L2
open PySem PySem.Spec PyProof.Rows
section
variable {prog : Program} {w : World} {A : Around} {E : Value → Shared → Prop} {s : Shared}
end
end L2
set_option Elab.async false
set_option linter.all false
set_option maxRecDepth 100000
set_option maxHeartbeats 4000000
namespace L2
open PySem PySem.Spec PyProof.Rows
def Itw (K : PySem.W.Frag) (a : Addr) (n : Nat) : It :=
  ⟨fun i H => i < n ∧ ∃ xs x, SqL K H a xs ∧ xs.length = n ∧ xs[n - 1 - i]? = some x, fun i H x H' => H' = H ∧ ∀ xs, SqL K H a xs → xs[n - 1 - i]? = some x, fun i _ => i = n⟩
theorem turn_rvL {P : Program} {w : World} {K : PySem.W.Frag} {tg : Expr} (a it : Addr) (n : Nat) : Turn P w K tg (Itw K a n) [it] it (fun i h => h.IsRevIter it a ((n : Int) - 1 - (i : Nat))) where
  mem := by simp
  obj := fun i h st b hb => by
    have e : b = it := by simpa using hb
    subst e
    obtain ⟨o, e, c, d⟩ := st
    exact ⟨o, e, fun v z => by rw [d] at z; cases z⟩
  keep := fun i h h' st k => st.at fun o e => k it (by simp) o e
  item := by
    intro X hP hw hK hc i pins s σ H E I hf st hg
    subst hP hw hK
    obtain ⟨hin, xs, x, hq, hl, hx⟩ := hg
    obtain ⟨its, rv, p, hz⟩ := I.list hq
    obtain ⟨u, hu, ru⟩ := rv.get hx
    obtain ⟨f0, f1, f2, f3, f4, f5⟩ := hf it (by simp)
    have e : (n : Int) - 1 - (i : Nat) = ((n - 1 - i : Nat) : Int) := by omega
    rw [e] at st
    refine wpAny_pyNext_rev_item st p.isList (x := u) (by simpa using hu) fun h' st' sb => ?_
    have I1 : Inv X pins σ H { s with heap := h' } := I.turned (t' := s.toks) (fun b o hb e => (sb.2 b hb).trans e) f0 f1 f3 f4 f5
    obtain ⟨o, eo, c, d⟩ := id st'
    refine ⟨u, rfl, go_of (s := { s with heap := h' }) eo c d (by decide) ⟨x, H, I1, ru, ⟨rfl, fun ys hy => by rw [I.list_inj hy hq]; exact hx⟩, ?_, fun b hb => (hf b hb).1⟩⟩
    have e2 : (n : Int) - 1 - ((i + 1 : Nat) : Int) = ((n - 1 - i : Nat) : Int) - 1 := by omega
    show h'.IsRevIter it a ((n : Int) - 1 - ((i + 1 : Nat) : Int))
    rw [e2]
    exact st'
  done := by
    intro X hP hw hK hc i pins s σ H E I hf st hg
    subst hP hw hK
    obtain ⟨f0, f1, f2, f3, f4, f5⟩ := hf it (by simp)
    have hg' : i = n := hg
    subst hg'
    have e : (i : Int) - 1 - (i : Nat) = -1 := by omega
    rw [e] at st
    exact wpAny_pyNext_rev_end (I.ok.hd hc) st fun h' eb => ⟨rfl, I.turned (t' := s.toks) (fun b o hb e => eb b o hb e) f0 f1 f3 f4 f5⟩
  self := fun _ _ _ _ _ st h => wpAny_pyIter_revIter st h
def iRevL (K : PySem.W.Frag) (ta : TA) : TI := fun σ H R => ta σ H fun vs H1 => ∃ a, vs = [.ref a] ∧ ∃ xs, SqL K H1 a xs ∧ R (Itw K a xs.length) H1
theorem pi_revL {X : Cx} {tg a : Expr} {ta : TA} {p pos : Pos} (hg : Gl X "reversed") (hm : X.mg "reversed" = none) (ha : PA X [a] ta) (hs : starEach [a] X.env = [(false, eval a X.env)] := by rfl) : PI X tg (.Call (.Name "reversed" p) [a] [] pos) (iRevL X.K ta) := by
  intro pins s σ H R I h
  refine Call_ (ld_blt I hg hm boot_reversed (PyProof.Rows.callWith_type1 (thn (ha pos pins s σ H _ I h) fun us s1 ⟨vs, H1, I1, r1, q1⟩ => ?_) hs rfl))
  obtain ⟨b, e, xs, hq, q⟩ := q1
  subst e
  obtain ⟨u, rfl, ru⟩ := vals1 r1
  cases ru
  obtain ⟨its, rv, tp, hz⟩ := I1.list hq
  have hl := rv.length
  refine call_reversed_list tp.isList ?_
  have hnew : Heap.IsRevIter (s1.heap.push (revObj b ((its.toArray.size : Int) - 1))) s1.heap.objs.size b ((its.toArray.size : Int) - 1) := ⟨_, Heap.get?_push_size _ rfl, rfl, rfl⟩
  refine wpAny_pyIter_revIter hnew ⟨_, [s1.heap.objs.size], _, _, H1, rfl, I1.kept (t' := s1.toks) (fun c o e => Heap.get?_push_of_some _ e), turn_rvL b _ xs.length, ?_, fun c hc => ?_, q⟩
  · have e : (xs.length : Int) - 1 - ((0 : Nat) : Int) = (its.toArray.size : Int) - 1 := by rw [List.size_toArray]; omega
    show Heap.IsRevIter _ _ _ ((xs.length : Int) - 1 - ((0 : Nat) : Int))
    rw [e]
    exact hnew
  · have e := List.mem_singleton.mp hc
    subst e
    exact I1.fpOk (Nat.le_refl _) (I1.hok.fresh (Nat.le_refl _))
theorem for_revL {K : PySem.W.Frag} {a : Addr} {xs : List V} {g : TG} {tb : TS} {D : Ends} {σ : L2.St} {H : Hp} (Pv : Nat → St → Hp → Prop) (h0 : Pv 0 σ H) (hl : ∀ i σ H, i ≤ xs.length → Pv i σ H → SqL K H a xs)
    (hs : ∀ i x σ H, i < xs.length → xs[xs.length - 1 - i]? = some x → Pv i σ H → g x σ H fun σ2 H2 => tb { D with nx := Pv (i + 1), ct := Pv (i + 1), bk := D.nx } σ2 H2) (hd : ∀ σ H, Pv xs.length σ H → D.nx σ H) :
    ∃ W : Nat → Nat → St → Hp → Prop, (∃ m, W 0 m σ H) ∧ ∀ i m σ H, W i m σ H →
      ((Itw K a xs.length).stop i H ∧ D.nx σ H) ∨ ((Itw K a xs.length).go i H ∧ ∃ N : St → Hp → Prop, (∀ σ' H', N σ' H' → ∃ m', m' < m ∧ W (i + 1) m' σ' H') ∧ ∀ x H', (Itw K a xs.length).yld i H x H' → g x σ H' fun σ2 H2 => tb { D with nx := N, ct := N, bk := D.nx } σ2 H2) := by
  refine ⟨fun i m σ H => m = xs.length - i ∧ i ≤ xs.length ∧ Pv i σ H, ⟨xs.length, by simp, Nat.zero_le _, h0⟩, ?_⟩
  rintro i m σ H ⟨rfl, hi, p⟩
  have q := hl i σ H hi p
  by_cases hlt : i < xs.length
  · have hk : xs.length - 1 - i < xs.length := by omega
    refine .inr ⟨⟨hlt, xs, xs[xs.length - 1 - i], q, rfl, by simp [hk]⟩, Pv (i + 1), fun σ' H' p' => ⟨xs.length - (i + 1), by omega, rfl, hlt, p'⟩, fun x H' y => ?_⟩
    obtain ⟨eH, y⟩ := y
    subst eH
    exact hs i x σ _ hlt (y xs q) p
  · have e : i = xs.length := by omega
    subst e
    exact .inl ⟨rfl, hd σ H p⟩
end L2
set_option Elab.async false
set_option linter.all false
set_option maxRecDepth 100000
set_option maxHeartbeats 4000000
namespace L2
open PySem PySem.Spec PyProof.Rows
theorem comp_listR {K : PySem.W.Frag} {a : Addr} {xs : List V} {acc : Addr} {g : TG} {tt : TT} {te : TE} {σ : L2.St} {H : Hp} {R : Hp → Prop} (Pv : Nat → Hp → Prop) (h0 : Pv 0 (upd H acc (.lst []))) (hl : ∀ i H, i ≤ xs.length → Pv i H → SqL K H a xs)
    (hs : ∀ i x H, xs[i]? = some x → Pv i H → g x σ H fun σ2 H4 => Ext σ σ2 ∧ tt σ2 H4 fun b H5 =>
      if b = true then te σ2 H5 fun y H6 => ∃ zs, H6 acc = some (.lst zs) ∧ zs.length < sizeLine ∧ Pv (i + 1) (upd H6 acc (.lst (zs ++ [y]))) else Pv (i + 1) H5) (hd : ∀ H, Pv xs.length H → R H) :
    ∃ W : Nat → Nat → Hp → Prop, (∃ m, W 0 m (upd H acc (.lst []))) ∧ ∀ i m H2, W i m H2 →
      ((Itl K a).stop i H2 ∧ R H2) ∨ ((Itl K a).go i H2 ∧ ∃ N : Hp → Prop, (∀ H', N H' → ∃ m', m' < m ∧ W (i + 1) m' H') ∧ ∀ x H3, (Itl K a).yld i H2 x H3 → g x σ H3 fun σ2 H4 => Ext σ σ2 ∧ tt σ2 H4 fun b H5 =>
        if b = true then te σ2 H5 fun y H6 => ∃ zs, H6 acc = some (.lst zs) ∧ zs.length < sizeLine ∧ N (upd H6 acc (.lst (zs ++ [y])))
        else N H5) := by
  refine ⟨fun i m H => m = xs.length - i ∧ i ≤ xs.length ∧ Pv i H, ⟨xs.length, by simp, Nat.zero_le _, h0⟩, ?_⟩
  rintro i m H2 ⟨rfl, hi, p⟩
  have q := hl i H2 hi p
  by_cases hlt : i < xs.length
  · refine .inr ⟨⟨xs, xs[i], q, by simp [hlt]⟩, Pv (i + 1), fun H' p' => ⟨xs.length - (i + 1), by omega, rfl, hlt, p'⟩, fun x H' y => ?_⟩
    obtain ⟨e, y⟩ := y
    subst e
    exact hs i x _ (y xs q) p
  · have e : i = xs.length := by omega
    subst e
    exact .inl ⟨⟨xs, q, Nat.le_refl _⟩, hd H2 p⟩
end L2
set_option Elab.async false
set_option linter.all false
set_option maxRecDepth 100000
set_option maxHeartbeats 4000000
namespace L2
open PySem PySem.Spec PyProof.Rows
section
variable {prog : Program} {w : World}
open AutoSeq1 (wpAny_loadPart')
open MeetsSeq MeetsSeq2 MeetsSeq3 SeqAt
end
end L2
set_option Elab.async false
set_option linter.all false
set_option maxRecDepth 100000
set_option maxHeartbeats 1000000
namespace L2
open PySem PySem.Spec PyProof.Rows
section
variable {X : Cx}
theorem ps_comp {elt tg iter : Expr} {y : Str} {py spos : Pos} {jj : Nat} {ifs : List Expr} {sc : Scope} {pos : Pos} {wi : TI} {g : TG} {tt : TT} {te : TE} (N : List Str) (cap : List (Option Nat)) (hc : X.calm = true) (hi : PI X tg iter wi)
    (hg : ∀ cl s H C ex, PG (X.block sc cl N s H C ex) tg g) (ht : ∀ cl s H C ex, PTs (X.block sc cl N s H C ex) ifs tt) (he : ∀ cl s H C ex, PE (X.block sc cl N s H C ex) elt te)
    (hk : sc.kind = .function) (nc : ∀ y ∈ sc.names, y.2 ≠ .cell) (hnames : ∀ y ∈ sc.names, y.2 = .local → sc.names.lookup y.1 = some .local)
    (hfree : ∀ n, (n, NameKind.free) ∈ sc.names → X.env.kindOf n = some .cell)
    (hcap : ∀ (i j : Nat), cap[i]? = some (some j) → ∃ x, N[i]? = some x ∧ X.N[j]? = some x ∧ sc.names.lookup x = some .free) (hlen : cap.length = N.length)
    (hN : X.N.Nodup) (hjj : X.N[jj]? = some y) (hxx : Loc X.env.scope y) (hf : X.fn y = true ∨ X.env.scope.names.lookup y = some .local)
    (hsw : swapsWith (.ListComp elt [⟨tg, iter, ifs, 0⟩] sc pos) (some (.Name y py)) spos.line X.env = pure true)
    (hs : ∀ x, foldedSetIterable iter X.env x = pure x := by intro _; rfl) : PS X (.Assign [.Name y py] (.ListComp elt [⟨tg, iter, ifs, 0⟩] sc pos) spos) (tAsg (tComp cap wi g tt te) (gName jj)) := by
  intro pins s σ H D I h
  obtain ⟨cl, hclos, c1, c2⟩ := closure_of (sc := sc) (env := X.env) fun n hn => I.ok.has n (.inl (hfree n hn))
  rw [exec_Assign_Name_used _ _ _ _ hsw]; refine wpAny_bind (wpAny_standAt (wpAny_bind ?_)); show wpAny _ X.A (do let _ ← comprehension (.ListComp elt [⟨tg, iter, ifs, 0⟩] sc pos) sc X.env _ (newList []) false (eval iter X.env) (some (assign (.Name y py) X.env))) _ _ s
  refine wpAny_bind (wpAny_mono (wpAny_comprehension_free (use := some (assign (.Name y py) X.env)) (Q := fun _ s' => SP X pins D .next s') rfl hs hclos hk hnames ?_) (fun _ s' hq => wpAny_pure (wpAny_pure hq)) fun _ _ e => e)
  refine thn (hi pins s σ H _ I h) fun v s1 h1 => thn h1 fun itv s2 h2 => ?_
  obtain ⟨it, fp, tn, J, H2, e, I2, T, st2, f2, q2⟩ := h2
  subst e
  have hfr : H2 s2.heap.objs.size = none := I2.fresh
  obtain ⟨W, ⟨m0, w0⟩, turn⟩ := q2 s2.heap.objs.size hfr
  have I3 := I2.lnew (ys := []) (its := []) (t' := s2.toks) .nil (Nat.zero_le _)
  have hacc : H2 s2.heap.objs.size = none := hfr
  refine wpAny_newObj_type (wpAny_newFunctionEnv nc (by intro y hy; simp at hy) (fun h4 hns hsb => ?_) hk)
  generalize hs3 : ({ s2 with heap := s2.heap.push { cls := .type "list", data := .seq ([] : List Value).toArray } } : Shared) = s3 at hns hsb I3 ⊢
  have hheap : s3.heap = s2.heap.push { cls := .type "list", data := .seq ([] : List Value).toArray } := by rw [← hs3]
  generalize hH3 : upd H2 s2.heap.objs.size (.lst []) = H3 at I3 w0
  have up2 : ∀ b o, s2.heap.get? b = some o → s3.heap.get? b = some o := fun b o q => by rw [hheap]; exact Heap.get?_push_of_some _ q
  have neA : ∀ b ∈ fp, b ≠ s2.heap.objs.size := fun b hb => by
    obtain ⟨o, q, _⟩ := T.obj _ _ st2 b hb
    exact Nat.ne_of_lt (Heap.lt_size q)
  have f3 : ∀ b ∈ fp, FpOk X pins H3 b := fun b hb => ⟨by rw [← hH3, upd_ne (neA b hb)]; exact (f2 b hb).1, (f2 b hb).2⟩
  have o3 : ∀ b ∈ fp, ∃ o, s3.heap.get? b = some o := fun b hb => by
    obtain ⟨o, q, _⟩ := T.obj _ _ st2 b hb
    exact ⟨o, up2 b o q⟩
  have ok' := block_ok (N := N) (C := s3.heap.objs.size) I3 hk nc (Nat.le_refl _) f3 o3 c1 c2
  generalize hC : s3.heap.objs.size = C at hns hsb ok' ⊢
  have ltC : ∀ b o, s3.heap.get? b = some o → b ≠ C := fun b o q => by rw [← hC]; exact Nat.ne_of_lt (Heap.lt_size q)
  have up4 : ∀ b o, s3.heap.get? b = some o → h4.get? b = some o := fun b o q => hsb.extBut b o (ltC b o q) (Heap.get?_push_of_some _ q)
  have st4 : tn 0 h4 := T.keep _ _ _ st2 fun b hb o q => up4 b o (up2 b o q)
  have I4 : Inv (X.block sc cl N s3 H3 C fp) [] (capSt cap σ) H3 { s3 with heap := h4, toks := s3.toks + ([] : List (Str × Value)).length } := by
    refine ⟨ok', rfl, I3.bare, Un.kept up4, ⟨_, hns, fun i x v e1 e2 e3 => ?_⟩, fun x c q => ?_, ?_, fun x c q => I3.freeC x c (c1 x c q), fun p hp => (nomatch hp), I3.hok.kept up4, ?_⟩
    · have ee : ∃ j, cap[i]? = some (some j) ∧ σ[j]? = some (some v) := by
        unfold capSt at e2
        rw [List.getElem?_map] at e2
        cases q : cap[i]? with
        | none => rw [q] at e2; cases e2
        | some o =>
          rw [q] at e2
          cases o with
          | none => cases e2
          | some j =>
            refine ⟨j, rfl, ?_⟩
            have e2' : some ((σ[j]?).join) = some (some v) := e2
            cases z : σ[j]? with
            | none => rw [z] at e2'; cases e2'
            | some o' =>
              rw [z] at e2'
              have e2'' : o' = some v := Option.some.inj e2'
              rw [e2'']
      obtain ⟨j, ej, es⟩ := ee
      obtain ⟨x', n1, n2, n3⟩ := hcap i j ej
      have e1' : N[i]? = some x := e1
      rw [n1] at e1'
      cases e1'
      have hfr' : (x, NameKind.free) ∈ sc.names := lookup_mem n3
      have kc := hfree x hfr'
      obtain ⟨m, _, hl⟩ := I3.loc
      obtain ⟨u, r, l⟩ := hl j x v n2 es (.inr (.inl kc))
      refine ⟨u, r, ?_⟩
      rcases l with ⟨l, _⟩ | ⟨_, c, ec, z⟩
      · rw [kc] at l; cases l
      · obtain ⟨c', ec'⟩ := c2 x hfr'
        have := c1 x c' ec'
        rw [ec] at this
        cases this
        obtain ⟨oc, q1, q2⟩ := z
        exact .inr ⟨lookup_relabel_free (sc := sc) n3, c, ec', oc, up4 _ _ q1, q2⟩
    · obtain ⟨v, oc, q1, q2⟩ := I3.cell x c (c1 x c q)
      exact ⟨v, oc, up4 _ _ q1, q2⟩
    · exact I3.hok.fresh (by rw [hC]; exact Nat.le_refl _)
    · show (capSt cap σ).length = N.length
      unfold capSt
      rw [List.length_map, hlen]
  have loop : codeAny (model X.prog X.w) X.A (.compLoop (.ListComp elt [⟨tg, iter, ifs, 0⟩] sc pos) 0 (.ref it) (.ref s2.heap.objs.size) (compEnvC sc cl C X.env)) (compPost (model X.prog X.w) X.A X.xe (some (assign (.Name y py) X.env)) (fun _ s' => SP X pins D .next s') (.ref s2.heap.objs.size) C)
      { s3 with heap := h4, toks := s3.toks + ([] : List (Str × Value)).length } := by
    have stat : ∀ {H' : Hp}, (∀ b ∈ fp, H' b = none) → ∀ b ∈ fp, FpOk (X.block sc cl N s3 H3 C fp) [] H' b := fun hn b hb =>
      ⟨hn b hb, (ok'.exf b hb).1, ok'.exfs b hb, .inl hb, (ok'.exf b hb).2, fun p hp => (nomatch hp)⟩
    refine comp_loop (fun n s' => ∃ i H', Inv (X.block sc cl N s3 H3 C fp) [] (capSt cap σ) H' s' ∧ tn i s'.heap ∧ (∀ b ∈ fp, H' b = none) ∧ W i n H') ?_ m0 ⟨0, H3, I4, st4, fun b hb => (f3 b hb).1, w0⟩
    rintro n s5 ⟨i, H5, I5, st5, fr5, w5⟩
    rcases turn i n H5 w5 with ⟨stop, qn⟩ | ⟨go, N', hN', step⟩
    · refine thn (T.done (X.block sc cl N s3 H3 C fp) rfl rfl rfl hc i [] s5 _ H5 NoX I5 (stat fr5) st5 stop) fun r s6 ⟨hr, I6⟩ => ?_
      subst hr
      obtain ⟨m, hm, _⟩ := I6.loc
      have I7 : Inv X pins σ H5 s6 := by
        refine I3.call' (s' := s6) (ch := fp) I6.os I6.base I6.hok I6.bare fun b hb => ?_
        obtain ⟨g0, g1, g2, g3, g4, g5⟩ := f3 b hb
        exact ⟨g3, g1, g4, g5⟩
      have hCl : X.env.locals ≠ C := by
        obtain ⟨_, hn3, _⟩ := I3.loc
        rw [← hC]
        exact Nat.ne_of_lt hn3.lt
      have hCc : ∀ x c, X.env.cells.lookup x = some c → c ≠ C := fun x c q => by
        obtain ⟨v, oc, q1, q2⟩ := I3.cell x c q
        exact ltC _ _ q1
      refine wpAny_assign_Name (store_ok2 I7 hN hjj hxx (v := .ref s2.heap.objs.size) rfl (fun s9 I9 ⟨a9, sb9, ha9⟩ => ?_) hf)
      have hCa : a9 ≠ C := by
        rcases ha9 with rfl | z
        · exact hCl
        · exact hCc _ _ z
      refine ⟨m, hm.sameBut sb9 (Ne.symm hCa), fun h' sb => ⟨_, H5, ?_, qn⟩⟩
      refine I9.call' (s' := { s9 with heap := h' }) (ch := [C]) rfl ?_ (I9.hok.but I6.free sb) I9.bare fun b hb => ?_
      · have st : ∀ b o, s9.heap.get? b = some o → b ∉ [C] → h'.get? b = some o := fun b o q hx => (sb.2 b (fun z => hx (by rw [z]; exact List.mem_singleton.mpr rfl))).trans q
        exact ⟨fun b o q _ _ hx => st b o q hx, fun b o q _ _ hx => ⟨o.slots, st b o q hx⟩, fun b o q n _ => n, fun b o q hx => ⟨o, st b o q hx⟩, fun _ _ q => q, fun _ _ _ q => q, fun b ps q => ⟨#[], by simpa using q⟩⟩
      · rw [List.mem_singleton.mp hb]
        exact ⟨.inr (by rw [← hC]; exact I3.sz), Ne.symm hCl, hCc, fun p hp => ltC _ _ (I3.pin p hp).1⟩
    · refine thn (T.item (X.block sc cl N s3 H3 C fp) rfl rfl rfl hc i [] s5 _ H5 NoX I5 (stat fr5) st5 go) fun r s6 ⟨u, hr, h6⟩ => ?_
      subst hr
      refine thn h6 fun _ s7 ⟨x, H7, I7, r7, y7, st7, fr7⟩ => ?_
      have I7' := I7.pinned (stat fr7) (T.obj _ _ st7)
      have again : ∀ {σ8 : St} {H8 : Hp} {s8 : Shared}, Inv (X.block sc cl N s3 H3 C fp) ([] ++ pinsAt fp s7.heap) σ8 H8 s8 → Ext (capSt cap σ) σ8 → N' H8 →
          ∃ m, m < n ∧ ∃ i H', Inv (X.block sc cl N s3 H3 C fp) [] (capSt cap σ) H' s8 ∧ tn i s8.heap ∧ (∀ b ∈ fp, H' b = none) ∧ W i m H' := fun {σ8 H8 s8} I8 ex n8 => by
        obtain ⟨m', hm, w8⟩ := hN' H8 n8
        have I8' := I8.unpinned.weak ex.len ex.get
        refine ⟨m', hm, i + 1, H8, I8', T.keep _ _ _ st7 fun b hb o q => (I8.pin (b, o) (List.mem_append_right _ (List.mem_append_right _ (mem_pinsAt hb q)))).1, fun b hb => ?_, w8⟩
        obtain ⟨o, q, d⟩ := T.obj _ _ st7 b hb
        exact (I8.pin (b, o) (List.mem_append_right _ (List.mem_append_right _ (mem_pinsAt hb q)))).2.1
      refine thn (hg cl s3 H3 C fp _ s7 _ H7 x u _ I7' r7 (step x H7 y7)) fun _ s8 ⟨σ8, H8, I8, ex8, q8⟩ => ?_
      refine thn (ht cl s3 H3 C fp _ s8 σ8 H8 _ I8 q8) fun b s9 ⟨H9, I9, q9⟩ => ?_
      cases b with
      | false => exact again I9 ex8 q9
      | true =>
        rw [if_pos rfl] at q9 ⊢
        refine thn (he cl s3 H3 C fp _ s9 σ8 H9 _ I9 q9) fun yv s10 ⟨y, H10, I10, r10, zs, e10, l10, q10⟩ => ?_
        refine thn (mt_append (X := X.block sc cl N s3 H3 C fp) _ s10 σ8 H10 (.ref s2.heap.objs.size) [y] (.ref s2.heap.objs.size) [yv] (fun _ H' => N' H') I10 rfl (.cons r10 .nil) ⟨_, zs, y, rfl, rfl, e10, l10, q10⟩) fun _ s11 ⟨_, H11, I11, _, q11⟩ => ?_
        exact again I11 ex8 q11
  exact codeAny_compStart_list loop (T.self X.A 0 _ _ _ st4 loop)
theorem ps_compB {elt tg iter : Expr} {y : Str} {py spos : Pos} {jj : Nat} {ifs : List Expr} {sc : Scope} {pos : Pos} {wi : TI} {g : TG} {tt : TT} {te : TE} (N : List Str) (cap : List (Option Nat)) (hc : X.calm = true) (hi : PI X tg iter wi)
    (hg : ∀ cl s H C ex, PG (X.block sc cl N s H C ex) tg g) (ht : ∀ cl s H C ex, PTs (X.block sc cl N s H C ex) ifs tt) (he : ∀ cl s H C ex, PE (X.block sc cl N s H C ex) elt te)
    (ck : compCk sc X.env X.N N cap = true) (hN : X.N.Nodup) (hjj : X.N[jj]? = some y) (hxx : Loc X.env.scope y) (hf : X.fn y = true ∨ X.env.scope.names.lookup y = some .local)
    (hsw : swapsWith (.ListComp elt [⟨tg, iter, ifs, 0⟩] sc pos) (some (.Name y py)) spos.line X.env = pure true := by rfl) (hs : ∀ x, foldedSetIterable iter X.env x = pure x := by intro _; rfl) : PS X (.Assign [.Name y py] (.ListComp elt [⟨tg, iter, ifs, 0⟩] sc pos) spos) (tAsg (tComp cap wi g tt te) (gName jj)) := by
  unfold compCk at ck
  simp only [Bool.and_eq_true] at ck
  obtain ⟨⟨⟨⟨⟨k1, k2⟩, k3⟩, k4⟩, k5⟩, k6⟩ := ck
  refine ps_comp N cap hc hi hg ht he (by simpa using k1) (fun y hy => ?_) (fun y hy z => ?_) (fun n hn => ?_) (fun i j e => ?_) (by simpa using k6) hN hjj hxx hf hsw hs
  · have := List.all_eq_true.mp k2 y hy
    simpa using this
  · have := List.all_eq_true.mp k3 y hy
    rw [z] at this
    simpa using this
  · have := List.all_eq_true.mp k4 _ hn
    simpa using this
  · have hi : i < cap.length := (List.getElem?_eq_some_iff.mp e).1
    have := List.all_eq_true.mp k5 i (List.mem_range.mpr hi)
    rw [e] at this
    dsimp only at this
    cases q : N[i]? with
    | none => rw [q] at this; cases this
    | some x =>
      rw [q] at this
      dsimp only at this
      rw [Bool.and_eq_true] at this
      exact ⟨x, rfl, by simpa using this.1, by simpa using this.2⟩
end
end L2
set_option Elab.async false
set_option linter.all false
set_option maxRecDepth 100000
set_option maxHeartbeats 4000000
namespace L2
open PySem PySem.Spec PyProof.Rows
inductive Dt where
  | int (i : Int) | str (x : Str) | tup (ds : List Dt)
mutual
def Dt.beq : Dt → Dt → Bool
  | .int i, .int j => decide (i = j)
  | .str x, .str y => decide (x = y)
  | .tup ds, .tup es => Dt.beqs ds es
  | _, _ => false
def Dt.beqs : List Dt → List Dt → Bool
  | [], [] => true
  | d :: ds, e :: es => Dt.beq d e && Dt.beqs ds es
  | _, _ => false
end
mutual
theorem Dt.beq_iff : ∀ {d e : Dt}, Dt.beq d e = true ↔ d = e
  | .int i, .int j => by simp [Dt.beq]
  | .str x, .str y => by simp [Dt.beq]
  | .tup ds, .tup es => by
    have := Dt.beqs_iff (ds := ds) (es := es)
    simp [Dt.beq, this]
  | .int _, .str _ => by simp [Dt.beq]
  | .int _, .tup _ => by simp [Dt.beq]
  | .str _, .int _ => by simp [Dt.beq]
  | .str _, .tup _ => by simp [Dt.beq]
  | .tup _, .int _ => by simp [Dt.beq]
  | .tup _, .str _ => by simp [Dt.beq]
theorem Dt.beqs_iff : ∀ {ds es : List Dt}, Dt.beqs ds es = true ↔ ds = es
  | [], [] => by simp [Dt.beqs]
  | [], _ :: _ => by simp [Dt.beqs]
  | _ :: _, [] => by simp [Dt.beqs]
  | d :: ds, e :: es => by
    have h1 := Dt.beq_iff (d := d) (e := e)
    have h2 := Dt.beqs_iff (ds := ds) (es := es)
    simp [Dt.beqs, h1, h2]
end
mutual
def Dt.deep : Dt → Nat
  | .tup ds => Dt.deeps ds + 1
  | _ => 0
def Dt.deeps : List Dt → Nat
  | [] => 0
  | d :: ds => max (Dt.deep d) (Dt.deeps ds)
end
mutual
inductive DR (H : Hp) : Dt → V → Prop
  | int (i : Int) : DR H (.int i) (.int i)
  | str (x : Str) : DR H (.str x) (.str x)
  | tup {a : Addr} {xs : List V} {ds : List Dt} : H a = some (.tup xs) → DRs H ds xs → DR H (.tup ds) (.ref a)
inductive DRs (H : Hp) : List Dt → List V → Prop
  | nil : DRs H [] []
  | cons {d : Dt} {v : V} {ds : List Dt} {vs : List V} : DR H d v → DRs H ds vs → DRs H (d :: ds) (v :: vs)
end
mutual
theorem DR.mono {H H' : Hp} (k : Tk H H') : ∀ {d : Dt} {v : V}, DR H d v → DR H' d v
  | _, _, .int i => .int i
  | _, _, .str x => .str x
  | _, _, .tup h r => .tup (k _ _ h) (DRs.mono k r)
theorem DRs.mono {H H' : Hp} (k : Tk H H') : ∀ {ds : List Dt} {vs : List V}, DRs H ds vs → DRs H' ds vs
  | _, _, .nil => .nil
  | _, _, .cons r t => .cons (DR.mono k r) (DRs.mono k t)
end
theorem DRs.length {H : Hp} : ∀ {ds : List Dt} {vs : List V}, DRs H ds vs → ds.length = vs.length
  | _, _, .nil => rfl
  | _, _, .cons _ t => congrArg (· + 1) t.length
mutual
theorem DR.inj {H : Hp} : ∀ {d e : Dt} {v : V}, DR H d v → DR H e v → d = e
  | _, _, _, .int _, .int _ => rfl
  | _, _, _, .str _, .str _ => rfl
  | _, _, _, .tup h r, .tup h' r' => by
    rw [h] at h'
    cases h'
    rw [DRs.inj r r']
theorem DRs.inj {H : Hp} : ∀ {ds es : List Dt} {vs : List V}, DRs H ds vs → DRs H es vs → ds = es
  | _, _, _, .nil, .nil => rfl
  | _, _, _, .cons r t, .cons r' t' => by rw [DR.inj r r', DRs.inj t t']
end
theorem DRs.get {H : Hp} : ∀ {ds : List Dt} {vs : List V} {j : Nat} {v : V}, DRs H ds vs → vs[j]? = some v → ∃ d, ds[j]? = some d ∧ DR H d v
  | _, _, _, _, .nil, e => by simp at e
  | _, _, 0, _, .cons r _, e => by simp at e; subst e; exact ⟨_, rfl, r⟩
  | _, _, j + 1, v, .cons _ t, e => by
    obtain ⟨d, h1, h2⟩ := DRs.get (j := j) (v := v) t (by simpa using e)
    exact ⟨d, by simpa using h1, h2⟩
theorem deep_get : ∀ {ds : List Dt} {j : Nat} {d : Dt}, ds[j]? = some d → d.deep ≤ Dt.deeps ds
  | [], _, _, h => by simp at h
  | e :: ds, 0, d, h => by simp at h; subst h; simp [Dt.deeps]; omega
  | e :: ds, j + 1, d, h => by
    have := deep_get (ds := ds) (j := j) (d := d) (by simpa using h)
    simp [Dt.deeps]; omega
theorem beqs_all : ∀ (ds es : List Dt), Dt.beqs ds es = ((List.range (min ds.length es.length)).all (fun j => match ds[j]?, es[j]? with | some d, some e => Dt.beq d e | _, _ => false) && ds.length == es.length) := by
  intro ds es
  rw [Bool.eq_iff_iff, Dt.beqs_iff, Bool.and_eq_true, List.all_eq_true]
  constructor
  · rintro rfl
    refine ⟨fun j hj => ?_, by simp⟩
    have hj' : j < ds.length := by simpa using List.mem_range.mp hj
    simp [List.getElem?_eq_getElem hj', Dt.beq_iff]
  · rintro ⟨h, hl⟩
    have hl' : ds.length = es.length := by simpa using hl
    refine List.ext_getElem hl' fun j h1 h2 => ?_
    have := h j (List.mem_range.mpr (by omega))
    simpa [List.getElem?_eq_getElem h1, List.getElem?_eq_getElem h2, Dt.beq_iff] using this
section
variable {X : Cx} {pins : List (Addr × Obj)} {σ : St} {H : Hp} {s : Shared}
theorem eqAt_DR (I : Inv X pins σ H s) : ∀ (n : Nat) (A : Around) {d e : Dt} {v z : V} {u y : Value}, d.deep ≤ n → DR H d v → DR H e z → RelV v u → RelV z y → A.units + n < cLine → SeqAt.EqAt A s u y (Dt.beq d e) := by
  intro n
  induction n with
  | zero =>
    intro A d e v z u y hn rd re ru ry hu
    cases rd with
    | int i =>
      obtain ⟨t, rfl⟩ := ru
      cases re with
      | int j => obtain ⟨t', rfl⟩ := ry; rw [show Dt.beq (.int i) (.int j) = (i == j) by simp [Dt.beq, Bool.beq_eq_decide_eq]]; exact SeqAt.EqAt.int_int i t j t'
      | str x => obtain ⟨t', rfl⟩ := ry; exact SeqAt.EqAt.int_str i t x t'
      | tup h r =>
        cases ry
        obtain ⟨its, rv, p, _⟩ := I.tuple (SqT.of h)
        exact SeqAt.EqAt.int_tuple i t (show s.heap.IsTuple _ its.toArray from p) (by omega)
    | str x =>
      obtain ⟨t, rfl⟩ := ru
      cases re with
      | int j => obtain ⟨t', rfl⟩ := ry; exact SeqAt.EqAt.str_int x t j t'
      | str w' => obtain ⟨t', rfl⟩ := ry; rw [show Dt.beq (.str x) (.str w') = (x == w') by simp [Dt.beq, Bool.beq_eq_decide_eq]]; exact SeqAt.EqAt.str_str x t w' t'
      | tup h r =>
        cases ry
        obtain ⟨its, rv, p, _⟩ := I.tuple (SqT.of h)
        exact SeqAt.EqAt.str_tuple x t (show s.heap.IsTuple _ its.toArray from p) (by omega)
    | tup h r => simp [Dt.deep] at hn
  | succ n ih =>
    intro A d e v z u y hn rd re ru ry hu
    cases rd with
    | int i =>
      obtain ⟨t, rfl⟩ := ru
      cases re with
      | int j => obtain ⟨t', rfl⟩ := ry; rw [show Dt.beq (.int i) (.int j) = (i == j) by simp [Dt.beq, Bool.beq_eq_decide_eq]]; exact SeqAt.EqAt.int_int i t j t'
      | str x => obtain ⟨t', rfl⟩ := ry; exact SeqAt.EqAt.int_str i t x t'
      | tup h r =>
        cases ry
        obtain ⟨its, rv, p, _⟩ := I.tuple (SqT.of h)
        exact SeqAt.EqAt.int_tuple i t (show s.heap.IsTuple _ its.toArray from p) (by omega)
    | str x =>
      obtain ⟨t, rfl⟩ := ru
      cases re with
      | int j => obtain ⟨t', rfl⟩ := ry; exact SeqAt.EqAt.str_int x t j t'
      | str w' => obtain ⟨t', rfl⟩ := ry; rw [show Dt.beq (.str x) (.str w') = (x == w') by simp [Dt.beq, Bool.beq_eq_decide_eq]]; exact SeqAt.EqAt.str_str x t w' t'
      | tup h r =>
        cases ry
        obtain ⟨its, rv, p, _⟩ := I.tuple (SqT.of h)
        exact SeqAt.EqAt.str_tuple x t (show s.heap.IsTuple _ its.toArray from p) (by omega)
    | @tup a xs ds ha rs =>
      cases ru
      obtain ⟨its, rv, p, _⟩ := I.tuple (SqT.of ha)
      have hn' : Dt.deeps ds ≤ n := by simpa [Dt.deep] using hn
      cases re with
      | int j => obtain ⟨t', rfl⟩ := ry; exact SeqAt.EqAt.tuple_int j t' (show s.heap.IsTuple _ its.toArray from p) (by omega)
      | str w' => obtain ⟨t', rfl⟩ := ry; exact SeqAt.EqAt.tuple_str w' t' (show s.heap.IsTuple _ its.toArray from p) (by omega)
      | @tup b ys es hb rs' =>
        cases ry
        by_cases hab : a = b
        · subst hab
          rw [ha] at hb
          cases hb
          have : ds = es := DRs.inj rs rs'
          subst this
          rw [show Dt.beq (.tup ds) (.tup ds) = true from Dt.beq_iff.mpr rfl]
          exact SeqAt.EqAt.same _
        · obtain ⟨its2, rv2, p2, _⟩ := I.tuple (SqT.of hb)
          refine SeqAt.EqAt.of_refs hab ?_
          have l1 := rv.length
          have l2 := rv2.length
          have m1 := rs.length
          have m2 := rs'.length
          have key := SeqAt.RcAt.tuples (A := A) (s := s) (e := fun j => match ds[j]?, es[j]? with | some d, some e => Dt.beq d e | _, _ => false) (show s.heap.IsTuple _ its.toArray from p) (show s.heap.IsTuple _ its2.toArray from p2) (by omega) fun j h1 h2 => by
            have g1 : j < xs.length := by rw [l1]; simpa using h1
            have g2 : j < ys.length := by rw [l2]; simpa using h2
            obtain ⟨u1, eu, r1⟩ := rv.get (List.getElem?_eq_getElem g1)
            obtain ⟨u2, ev, r2⟩ := rv2.get (List.getElem?_eq_getElem g2)
            obtain ⟨d1, ed, rd1⟩ := rs.get (List.getElem?_eq_getElem g1)
            obtain ⟨d2, ed2, rd2⟩ := rs'.get (List.getElem?_eq_getElem g2)
            have e1 : its.toArray[j] = u1 := by obtain ⟨_, q⟩ := List.getElem?_eq_some_iff.mp eu; simpa using q
            have e2 : its2.toArray[j] = u2 := by obtain ⟨_, q⟩ := List.getElem?_eq_some_iff.mp ev; simpa using q
            simp only [ed, ed2, e1, e2]
            exact ih A.in1 (Nat.le_trans (deep_get ed) hn') rd1 rd2 r1 r2 (by rw [show A.in1.units = A.units + 1 from rfl]; omega)
          have ez : Dt.beq (.tup ds) (.tup es) = ((List.range (min its.toArray.size its2.toArray.size)).all (fun j => match ds[j]?, es[j]? with | some d, some e => Dt.beq d e | _, _ => false) && its.toArray.size == its2.toArray.size) := by
            rw [show Dt.beq (.tup ds) (.tup es) = Dt.beqs ds es by simp [Dt.beq], beqs_all]
            have a1 : its.toArray.size = ds.length := by simp; omega
            have a2 : its2.toArray.size = es.length := by simp; omega
            rw [a1, a2]
          rw [ez]
          exact key
def rEqD (neg : Bool) : R2 := fun x y H Q => ∃ (ds es : List Dt), DR H (.tup ds) x ∧ DR H (.tup es) y ∧ (Dt.tup ds).deep ≤ 150 ∧ Q (.bl (if neg then !Dt.beqs ds es else Dt.beqs ds es)) H
theorem eqD_parts (I : Inv X pins σ H s) {a b : Addr} {ds es : List Dt} (hd : DR H (.tup ds) (.ref a)) (he : DR H (.tup es) (.ref b)) (hdeep : (Dt.tup ds).deep ≤ 150) (hu : X.A.units + 150 < cLine) :
    ∃ its its2 : List Value, s.heap.IsTuple a its.toArray ∧ s.heap.IsTuple b its2.toArray ∧ its.toArray.size = ds.length ∧ its2.toArray.size = es.length ∧
      ∀ j (h1 : j < its.toArray.size) (h2 : j < its2.toArray.size), SeqAt.EqAt X.A.in1 s its.toArray[j] its2.toArray[j] ((fun j => match ds[j]?, es[j]? with | some d, some e => Dt.beq d e | _, _ => false) j) := by
  cases hd with
  | @tup _ xs _ ha rs =>
    cases he with
    | @tup _ ys _ hb rs' =>
      obtain ⟨its, rv, p, _⟩ := I.tuple (SqT.of ha)
      obtain ⟨its2, rv2, p2, _⟩ := I.tuple (SqT.of hb)
      have l1 := rv.length
      have l2 := rv2.length
      have m1 := rs.length
      have m2 := rs'.length
      refine ⟨its, its2, p, p2, by simp; omega, by simp; omega, fun j h1 h2 => ?_⟩
      have g1 : j < xs.length := by rw [l1]; simpa using h1
      have g2 : j < ys.length := by rw [l2]; simpa using h2
      obtain ⟨u1, eu, r1⟩ := rv.get (List.getElem?_eq_getElem g1)
      obtain ⟨u2, ev, r2⟩ := rv2.get (List.getElem?_eq_getElem g2)
      obtain ⟨d1, ed, rd1⟩ := rs.get (List.getElem?_eq_getElem g1)
      obtain ⟨d2, ed2, rd2⟩ := rs'.get (List.getElem?_eq_getElem g2)
      have e1 : its.toArray[j] = u1 := by obtain ⟨_, q⟩ := List.getElem?_eq_some_iff.mp eu; simpa using q
      have e2 : its2.toArray[j] = u2 := by obtain ⟨_, q⟩ := List.getElem?_eq_some_iff.mp ev; simpa using q
      simp only [ed, ed2, e1, e2]
      have dd : Dt.deeps ds + 1 ≤ 150 := by simpa [Dt.deep] using hdeep
      exact eqAt_DR I 149 X.A.in1 (Nat.le_trans (deep_get ed) (by omega)) rd1 rd2 r1 r2 (by rw [show X.A.in1.units = X.A.units + 1 from rfl]; omega)
theorem op_eqD (hu : X.A.units + 150 < cLine) : OpR X (compareOp .Eq) (rEqD false) := by
  intro pins s σ H x y v u Q I rx ry h
  obtain ⟨ds, es, hd, he, hdeep, q⟩ := h
  obtain ⟨a, rfl⟩ : ∃ a, x = .ref a := by cases hd; exact ⟨_, rfl⟩
  obtain ⟨b, rfl⟩ : ∃ b, y = .ref b := by cases he; exact ⟨_, rfl⟩
  cases rx
  cases ry
  obtain ⟨its, its2, p, p2, z1, z2, hall⟩ := eqD_parts I hd he hdeep hu
  refine SeqAt.eq_tupleAt p p2 (by omega) hall ?_
  rw [z1, z2, ← beqs_all]
  exact ⟨.bl (Dt.beqs ds es), H, I, rfl, by simpa using q⟩
theorem op_neD (hu : X.A.units + 150 < cLine) : OpR X (compareOp .NotEq) (rEqD true) := by
  intro pins s σ H x y v u Q I rx ry h
  obtain ⟨ds, es, hd, he, hdeep, q⟩ := h
  obtain ⟨a, rfl⟩ : ∃ a, x = .ref a := by cases hd; exact ⟨_, rfl⟩
  obtain ⟨b, rfl⟩ : ∃ b, y = .ref b := by cases he; exact ⟨_, rfl⟩
  cases rx
  cases ry
  obtain ⟨its, its2, p, p2, z1, z2, hall⟩ := eqD_parts I hd he hdeep hu
  refine SeqAt.RcNeAt.tuples p p2 (by omega) hall _ _ _ _ ?_
  rw [z1, z2, ← beqs_all]
  exact ⟨.bl (!Dt.beqs ds es), H, I, rfl, by simpa using q⟩
theorem hu150 {k : Nat} {A : Around} (hr : Room k A) : A.units + 150 < cLine := by have := hr.un; omega
end
end L2
set_option Elab.async false
set_option linter.all false
set_option maxRecDepth 100000
set_option maxHeartbeats 4000000
namespace L2
open PySem PySem.Spec PyProof.Rows
section
variable {prog : Program} {w : World} {A : Around} {E : Value → Shared → Prop} {s : Shared}
end
section
variable {prog : Program} {w : World} {A : Around} {E : Value → Shared → Prop} {s : Shared}
end
end L2
set_option Elab.async false
set_option linter.all false
set_option maxRecDepth 100000
set_option maxHeartbeats 4000000
namespace L2
open PySem PySem.Spec PyProof.Rows
theorem relKey {k : Key} {u : Value} (h : keyIs k u = true) : RelV (kV k) u := by
  rcases keyIs_shape h with ⟨i, t, rfl, rfl⟩ | ⟨x, t, rfl, rfl⟩
  · exact ⟨t, rfl⟩
  · exact ⟨t, rfl⟩
theorem kv_get : ∀ {kvs : List (Key × V)} {vs : List (Key × Value)} {i : Nat} {p : Key × V}, KV kvs vs → kvs[i]? = some p → ∃ v, vs[i]? = some (p.1, v)
  | _, _, _, _, .nil, e => by simp at e
  | _, _, 0, p, @Paired.cons _ _ _ a b _ _ r _, e => by
    have e' : a = p := by simpa using e
    subst e'
    exact ⟨b.2, by rw [r.1]; rfl⟩
  | _, _, i + 1, p, .cons _ t, e => by
    obtain ⟨v, h⟩ := kv_get (i := i) (p := p) t (by simpa using e)
    exact ⟨v, by simpa using h⟩
def Itd (o : Obj) (a : Addr) (kvs : List (Key × V)) : It :=
  ⟨fun i H => H a = some (.frz o (.dK kvs)) ∧ i < kvs.length, fun i H x H' => H' = H ∧ ∃ p, kvs[i]? = some p ∧ x = kV p.1, fun i H => H a = some (.frz o (.dK kvs)) ∧ kvs.length ≤ i⟩
theorem frz_at {X : Cx} {pins : List (Addr × Obj)} {σ : L2.St} {H : Hp} {s : Shared} {a : Addr} {o : Obj} {kvs : List (Key × V)} {es : Array DictEntry} {ep : Nat} (I : Inv X pins σ H s) (ha : H a = some (.frz o (.dK kvs))) (hd : o.data = .dict es ep) :
    ∃ vs, KV kvs vs ∧ kvs.length = vs.length ∧ s.heap.DictAt (mixKind X.prog X.w) a vs ep := by
  obtain ⟨e, z, sy, vs, r, o', es', ep', h1, c1, d1, rest⟩ := (show ObjOk X.prog X.w H s.heap a (.frz o (.dK kvs)) from I.hok a _ ha)
  rw [e] at h1
  cases h1
  rw [hd] at d1
  cases d1
  exact ⟨vs, r, Paired.length r, o, es, e, c1, hd, rest⟩
theorem turn_dict {P : Program} {w : World} {K : PySem.W.Frag} {tg : Expr} (a it : Addr) (o : Obj) (kvs : List (Key × V)) : Turn P w K tg (Itd o a kvs) [it] it (fun i h => ∃ es ep, o.data = .dict es ep ∧ h.IsKeyIter it a i kvs.length ep) where
  mem := by simp
  obj := fun i h st b hb => by
    have e : b = it := by simpa using hb
    subst e
    obtain ⟨_, _, _, ob, e, c, d⟩ := st
    exact ⟨ob, e, fun v z => by rw [d] at z; cases z⟩
  keep := fun i h h' st k => by
    obtain ⟨es, ep, hd, ob, e, r⟩ := st
    exact ⟨es, ep, hd, ob, k it (by simp) ob e, r⟩
  item := by
    intro X hP hw hK hc i pins s σ H E I hf st hg
    subst hP hw hK
    obtain ⟨ha, hi⟩ := hg
    obtain ⟨es, ep, hd, hit⟩ := st
    obtain ⟨vs, r, hl, hm⟩ := frz_at I ha hd
    obtain ⟨v, hv⟩ := kv_get r (List.getElem?_eq_getElem hi)
    obtain ⟨f0, f1, f2, f3, f4, f5⟩ := hf it (by simp)
    rw [hl] at hit
    refine wpAny_pyNext_dict_item hit hm hv fun key h' hk hit' sb => ?_
    have I1 : Inv X pins σ H { s with heap := h' } := I.turned (t' := s.toks) (fun b o hb e => (sb.2 b hb).trans e) f0 f1 f3 f4 f5
    obtain ⟨ob, e, c, d⟩ := id hit'
    rw [← hl] at hit'
    exact ⟨key, rfl, go_of (s := { s with heap := h' }) e c d (by decide) ⟨_, H, I1, relKey hk, ⟨rfl, _, List.getElem?_eq_getElem hi, rfl⟩, ⟨es, ep, hd, hit'⟩, fun b hb => (hf b hb).1⟩⟩
  done := by
    intro X hP hw hK hc i pins s σ H E I hf st hg
    subst hP hw hK
    obtain ⟨ha, hi⟩ := hg
    obtain ⟨es, ep, hd, hit⟩ := st
    obtain ⟨vs, r, hl, hm⟩ := frz_at I ha hd
    obtain ⟨f0, f1, f2, f3, f4, f5⟩ := hf it (by simp)
    rw [hl] at hit
    exact wpAny_pyNext_dict_end (I.ok.hd hc) hit hm (List.getElem?_eq_none (by omega)) fun h' eb => ⟨rfl, I.turned (t' := s.toks) (fun b o hb e => eb b o hb e) f0 f1 f3 f4 f5⟩
  self := fun A i s Q E st h => by
    obtain ⟨es, ep, hd, hit⟩ := st
    refine wpAny_pyIter_slot hit.typeIs F.slot_dict_keyiterator_iter (wpAny_call_entry F.slot_dict_keyiterator_iter hit.typeIs F.entry_dict_keyiterator_iter ?_ (F.args_dict_keyiterator_iter_1 _))
    show wpAny _ _ (ret (.ref it)) _ _ s
    exact wpAny_pure ⟨_, rfl, "dict_keyiterator", _, hit.typeIs, F.slot_dict_keyiterator_next.lookup, h⟩
def iDict (tl : TE) : TI := fun σ H R => tl σ H fun x H1 => ∃ a kvs, x = .ref a ∧ ((∃ o, H1 a = some (.frz o (.dK kvs)) ∧ R (Itd o a kvs) H1) ∨ (H1 a = some (.dK kvs) ∧ ∀ o, R (Itd o a kvs) (upd H1 a (.frz o (.dK kvs)))))
theorem pi_dict {X : Cx} {tg l : Expr} {tl : TE} (hl : PE X l tl) : PI X tg l (iDict tl) := by
  intro pins s σ H R I h
  refine thn (hl pins s σ H _ I h) fun v s1 ⟨x, H1, I1, r1, q1⟩ => ?_
  obtain ⟨a, kvs, e, q⟩ := q1
  subst e
  cases r1
  rcases q with ⟨o, ha, q⟩ | ⟨ha, q⟩
  · obtain ⟨e, z, sy, vs, r, o', es', ep', h1, c1, d1, rest⟩ := (show ObjOk X.prog X.w H1 s1.heap a (.frz o (.dK kvs)) from I1.hok a _ ha)
    rw [e] at h1
    cases h1
    refine wpAny_pyIter_dict (knd := mixKind X.prog X.w) (kvs := vs) (ep := ep') sy ⟨o, es', e, c1, d1, rest⟩ ?_
    refine ⟨s1.heap.objs.size, [s1.heap.objs.size], _, _, H1, rfl, I1.kept (t' := s1.toks) fun b o e => Heap.get?_push_of_some _ e, turn_dict a _ o kvs, ⟨es', ep', d1, _, Heap.get?_push_size _ rfl, rfl, by rw [Paired.length r]; rfl⟩, fun b hb => ?_, q⟩
    have e : b = s1.heap.objs.size := by simpa using hb
    subst e
    exact I1.fpOk (Nat.le_refl _) (I1.hok.fresh (Nat.le_refl _))
  · obtain ⟨z, sy, vs, r, o, es', ep', e, c1, d1, rest⟩ := (show ObjOk X.prog X.w H1 s1.heap a (.dK kvs) from I1.hok a _ ha)
    refine wpAny_pyIter_dict (knd := mixKind X.prog X.w) (kvs := vs) (ep := ep') sy ⟨o, es', e, c1, d1, rest⟩ ?_
    have lt := Heap.lt_size e
    refine ⟨s1.heap.objs.size, [s1.heap.objs.size], _, _, upd H1 a (.frz o (.dK kvs)), rfl, I1.write (t' := s1.toks) (x := a) (e := a) (by rw [ha]; exact True.intro) (.inl rfl) (fun b o _ e => Heap.get?_push_of_some _ e) ⟨o, Heap.get?_push_of_some _ e⟩ ?_, turn_dict a _ o kvs, ⟨es', ep', d1, _, Heap.get?_push_size _ rfl, rfl, by rw [Paired.length r]; rfl⟩, fun b hb => ?_, q o⟩
    · exact ⟨Heap.get?_push_of_some _ e, z, sy, vs, r, o, es', ep', Heap.get?_push_of_some _ e, c1, d1, rest⟩
    · have e : b = s1.heap.objs.size := by simpa using hb
      subst e
      exact I1.fpOk (Nat.le_refl _) (by rw [upd_ne (Nat.ne_of_gt lt)]; exact I1.hok.fresh (Nat.le_refl _))
end L2
set_option Elab.async false
set_option linter.all false
set_option maxRecDepth 100000
set_option maxHeartbeats 4000000
namespace L2
open PySem PySem.Spec PyProof.Rows
theorem comp_tupR {K : PySem.W.Frag} {a : Addr} {xs : List V} {acc : Addr} {g : TG} {tt : TT} {te : TE} {σ : L2.St} {H : Hp} {R : Hp → Prop} (Pv : Nat → Hp → Prop) (h0 : Pv 0 (upd H acc (.lst []))) (hl : ∀ i H, i ≤ xs.length → Pv i H → SqT K H a xs)
    (hs : ∀ i x H, xs[i]? = some x → Pv i H → g x σ H fun σ2 H4 => Ext σ σ2 ∧ tt σ2 H4 fun b H5 =>
      if b = true then te σ2 H5 fun y H6 => ∃ zs, H6 acc = some (.lst zs) ∧ zs.length < sizeLine ∧ Pv (i + 1) (upd H6 acc (.lst (zs ++ [y]))) else Pv (i + 1) H5) (hd : ∀ H, Pv xs.length H → R H) :
    ∃ W : Nat → Nat → Hp → Prop, (∃ m, W 0 m (upd H acc (.lst []))) ∧ ∀ i m H2, W i m H2 →
      ((Itt K a).stop i H2 ∧ R H2) ∨ ((Itt K a).go i H2 ∧ ∃ N : Hp → Prop, (∀ H', N H' → ∃ m', m' < m ∧ W (i + 1) m' H') ∧ ∀ x H3, (Itt K a).yld i H2 x H3 → g x σ H3 fun σ2 H4 => Ext σ σ2 ∧ tt σ2 H4 fun b H5 =>
        if b = true then te σ2 H5 fun y H6 => ∃ zs, H6 acc = some (.lst zs) ∧ zs.length < sizeLine ∧ N (upd H6 acc (.lst (zs ++ [y])))
        else N H5) := by
  refine ⟨fun i m H => m = xs.length - i ∧ i ≤ xs.length ∧ Pv i H, ⟨xs.length, by simp, Nat.zero_le _, h0⟩, ?_⟩
  rintro i m H2 ⟨rfl, hi, p⟩
  have q := hl i H2 hi p
  by_cases hlt : i < xs.length
  · refine .inr ⟨⟨xs, xs[i], q, by simp [hlt]⟩, Pv (i + 1), fun H' p' => ⟨xs.length - (i + 1), by omega, rfl, hlt, p'⟩, fun x H' y => ?_⟩
    obtain ⟨e, y⟩ := y
    subst e
    exact hs i x _ (y xs q) p
  · have e : i = xs.length := by omega
    subst e
    exact .inl ⟨⟨xs, q, Nat.le_refl _⟩, hd H2 p⟩
section
variable {X : Cx}
theorem bools_back : ∀ {bs : List Bool} {us : List Value}, Vals (bs.map V.bl) us → LSm.BoolsAre us bs
  | [], _, h => by cases h; exact .nil
  | b :: bs, _, h => by
    cases h with
    | cons r t =>
      cases r
      exact .cons b (bools_back t)
theorem op_inD (hu : X.A.units + 1 < cLine) : OpR X (compareOp .In) (fun x y H Q => ∃ (a : Addr) (o : Option V), y = .ref a ∧ DGet H a x o ∧ Q (.bl o.isSome) H) := by
  intro pins s σ H x y v u Q I rx ry h
  obtain ⟨a, o, rfl, g, q⟩ := h
  cases ry
  exact d_in hu I g rx fun s' I' => ⟨.bl o.isSome, H, I', rfl, q⟩
theorem op_eqLE (hu : X.A.units < cLine) : OpR X (compareOp .Eq) (fun x y H Q => ∃ (a b : Addr) (xs : List V), x = .ref a ∧ y = .ref b ∧ H a = some (.lst xs) ∧ H b = some (.lst []) ∧ Q (.bl (xs.length == 0)) H) := by
  intro pins s σ H x y v u Q I rx ry h
  obtain ⟨a, b, xs, rfl, rfl, ha, hb, q⟩ := h
  cases rx
  cases ry
  obtain ⟨_, its, n, r1, l1, e1⟩ := I.lstM ha
  obtain ⟨_, its2, n2, r2, l2, e2⟩ := I.lstM hb
  have L1 : s.heap.IsList a its.toArray := ⟨_, e1, rfl, _, rfl⟩
  have L2 : s.heap.IsList b its2.toArray := ⟨_, e2, rfl, _, rfl⟩
  have z2 : its2.toArray.size = 0 := by rw [List.size_toArray]; exact l2.symm
  by_cases hl : xs.length = 0
  · refine SeqAt.eq_listAt (e := fun _ => true) L1 L2 (by rw [z2, List.size_toArray]; omega) hu (fun j _ h2 => absurd h2 (by omega)) ?_
    have e : (List.range its.toArray.size).all (fun _ => true) = (xs.length == 0) := by rw [hl]; simp
    rw [e]
    exact ⟨.bl (xs.length == 0), H, I, rfl, q⟩
  · refine SeqAt.eq_list_lengthsAt L1 L2 (by rw [z2, List.size_toArray, bne_iff_ne]; omega) hu ⟨.bl false, H, I, rfl, ?_⟩
    have e : (xs.length == 0) = false := by simpa using hl
    rw [e] at q
    exact q
theorem getItem_tuple_whole {prog : Program} {w : World} {A : Around} {E : Value → Shared → Prop} {s : Shared} {t sl : Addr} {items : Array Value} {vl vu : Value} {lo hi : Option Int} {Q : Value → Shared → Prop} (ht : IsTup s.heap t items) (hs : s.heap.IsSliceOf sl vl vu .none) (pl : IsPart vl lo) (pu : IsPart vu hi)
    (hw : HT.sIx items.size 0 lo = 0 ∧ HT.sIx items.size items.size hi = items.size) (h : Q (.ref t) s) : wpAny (model prog w) A (getItem (.ref t) (.ref sl)) Q E s := by
  obtain ⟨os, hos, hcs, hds⟩ := id hs
  have hTs : s.TypeIs (.ref sl) "slice" := ⟨os, hos, hcs⟩
  unfold getItem
  try with_reducible refine wpAny_holding ?_
  first | refine wpAny_bind (wpAny_pure ?_) | skip
  refine wpAny_bind (wpAny_sequenceKey ht.typeIs (by decide) ?_)
  refine wpAny_bind (wpAny_callSpecial?_slot (name := Str.ofString "__getitem__") ht.typeIs PyProof.Rows.slot_tuple_getitem
    (wpAny_call_entry PyProof.Rows.slot_tuple_getitem ht.typeIs entry_tuple_getitem ?_ (args_tuple_getitem _ _)))
  show wpAny _ _ (Builtin.Tuple.tupleItemsOf (.ref t) >>= _) _ _ s
  refine wpAny_bind (tupleItemsOf_ ht ?_)
  refine wpAny_bind (wpAny_typeOf hTs ?_)
  rw [if_pos (by decide)]
  refine wpAny_bind (HT.sliceApplied_gen hs pl pu ?_)
  have hyes : (((HT.sIx items.size 0 lo : Nat) : Int) == 0 && (1 : Int) == 1 && (HT.sIx items.size items.size hi - HT.sIx items.size 0 lo) == items.size) = true := by
    rw [hw.1, hw.2]; simp
  show wpAny _ _ (if (((HT.sIx items.size 0 lo : Nat) : Int) == 0 && (1 : Int) == 1 && (HT.sIx items.size items.size hi - HT.sIx items.size 0 lo) == items.size) = true then _ else _) _ _ s
  rw [if_pos hyes]
  refine wpAny_bind ?_
  unfold Builtin.Tuple.tupleIsExact
  refine wpAny_bind (wpAny_typeOf ht.typeIs (wpAny_pure ?_))
  rw [if_pos (by decide)]
  first
    | exact wpAny_bind (wpAny_rule (wpAny_bind (wpAny_pure (wpAny_pure ⟨_, rfl, wpAny_pure h⟩))))
    | exact wpAny_bind (wpAny_rule (wpAny_pure ⟨_, rfl, wpAny_pure h⟩))
    | exact wpAny_bind (wpAny_rule (wpAny_bind (wpAny_pure ⟨_, rfl, wpAny_pure h⟩)))
def rSlW : V → Option Int → Option Int → Hp → VK → Prop := fun x lo hi H Q => ∃ a xs, x = .ref a ∧ H a = some (.tup xs) ∧ ∀ p H', Same H H' → H' p = some (.tup (cutV xs lo hi)) → Q (.ref p) H'
theorem sl_tupW : SlR X rSlW := by
  intro pins s σ H x v vl vu lo hi sl Q I rx hs pl pu h
  obtain ⟨a, xs, rfl, ha, q⟩ := h
  by_cases hw : HT.sIx xs.length 0 lo = 0 ∧ HT.sIx xs.length xs.length hi = xs.length
  · cases rx
    obtain ⟨its, r, ht, hz⟩ := I.tuple (SqT.of ha)
    have hlen : its.toArray.size = xs.length := by rw [List.size_toArray]; exact r.length.symm
    refine ⟨"tuple", _, PyProof.Rows.slot_tuple_getitem.lookup, ht.typeIs, ?_⟩
    refine getItem_tuple_whole ht hs pl pu (by rw [hlen]; exact hw) ⟨.ref a, H, I, rfl, q a H (.refl H) ?_⟩
    rw [ha]
    unfold cutV
    rw [hw.1, hw.2]
    simp
  · exact sl_tup pins s σ H (.ref a) v vl vu lo hi sl Q I rx hs pl pu ⟨a, xs, rfl, SqT.of ha, hw, fun p hp => q p _ (same_upd hp) upd_same⟩
end
structure Sd (p : Prop) : Prop where
  un : p
section
variable {X : Cx} {st : Stmt} {rest : List Stmt} {t u : TS} {e a b : Expr} {es : List Expr} {te ta tb : TE} {tA : TA} {pos : Pos}
theorem pss_consS (h1 : Sd (PS X st t)) (h2 : Sd (PSs X rest u)) : Sd (PSs X (st :: rest) (tSeq t u)) := ⟨pss_cons h1.un h2.un⟩
theorem pss_oneS (h1 : Sd (PS X st t)) : Sd (PSs X [st] t) := ⟨pss_one h1.un⟩
theorem ps_ifS {c : Expr} {x y : List Stmt} {tc : TT} (hc : Sd (PT X c tc)) (ha : Sd (PSs X x t)) (hb : Sd (PSs X y u)) : Sd (PS X (.If c x y pos) (tIfS tc t u)) := ⟨ps_if hc.un ha.un hb.un⟩
theorem ps_retS (he : Sd (PE X e te)) : Sd (PS X (.Return (some e) pos) (tRet te)) := ⟨ps_ret he.un⟩
theorem ps_setS {i : Nat} {x : Str} {pos' : Pos} (hN : X.N.Nodup) (hi : X.N[i]? = some x) (hx : Loc X.env.scope x) (he : Sd (PE X e te)) (hs : swapsWith e (some (.Name x pos')) pos.line X.env = pure false := by rfl) (hf : X.fn x = true ∨ X.env.scope.names.lookup x = some .local := by first | exact .inl rfl | exact .inr rfl | assumption) :
    Sd (PS X (.Assign [.Name x pos'] e pos) (tAsg te (gName i))) := ⟨ps_set hN hi hx he.un hs hf⟩
theorem pe_tupS {k : Nat} (h : Sd (PA X es tA)) : Sd (PE X (.Tuple es k pos) (tTup tA)) := ⟨pe_tup h.un⟩
theorem pe_lstS (h : Sd (PA X es tA)) : Sd (PE X (.List es pos) (tLst tA)) := ⟨pe_lst h.un⟩
theorem pa_consS (ha : Sd (PE X e te)) (hr : Sd (PA X es tA)) (hs : starEach (e :: es) X.env = (false, eval e X.env) :: starEach es X.env := by rfl) : Sd (PA X (e :: es) (tCons te tA)) := ⟨pa_cons ha.un hr.un hs⟩
theorem pe_ixS {r : R2} (hr : IxR X r) (ha : Sd (PE X a ta)) (hb : Sd (PE X b tb)) (hs : PlainIx b) : Sd (PE X (.Subscript a b pos) (tOp r ta tb)) := ⟨pe_ix hr ha.un hb.un hs⟩
end
end L2
set_option Elab.async false
set_option linter.all false
set_option maxRecDepth 100000
set_option maxHeartbeats 4000000
namespace L2
open PySem PySem.Spec PyProof.Rows
section
variable {prog : Program} {w : World} {A : Around} {E : Value → Shared → Prop} {s : Shared}
end
end L2
set_option Elab.async false
set_option linter.all false
namespace L2
open PySem PySem.Spec PyProof.Rows
section
variable {X : Cx}
end
section
variable {prog : Program} {w : World} {A : Around} {E : Value → Shared → Prop} {s : Shared}
end
end L2
set_option Elab.async false
set_option linter.all false
set_option maxRecDepth 100000
set_option maxHeartbeats 4000000
namespace L2
open PySem PySem.Spec PyProof.Rows
section
variable {X : Cx}
theorem range_anyB (bs : List Bool) : ((List.range bs.length).any fun i => (bs[i]?).getD false) = bs.any id := by
  rw [Bool.eq_iff_iff, List.any_eq_true, List.any_eq_true]
  constructor
  · rintro ⟨i, hi, h⟩
    have hl := List.mem_range.mp hi
    rw [List.getElem?_eq_getElem hl] at h
    exact ⟨bs[i], List.getElem_mem hl, h⟩
  · rintro ⟨b, hb, h⟩
    obtain ⟨i, hl, e⟩ := List.getElem_of_mem hb
    exact ⟨i, List.mem_range.mpr hl, by rw [List.getElem?_eq_getElem hl, e]; exact h⟩
theorem call_anyL (hc : X.calm = true) : CallR X (.builtin "any") (fun xs H Q => ∃ (l : Addr) (bs : List Bool), xs = [.ref l] ∧ H l = some (.lst (bs.map V.bl)) ∧ Q (.bl (bs.any id)) H) := by
  intro pins s σ H xs us Q I r h
  obtain ⟨l, bs, rfl, hl, q⟩ := h
  obtain ⟨u, rfl, ru⟩ := vals1 r
  cases ru
  obtain ⟨_, its, n, rv, le, e⟩ := I.lstM hl
  have L1 : s.heap.IsList l its.toArray := ⟨_, e, rfl, _, rfl⟩
  have hb := bools_back rv
  have hlt : l < s.heap.objs.size := Heap.lt_size e
  refine call_any_walk (wpAny_pyIter_list L1 ?_)
  refine ⟨s.heap.objs.size, [s.heap.objs.size, l], [s.heap.objs.size], its.toArray.size, _, _, fun i => (bs[i]?).getD false, rfl, Walks.list (A := X.A.in1) (I.ok.hd hc) _ l (Nat.ne_of_lt hlt) its.toArray,
    ⟨⟨_, Heap.get?_push_size _ rfl, rfl, rfl⟩, L1.push _⟩, fun i v s' Q' E' hP hQ => ?_, fun h' tk hk => ?_⟩
  · obtain ⟨b, e, rfl⟩ := hb.get i v (by simpa using hP)
    simp only [e, Option.getD_some] at hQ
    exact wpAny_truthy_bool hQ
  · have e : ((List.range its.toArray.size).any fun i => (bs[i]?).getD false) = bs.any id := by
      rw [List.size_toArray, hb.length]; exact range_anyB bs
    rw [e]
    exact ⟨.bl (bs.any id), H, I.kept (LSm.kept_iter hk), rfl, q⟩
end
end L2
set_option Elab.async false
set_option linter.all false
set_option maxRecDepth 100000
set_option maxHeartbeats 4000000
namespace L2
open PySem PySem.Spec PyProof.Rows
section
variable {X : Cx}
open Classical in
noncomputable def eqW (H : Hp) (dx : Dt) (w : Value) : Bool := decide (∃ x d, RelV x w ∧ DR H d x ∧ Dt.beq d dx = true)
end
end L2
set_option linter.all false
set_option maxRecDepth 100000
set_option maxHeartbeats 4000000
namespace PySem
open Sem (wp)
namespace F
end F
section
variable {prog : Program} {w : World} {K : Type} [DecidableEq K] {knd : KeyKind prog w K} {A : Around} {R : Result → Shared → Prop} {E : Value → Shared → Prop}
end
end PySem
set_option Elab.async false
set_option linter.all false
set_option maxRecDepth 100000
set_option maxHeartbeats 4000000
namespace L2
open PySem PySem.Spec PyProof.Rows
section
variable {X : Cx}
end
theorem comp_dictR {o : Obj} {a : Addr} {kvs : List (Key × V)} {acc : Addr} {g : TG} {tt : TT} {te : TE} {σ : L2.St} {H : Hp} {R : Hp → Prop} (Pv : Nat → Hp → Prop) (h0 : Pv 0 (upd H acc (.lst []))) (hl : ∀ i H, i ≤ kvs.length → Pv i H → H a = some (.frz o (.dK kvs)))
    (hs : ∀ i p H, kvs[i]? = some p → Pv i H → g (kV p.1) σ H fun σ2 H4 => Ext σ σ2 ∧ tt σ2 H4 fun b H5 =>
      if b = true then te σ2 H5 fun y H6 => ∃ zs, H6 acc = some (.lst zs) ∧ zs.length < sizeLine ∧ Pv (i + 1) (upd H6 acc (.lst (zs ++ [y]))) else Pv (i + 1) H5) (hd : ∀ H, Pv kvs.length H → R H) :
    ∃ W : Nat → Nat → Hp → Prop, (∃ m, W 0 m (upd H acc (.lst []))) ∧ ∀ i m H2, W i m H2 →
      ((Itd o a kvs).stop i H2 ∧ R H2) ∨ ((Itd o a kvs).go i H2 ∧ ∃ N : Hp → Prop, (∀ H', N H' → ∃ m', m' < m ∧ W (i + 1) m' H') ∧ ∀ x H3, (Itd o a kvs).yld i H2 x H3 → g x σ H3 fun σ2 H4 => Ext σ σ2 ∧ tt σ2 H4 fun b H5 =>
        if b = true then te σ2 H5 fun y H6 => ∃ zs, H6 acc = some (.lst zs) ∧ zs.length < sizeLine ∧ N (upd H6 acc (.lst (zs ++ [y])))
        else N H5) := by
  refine ⟨fun i m H => m = kvs.length - i ∧ i ≤ kvs.length ∧ Pv i H, ⟨kvs.length, by simp, Nat.zero_le _, h0⟩, ?_⟩
  rintro i m H2 ⟨rfl, hi, p⟩
  have q := hl i H2 hi p
  by_cases hlt : i < kvs.length
  · refine .inr ⟨⟨q, hlt⟩, Pv (i + 1), fun H' p' => ⟨kvs.length - (i + 1), by omega, rfl, hlt, p'⟩, fun x H' y => ?_⟩
    obtain ⟨e, p', hp', ex⟩ := y
    subst e ex
    exact hs i p' _ hp' p
  · have e : i = kvs.length := by omega
    subst e
    exact .inl ⟨⟨q, Nat.le_refl _⟩, hd H2 p⟩
end L2
set_option linter.all false
set_option maxRecDepth 100000
set_option maxHeartbeats 4000000
namespace L2
open PySem PySem.W PyProof.Rows
section
variable {n : Nat} {r : Nat → Nat → Bool}
abbrev lt (r : Nat → Nat → Bool) (p : Array Nat) (i j : Nat) : Bool := r (p.getD i 0) (p.getD j 0)
end
end L2
set_option linter.all false
set_option maxRecDepth 100000
set_option maxHeartbeats 4000000
namespace L2
end L2
namespace PySem
open PySem.Calls PyProof.Rows PySem.W L2
open AutoSeq1 (wpAny_loadPart')
end PySem
set_option linter.all false
set_option maxRecDepth 100000
set_option maxHeartbeats 4000000
namespace PySem
open PySem.Calls PyProof.Rows PySem.W L2
section
variable {prog : Program} {w : World} {A : Around} {E : Value → Shared → Prop} {s : Shared}
end
end PySem
set_option Elab.async false
set_option linter.all false
set_option maxRecDepth 100000
set_option maxHeartbeats 4000000
namespace L2
open PySem PySem.Spec PyProof.Rows PySem.W
section
variable {X : Cx}
end
end L2
set_option Elab.async false
set_option linter.all false
set_option maxRecDepth 100000
set_option maxHeartbeats 4000000
namespace PySem
open AutoSeq1
set_option maxRecDepth 8000 in
theorem extend_tupleW (l : Addr) (items : Array Value) (n : Nat) (b : Addr) (items2 : Array Value) (n2 : Nat) (dd : Option Addr) (sl : Array (Option Value)) (hs0 : ¬(!items.isEmpty && Builtin.List.listTooLong (items.size + items2.size)) = true) (hs1 : items.size ≤ sizeLine) (hs2 : items.size + items2.size ≤ sizeLine + 1) :
    Meets (Builtin.«list.extend» ⟨[.ref l, .ref b], []⟩) (fun _ R s => s.heap.get? l = some { cls := .type "list", dict := none, data := .seq items n, slots := #[] } ∧ s.heap.get? b = some { cls := .type "tuple", dict := dd, data := .seq items2 n2, slots := sl } ∧ R (.ok (.ret Value.none)) { s with heap := s.heap.update l (Obj.mapSeq fun x => x ++ items2), toks := s.toks }) :=
  .of_wp fun prog w A R s h => by
    obtain ⟨hp, g, d, tk, os⟩ := s
    obtain ⟨hl, hb, h⟩ := h
    have f1 := idx_int
    have f2 := sub_tuple_tuple
    have f3 := sub_list_list
    have f4 := sub_tuple_list
    have f5 := sub_list_tuple
    have hz' : (items ++ items2).size ≤ sizeLine + 1 := by rw [Array.size_append]; exact hs2
    wp_walk using (wpAny_updateSeq hl rfl (hz := hs1) (_hz' := hz')), wpAny_loadPart' hl, wpAny_loadPart' hb
    exact ⟨_, rfl, h⟩
end PySem
namespace L2
open PySem PySem.Spec PyProof.Rows
section
variable {X : Cx}
def rExtendT (K : PySem.W.Frag) : V → List V → Hp → VK → Prop := fun x vs H Q => ∃ l b xs zs, x = .ref l ∧ vs = [.ref b] ∧ H l = some (.lst xs) ∧ SqT K H b zs ∧ xs.length + zs.length ≤ sizeLine ∧ Q .non (upd H l (.lst (xs ++ zs)))
theorem mt_extendT : MtM X "list.extend" (rExtendT X.K) := by
  intro pins s σ H x vs v us Q I rx rv h
  obtain ⟨l, b, xs, zs, rfl, rfl, hH, hB, hz, q⟩ := h
  cases rx
  obtain ⟨u, rfl, ru⟩ := rv.one
  cases ru
  obtain ⟨z, its, n, r, hl, e⟩ := I.lstM hH
  obtain ⟨its2, r2, p2, z2⟩ := I.tuple hB
  obtain ⟨⟨cls, dd, data, sl⟩, e2, hc, n2, hd⟩ := id p2
  simp only at hc hd
  subst hc hd
  have hl2 := r2.length
  have hsz : its.toArray.size + its2.toArray.size ≤ sizeLine := by rw [List.size_toArray, List.size_toArray]; omega
  have hlong : ¬ (!its.toArray.isEmpty && Builtin.List.listTooLong (its.toArray.size + its2.toArray.size)) = true := by
    rw [notLongL hsz, Bool.and_false]
    exact Bool.false_ne_true
  refine call_meets F.slot_list_extend ⟨_, e, rfl⟩ F.entry_list_extend (F.args_list_extend_2 _ _)
    (extend_tupleW l its.toArray n b its2.toArray n2 dd sl hlong (by rw [List.size_toArray]; omega) (by omega)) ⟨e, e2, ?_⟩
  refine ⟨.non, _, I.lset (its' := its ++ its2) hH e (by simp) (r.append r2) ?_, rfl, q⟩
  rw [List.length_append]
  omega
end
end L2
set_option Elab.async false
set_option linter.all false
set_option maxRecDepth 100000
set_option maxHeartbeats 4000000
namespace PySem.W
open PySem PySem.Spec PySem.Calls PyProof.Rows
section
variable {prog : Program} {w : World} {A : Around} {E : Value → Shared → Prop} {K : Frag} {x D : Addr} {h : Heap} {g : Array GenState} {d : Drawn} {t : Nat} {os : OsState}
end
end PySem.W
set_option Elab.async false
set_option linter.all false
set_option maxRecDepth 100000
set_option maxHeartbeats 4000000
namespace L2
open PySem PySem.Spec PyProof.Rows
section
variable {P : Program} {w : World} {H H' : Hp} {h h' g : Heap} {a : Addr} {o : HO}
end
section
variable {X : Cx} {pins : List (Addr × Obj)} {σ : St} {H H' : Hp} {s s' : Shared} {ea C : Addr}
end
section
variable {P : Program} {w : World} {K : PySem.W.Frag} {mg : Str → Option Value} {base : Heap} {N : List Str} {qual : Str} {scope : Scope} {f : Addr} {cd : Value} {A : Around} {outer : List Env} {s : Shared} {H : Hp} {E : XK}
end
end L2
set_option Elab.async false
set_option linter.all false
set_option maxRecDepth 100000
set_option maxHeartbeats 4000000
namespace PySem.W
open PySem PySem.Spec PySem.Calls PyProof.Rows
section
variable {M : Model} {A : Around} {E : Value → Shared → Prop} {K : Frag} {x C D : Addr} {b : Bool} {h : Heap} {g : Array GenState} {d : Drawn} {t : Nat} {os : OsState}
end
end PySem.W
namespace L2
open PySem PySem.Spec PyProof.Rows
section
variable {P : Program} {w : World} {K : PySem.W.Frag} {mg : Str → Option Value} {base : Heap} {N : List Str} {qual : Str} {scope : Scope} {f : Addr} {cd : Value} {A : Around} {outer : List Env} {s : Shared} {H : Hp} {E : XK}
end
end L2
set_option Elab.async false
set_option linter.all false
set_option maxRecDepth 100000
set_option maxHeartbeats 4000000
namespace L2
open PySem PySem.Spec PyProof.Rows
abbrev HR := Ends → Addr → St → Hp → Prop
section
variable {X : Cx} {pins : List (Addr × Obj)} {σ : St} {H H' : Hp} {s s' : Shared} {ea C : Addr}
end
section
variable {X : Cx} {x n : Str} {np pos : Pos} {i : Nat} {b0 : Stmt} {suite : List Stmt} {rest : List ExceptHandler} {ts : TS} {r : HR} {Da : Addr}
end
end L2
set_option Elab.async false
set_option linter.all false
set_option maxRecDepth 100000
set_option maxHeartbeats 4000000
namespace L2
open PySem PySem.Spec PyProof.Rows
end L2
set_option Elab.async false
set_option linter.all false
set_option maxRecDepth 100000
set_option maxHeartbeats 4000000
namespace L2
open PySem PySem.Spec PyProof.Rows
section
variable {prog : Program} {w : World} {A : Around} {E : Value → Shared → Prop} {s : Shared}
end
section
variable {prog : Program} {w : World} {A : Around} {E : Value → Shared → Prop} {s : Shared} {R : Result → Shared → Prop}
end
end L2
set_option Elab.async false
set_option linter.all false
set_option maxRecDepth 100000
set_option maxHeartbeats 4000000
namespace L2
open PySem PySem.Spec PyProof.Rows
section
variable {prog : Program} {w : World} {A : Around} {E : Value → Shared → Prop} {s : Shared}
end
end L2
set_option Elab.async false
set_option linter.all false
set_option maxRecDepth 100000
set_option maxHeartbeats 4000000
namespace L2
open PySem PySem.Spec PyProof.Rows
section
variable {prog : Program} {w : World} {A : Around} {E : Value → Shared → Prop} {s : Shared}
end
def ov (H N : Hp) : Hp := fun a => (N a).or (H a)
end L2
set_option Elab.async false
set_option linter.all false
set_option maxRecDepth 100000
set_option maxHeartbeats 4000000
namespace L2
open PySem PySem.Spec PyProof.Rows
end L2
set_option Elab.async false
set_option linter.all false
set_option maxRecDepth 100000
set_option maxHeartbeats 4000000
namespace L2
open PySem PySem.Spec PyProof.Rows
theorem Inv.thaw {X : Cx} {pins : List (Addr × Obj)} {σ : L2.St} {H : Hp} {s : Shared} {a : Addr} {o : Obj} {kvs : List (Key × V)} (I : Inv X pins σ H s) (ha : H a = some (.frz o (.dK kvs))) (h0 : ∀ o u, X.H₀ a ≠ some (.frz o u)) : Inv X pins σ (upd H a (.dK kvs)) s := by
  refine ⟨I.ok, I.os, I.bare, ⟨I.base.keep, I.base.slot, fun b ob e n hx => ?_, I.base.there, fun b xs e => ?_, fun b ob u e => ?_, fun b ps e => ?_⟩, I.loc, I.cell, ?_, fun x c e => ?_, fun p hp => ?_, fun b u e => ?_, I.len⟩
  · have := I.base.free b ob e n hx
    rw [upd_ne (fun z => by subst z; rw [this] at ha; cases ha)]
    exact this
  · have := I.base.tups b xs e
    rw [upd_ne (fun z => by subst z; rw [this] at ha; cases ha)]
    exact this
  · have := I.base.frzs b ob u e
    rw [upd_ne (fun z => by subst z; exact h0 _ _ e)]
    exact this
  · obtain ⟨m, e1⟩ := I.base.tbls b ps e
    refine ⟨m, ?_⟩
    rw [upd_ne (fun z => by subst z; rw [e1] at ha; cases ha)]
    exact e1
  · have := I.free
    rw [upd_ne (fun z => by rw [z, ha] at this; cases this)]
    exact this
  · have := I.freeC x c e
    rw [upd_ne (fun z => by rw [z, ha] at this; cases this)]
    exact this
  · obtain ⟨p1, p2, p3⟩ := I.pin p hp
    refine ⟨p1, ?_, p3⟩
    rw [upd_ne (fun z => by rw [z, ha] at p2; cases p2)]
    exact p2
  · by_cases hb : b = a
    · subst hb
      rw [upd_same] at e
      cases e
      obtain ⟨_, q⟩ := (show ObjOk X.prog X.w H s.heap b (.frz o (.dK kvs)) from I.hok b _ ha)
      exact q
    · rw [upd_ne hb] at e
      refine (I.hok b u e).stay (fun c v _ r => r) (fun c r => ?_) fun c xs r => ?_
      · rw [upd_ne (fun z => by subst z; rw [r] at ha; cases ha)]; exact r
      · rw [upd_ne (fun z => by subst z; rw [r] at ha; cases ha)]; exact r
def tThaw (H0 : Hp) (te : TE) : TE := fun σ H Q => te σ H fun v H1 => ∃ a o kvs, H1 a = some (.frz o (.dK kvs)) ∧ (∀ o u, H0 a ≠ some (.frz o u)) ∧ Q v (upd H1 a (.dK kvs))
theorem pe_thaw {X : Cx} {e : Expr} {te : TE} (he : PE X e te) : PE X e (tThaw X.H₀ te) := by
  intro pins s σ H Q I h
  refine thn (he pins s σ H _ I h) fun v s1 ⟨x, H1, I1, r1, q1⟩ => ?_
  obtain ⟨a, o, kvs, ha, h0, q⟩ := q1
  exact ⟨x, _, I1.thaw ha h0, r1, q⟩
def Its (x : Str) : It := ⟨fun i _ => i < x.cps.size, fun i H v H' => H' = H ∧ ∃ c, x.cps[i]? = some c ∧ v = .str ⟨#[c]⟩, fun i _ => x.cps.size ≤ i⟩
def TyS (ty : String) : Prop := ty = "str_ascii_iterator" ∨ ty = "str_iterator"
theorem turn_str {P : Program} {w : World} {K : PySem.W.Frag} {tg : Expr} (x : Str) (t : Tok) (it : Addr) : Turn P w K tg (Its x) [it] it (fun i h => ∃ ty, TyS ty ∧ h.IsStrIter it ty x t i) where
  mem := by simp
  obj := fun i h st b hb => by
    have e : b = it := by simpa using hb
    subst e
    obtain ⟨_, _, o, e, c, d⟩ := st
    exact ⟨o, e, fun v z => by rw [d] at z; cases z⟩
  keep := fun i h h' st k => by
    obtain ⟨ty, ht, o, e, r⟩ := st
    exact ⟨ty, ht, o, k it (by simp) o e, r⟩
  item := by
    intro X hP hw hK hc i pins s σ H E I hf st hg
    subst hP hw hK
    obtain ⟨ty, ht, st⟩ := st
    have hi : i < x.cps.size := hg
    have hx : x.cps[i]? = some x.cps[i] := by simp [hi]
    obtain ⟨f0, f1, f2, f3, f4, f5⟩ := hf it (by simp)
    have fin : ∀ h', h'.IsStrIter it ty x t (i + 1) → Heap.SameBut it s.heap h' → ∃ u, some (Value.str ⟨#[x.cps[i]]⟩ s.toks) = some u ∧
      wpAny (model X.prog X.w) X.A (letOwnedTupleGo tg (.ref it) u) (fun _ s2 => ∃ y H', Inv X pins σ H' s2 ∧ RelV y u ∧ (Its x).yld i H y H' ∧ (∃ ty, TyS ty ∧ s2.heap.IsStrIter it ty x t (i + 1)) ∧ ∀ b ∈ [it], H' b = none) E { s with heap := h', toks := s.toks + 1 } := by
      intro h' st' sb
      have I1 : Inv X pins σ H { s with heap := h', toks := s.toks + 1 } := I.turned (t' := s.toks + 1) (fun b o hb e => (sb.2 b hb).trans e) f0 f1 f3 f4 f5
      obtain ⟨o, e, c, d⟩ := id st'
      refine ⟨_, rfl, go_of (s := { s with heap := h', toks := s.toks + 1 }) e c d (by rcases ht with z | z <;> subst z <;> decide) ⟨.str ⟨#[x.cps[i]]⟩, H, I1, ⟨_, rfl⟩, ⟨rfl, _, hx, rfl⟩, ⟨ty, ht, st'⟩, fun b hb => (hf b hb).1⟩⟩
    rcases id ht with z | z
    · subst z
      exact wpAny_pyNext_ascii_item st hx fin
    · subst z
      exact wpAny_pyNext_wide_item st hx fin
  done := by
    intro X hP hw hK hc i pins s σ H E I hf st hg
    subst hP hw hK
    obtain ⟨ty, ht, st⟩ := st
    have hx : x.cps[i]? = none := Array.getElem?_eq_none (show x.cps.size ≤ i from hg)
    obtain ⟨f0, f1, f2, f3, f4, f5⟩ := hf it (by simp)
    rcases id ht with z | z
    · subst z
      exact wpAny_pyNext_ascii_end (I.ok.hd hc) st hx fun h' eb => ⟨rfl, I.turned (t' := s.toks) (fun b o hb e => eb b o hb e) f0 f1 f3 f4 f5⟩
    · subst z
      exact wpAny_pyNext_wide_end (I.ok.hd hc) st hx fun h' eb => ⟨rfl, I.turned (t' := s.toks) (fun b o hb e => eb b o hb e) f0 f1 f3 f4 f5⟩
  self := fun _ _ _ _ _ st h => by
    obtain ⟨ty, ht, st⟩ := st
    rcases id ht with z | z
    · subst z
      exact wpAny_pyIter_striter_ascii st h
    · subst z
      exact wpAny_pyIter_striter_wide st h
def iStr (tl : TE) : TI := fun σ H R => tl σ H fun v H1 => ∃ x, v = .str x ∧ R (Its x) H1
theorem pi_str {X : Cx} {tg l : Expr} {tl : TE} (hl : PE X l tl) : PI X tg l (iStr tl) := by
  intro pins s σ H R I h
  refine thn (hl pins s σ H _ I h) fun v s1 ⟨y, H1, I1, r1, q1⟩ => ?_
  obtain ⟨x, e, q⟩ := q1
  subst e
  obtain ⟨t, rfl⟩ := r1
  have fp : ∀ b ∈ [s1.heap.objs.size], FpOk X pins H1 b := fun b hb => by
    have e : b = s1.heap.objs.size := by simpa using hb
    subst e
    exact I1.fpOk (Nat.le_refl _) (I1.hok.fresh (Nat.le_refl _))
  cases ha : x.cps.all (· < 128)
  · refine wpAny_pyIter_wide ha ?_
    exact ⟨s1.heap.objs.size, [s1.heap.objs.size], _, _, H1, rfl, I1.kept (t' := s1.toks) fun b o e => Heap.get?_push_of_some _ e, turn_str x t _, ⟨_, .inr rfl, _, Heap.get?_push_size _ rfl, rfl, rfl⟩, fp, q⟩
  · refine wpAny_pyIter_ascii ha ?_
    exact ⟨s1.heap.objs.size, [s1.heap.objs.size], _, _, H1, rfl, I1.kept (t' := s1.toks) fun b o e => Heap.get?_push_of_some _ e, turn_str x t _, ⟨_, .inl rfl, _, Heap.get?_push_size _ rfl, rfl, rfl⟩, fp, q⟩
theorem comp_strR {x : Str} {acc : Addr} {g : TG} {tt : TT} {te : TE} {σ : L2.St} {H : Hp} {R : Hp → Prop} (Pv : Nat → Hp → Prop) (h0 : Pv 0 (upd H acc (.lst [])))
    (hs : ∀ i c H, x.cps[i]? = some c → Pv i H → g (.str ⟨#[c]⟩) σ H fun σ2 H4 => Ext σ σ2 ∧ tt σ2 H4 fun b H5 =>
      if b = true then te σ2 H5 fun y H6 => ∃ zs, H6 acc = some (.lst zs) ∧ zs.length < sizeLine ∧ Pv (i + 1) (upd H6 acc (.lst (zs ++ [y]))) else Pv (i + 1) H5) (hd : ∀ H, Pv x.cps.size H → R H) :
    ∃ W : Nat → Nat → Hp → Prop, (∃ m, W 0 m (upd H acc (.lst []))) ∧ ∀ i m H2, W i m H2 →
      ((Its x).stop i H2 ∧ R H2) ∨ ((Its x).go i H2 ∧ ∃ N : Hp → Prop, (∀ H', N H' → ∃ m', m' < m ∧ W (i + 1) m' H') ∧ ∀ x' H3, (Its x).yld i H2 x' H3 → g x' σ H3 fun σ2 H4 => Ext σ σ2 ∧ tt σ2 H4 fun b H5 =>
        if b = true then te σ2 H5 fun y H6 => ∃ zs, H6 acc = some (.lst zs) ∧ zs.length < sizeLine ∧ N (upd H6 acc (.lst (zs ++ [y])))
        else N H5) := by
  refine ⟨fun i m H => m = x.cps.size - i ∧ i ≤ x.cps.size ∧ Pv i H, ⟨x.cps.size, by simp, Nat.zero_le _, h0⟩, ?_⟩
  rintro i m H2 ⟨rfl, hi, p⟩
  by_cases hlt : i < x.cps.size
  · refine .inr ⟨hlt, Pv (i + 1), fun H' p' => ⟨x.cps.size - (i + 1), by omega, rfl, hlt, p'⟩, fun v H' y => ?_⟩
    obtain ⟨e, c, hc, ex⟩ := y
    subst e ex
    exact hs i c _ hc p
  · have e : i = x.cps.size := by omega
    subst e
    exact .inl ⟨Nat.le_refl _, hd H2 p⟩
def signsS (x : Str) : List Str := x.cps.toList.map fun c => ⟨#[c]⟩
theorem signsS_get (x : Str) (i : Nat) : (signsS x)[i]? = (x.cps[i]?).map fun c => ⟨#[c]⟩ := by unfold signsS; rw [List.getElem?_map, Array.getElem?_toList]
theorem call_listS {X : Cx} (hc : X.calm = true) : CallR X (.type "list") (fun xs H Q => ∃ x : Str, xs = [.str x] ∧ x.cps.size ≤ sizeLine ∧ ∀ l, H l = none → Q (.ref l) (upd H l (.lst ((signsS x).map V.str)))) := by
  intro pins s σ H xs us Q I r h
  obtain ⟨x, rfl, hz, q⟩ := h
  obtain ⟨u, rfl, ru⟩ := vals1 r
  obtain ⟨t, rfl⟩ := ru
  refine call_list_str (I.ok.hd hc) x t (hn := hz) fun h' tk acc' c' hk hS hacc => ?_
  have hlen : ((signsS x).map V.str).length = x.cps.size := by simp [signsS]
  refine ⟨.ref s.heap.objs.size, _, I.laid (t' := tk) hk (Nat.le_refl _) (show ObjOk X.prog X.w _ h' _ (.lst ((signsS x).map V.str)) from ⟨by rw [hlen]; exact hz, acc'.toList, c', ?_, by rw [Array.toArray_toList]; exact hS⟩), rfl, q _ (I.hok.fresh (Nat.le_refl _))⟩
  have gen : ∀ (n : Nat) (vs : List V) (us : List Value), vs.length = us.length → (∀ (j : Nat) v u, vs[j]? = some v → us[j]? = some u → RelV v u) → Vals vs us := by
    intro _ vs
    induction vs with
    | nil => intro us hl _; cases us with | nil => exact .nil | cons _ _ => cases hl
    | cons v vs ih => intro us hl hr; cases us with
      | nil => cases hl
      | cons u us => exact .cons (hr 0 v u rfl rfl) (ih us (by simpa using hl) fun j a b ha hb => hr (j + 1) a b (by simpa using ha) (by simpa using hb))
  refine gen 0 _ _ (by rw [hlen, Array.length_toList]; exact hacc.1.symm) fun j v u hv hu => ?_
  obtain ⟨c, t', hc', rfl⟩ := hacc.2 j u (by simpa using hu)
  rw [List.getElem?_map, signsS_get, hc'] at hv
  cases hv
  exact ⟨_, rfl⟩
def viewO (p d : Addr) : HO := .ext fun h => h.IsValuesView p d
theorem mt_values {X : Cx} : MtR X "dict.values" (fun v vs H Q => ∃ (d : Addr) (kvs : List (Key × V)), v = .ref d ∧ vs = [] ∧ H d = some (.dK kvs) ∧ ∀ p, H p = none → Q (.ref p) (upd H p (viewO p d))) := by
  intro pins s σ H x xs v us Q I rx r h
  obtain ⟨d, kvs, rfl, rfl, hd, q⟩ := h
  cases rx
  cases r
  obtain ⟨z, sy, vs, rv, D⟩ := dk_of I.hok hd
  refine call_meetsIn PySem.F.slot_dict_values D.typeIs PySem.F.entry_dict_values (PySem.F.args_dict_values_1 _) (meets_dict_values (mixKind X.prog X.w) d sy) ⟨⟨vs, D⟩, ?_⟩
  refine ⟨.ref s.heap.objs.size, _, I.laid (t' := s.toks) (o := viewO s.heap.objs.size d) (fun b u e => Heap.get?_push_of_some _ e) (Nat.le_refl _) ?_, rfl, q _ (I.hok.fresh (Nat.le_refl _))⟩
  refine ⟨⟨_, Heap.get?_push_size _ rfl, rfl, rfl⟩, ⟨_, Heap.get?_push_size _ rfl⟩, fun h1 h2 ⟨o, e, r⟩ k => ⟨o, k o e, r⟩⟩
theorem kv_get2 : ∀ {kvs : List (Key × V)} {vs : List (Key × Value)} {i : Nat} {p : Key × V}, KV kvs vs → kvs[i]? = some p → ∃ v, vs[i]? = some (p.1, v) ∧ RelV p.2 v
  | _, _, _, _, .nil, e => by simp at e
  | _, _, 0, p, @Paired.cons _ _ _ a b _ _ r _, e => by
    have e' : a = p := by simpa using e
    subst e'
    exact ⟨b.2, by rw [r.1]; rfl, r.2⟩
  | _, _, i + 1, p, .cons _ t, e => by
    obtain ⟨v, h, r⟩ := kv_get2 (i := i) (p := p) t (by simpa using e)
    exact ⟨v, by simpa using h, r⟩
def Itva (o : Obj) (a : Addr) (kvs : List (Key × V)) : It :=
  ⟨fun i H => H a = some (.frz o (.dK kvs)) ∧ i < kvs.length, fun i H x H' => H' = H ∧ ∃ p, kvs[i]? = some p ∧ x = p.2, fun i H => H a = some (.frz o (.dK kvs)) ∧ kvs.length ≤ i⟩
theorem turn_vals {P : Program} {w : World} {K : PySem.W.Frag} {tg : Expr} (a it : Addr) (o : Obj) (kvs : List (Key × V)) : Turn P w K tg (Itva o a kvs) [it] it (fun i h => ∃ es ep, o.data = .dict es ep ∧ h.IsValIter it a i kvs.length ep) where
  mem := by simp
  obj := fun i h st b hb => by
    have e : b = it := by simpa using hb
    subst e
    obtain ⟨_, _, _, ob, e, c, d⟩ := st
    exact ⟨ob, e, fun v z => by rw [d] at z; cases z⟩
  keep := fun i h h' st k => by
    obtain ⟨es, ep, hd, ob, e, r⟩ := st
    exact ⟨es, ep, hd, ob, k it (by simp) ob e, r⟩
  item := by
    intro X hP hw hK hc i pins s σ H E I hf st hg
    subst hP hw hK
    obtain ⟨ha, hi⟩ := hg
    obtain ⟨es, ep, hd, hit⟩ := st
    obtain ⟨vs, r, hl, hm⟩ := frz_at I ha hd
    obtain ⟨u, hv, ru⟩ := kv_get2 r (List.getElem?_eq_getElem hi)
    obtain ⟨f0, f1, f2, f3, f4, f5⟩ := hf it (by simp)
    rw [hl] at hit
    refine wpAny_pyNext_values_item hit hm hv fun h' hit' sb => ?_
    have I1 : Inv X pins σ H { s with heap := h' } := I.turned (t' := s.toks) (fun b o hb e => (sb.2 b hb).trans e) f0 f1 f3 f4 f5
    obtain ⟨ob, e, c, d⟩ := id hit'
    rw [← hl] at hit'
    exact ⟨_, rfl, go_of (s := { s with heap := h' }) e c d (by decide) ⟨_, H, I1, ru, ⟨rfl, _, List.getElem?_eq_getElem hi, rfl⟩, ⟨es, ep, hd, hit'⟩, fun b hb => (hf b hb).1⟩⟩
  done := by
    intro X hP hw hK hc i pins s σ H E I hf st hg
    subst hP hw hK
    obtain ⟨ha, hi⟩ := hg
    obtain ⟨es, ep, hd, hit⟩ := st
    obtain ⟨vs, r, hl, hm⟩ := frz_at I ha hd
    obtain ⟨f0, f1, f2, f3, f4, f5⟩ := hf it (by simp)
    rw [hl] at hit
    exact wpAny_pyNext_values_end (I.ok.hd hc) hit hm (List.getElem?_eq_none (by omega)) fun h' eb => ⟨rfl, I.turned (t' := s.toks) (fun b o hb e => eb b o hb e) f0 f1 f3 f4 f5⟩
  self := fun A i s Q E st h => by
    obtain ⟨es, ep, hd, hit⟩ := st
    exact wpAny_pyIter_valiter hit h
def iVals (tl : TE) : TI := fun σ H R => tl σ H fun x H1 => ∃ p a kvs, x = .ref p ∧ H1 p = some (viewO p a) ∧ H1 a = some (.dK kvs) ∧ ∀ o, R (Itva o a kvs) (upd H1 a (.frz o (.dK kvs)))
theorem pi_vals {X : Cx} {tg l : Expr} {tl : TE} (hl : PE X l tl) : PI X tg l (iVals tl) := by
  intro pins s σ H R I h
  refine thn (hl pins s σ H _ I h) fun v s1 ⟨x, H1, I1, r1, q1⟩ => ?_
  obtain ⟨p, a, kvs, e, hp, ha, q⟩ := q1
  subst e
  cases r1
  obtain ⟨vw, _⟩ := (show ObjOk X.prog X.w H1 s1.heap p (viewO p a) from I1.hok p _ hp)
  obtain ⟨z, sy, vs, r, o, es', ep', e, c1, d1, rest⟩ := (show ObjOk X.prog X.w H1 s1.heap a (.dK kvs) from I1.hok a _ ha)
  refine wpAny_pyIter_values (knd := mixKind X.prog X.w) (kvs := vs) (ep := ep') vw ⟨o, es', e, c1, d1, rest⟩ ?_
  have lt := Heap.lt_size e
  refine ⟨s1.heap.objs.size, [s1.heap.objs.size], _, _, upd H1 a (.frz o (.dK kvs)), rfl, I1.write (t' := s1.toks) (x := a) (e := a) (by rw [ha]; exact True.intro) (.inl rfl) (fun b o _ e => Heap.get?_push_of_some _ e) ⟨o, Heap.get?_push_of_some _ e⟩ ?_, turn_vals a _ o kvs, ⟨es', ep', d1, _, Heap.get?_push_size _ rfl, rfl, by rw [Paired.length r]; rfl⟩, fun b hb => ?_, q o⟩
  · exact ⟨Heap.get?_push_of_some _ e, z, sy, vs, r, o, es', ep', Heap.get?_push_of_some _ e, c1, d1, rest⟩
  · have e : b = s1.heap.objs.size := by simpa using hb
    subst e
    exact I1.fpOk (Nat.le_refl _) (by rw [upd_ne (Nat.ne_of_gt lt)]; exact I1.hok.fresh (Nat.le_refl _))
theorem for_vals {o : Obj} {a : Addr} {kvs : List (Key × V)} {g : TG} {tb : TS} {D : Ends} {σ : L2.St} {H : Hp} (Pv : Nat → L2.St → Hp → Prop) (h0 : Pv 0 σ H) (hl : ∀ i σ H, i ≤ kvs.length → Pv i σ H → H a = some (.frz o (.dK kvs)))
    (hs : ∀ i p σ H, kvs[i]? = some p → Pv i σ H → g p.2 σ H fun σ2 H2 => tb { D with nx := Pv (i + 1), ct := Pv (i + 1), bk := D.nx } σ2 H2) (hd : ∀ σ H, Pv kvs.length σ H → D.nx σ H) :
    ∃ W : Nat → Nat → L2.St → Hp → Prop, (∃ m, W 0 m σ H) ∧ ∀ i m σ H, W i m σ H →
      ((Itva o a kvs).stop i H ∧ D.nx σ H) ∨ ((Itva o a kvs).go i H ∧ ∃ N : L2.St → Hp → Prop, (∀ σ' H', N σ' H' → ∃ m', m' < m ∧ W (i + 1) m' σ' H') ∧ ∀ x H', (Itva o a kvs).yld i H x H' → g x σ H' fun σ2 H2 => tb { D with nx := N, ct := N, bk := D.nx } σ2 H2) := by
  refine ⟨fun i m σ H => m = kvs.length - i ∧ i ≤ kvs.length ∧ Pv i σ H, ⟨kvs.length, by simp, Nat.zero_le _, h0⟩, ?_⟩
  rintro i m σ H ⟨rfl, hi, p⟩
  have q := hl i σ H hi p
  by_cases hlt : i < kvs.length
  · refine .inr ⟨⟨q, hlt⟩, Pv (i + 1), fun σ' H' p' => ⟨kvs.length - (i + 1), by omega, rfl, hlt, p'⟩, fun x H' y => ?_⟩
    obtain ⟨e, p', hp', ex⟩ := y
    subst e ex
    exact hs i p' σ _ hp' p
  · have e : i = kvs.length := by omega
    subst e
    exact .inl ⟨⟨q, Nat.le_refl _⟩, hd σ H p⟩
theorem hits_copy {A : Around} {s : Shared} {vb : List (Key × Value)} : ∀ {va : List (Key × Value)}, (∀ p ∈ va, valueAt vb p.1 = some p.2) → PySem.W.KeqHits A s vb va true
  | [], _ => .nil
  | (k, v) :: va, h => by
    have := PySem.W.KeqHits.hit (A := A) (s := s) (h (k, v) List.mem_cons_self) (SeqAt.EqAt.same v) (hits_copy fun p hp => h p (List.mem_cons_of_mem _ hp))
    exact this
theorem kv_refs : ∀ {kvs : List (Key × V)} {va vb : List (Key × Value)}, KV kvs va → KV kvs vb → (∀ p ∈ kvs, ∃ a, p.2 = V.ref a) → va = vb
  | _, _, _, .nil, .nil, _ => rfl
  | p :: kvs, q :: va, q' :: vb, .cons r t, .cons r' t', h => by
    obtain ⟨a, e⟩ := h p List.mem_cons_self
    obtain ⟨k1, v1⟩ := q
    obtain ⟨k2, v2⟩ := q'
    obtain ⟨e1, r1⟩ := r
    obtain ⟨e2, r2⟩ := r'
    rw [e] at r1 r2
    cases r1
    cases r2
    dsimp only at e1 e2
    rw [← e1, ← e2, kv_refs t t' fun x hx => h x (List.mem_cons_of_mem _ hx)]
def rNeC : R2 := fun x y H Q => ∃ (a b : Addr) (kvs : List (Key × V)), x = .ref a ∧ y = .ref b ∧ H a = some (.dK kvs) ∧ H b = some (.dK kvs) ∧ (∀ p ∈ kvs, ∃ c, p.2 = V.ref c) ∧ Q (.bl false) H
theorem op_neC {X : Cx} (hu : X.A.units < cLine) : OpR X (compareOp .NotEq) rNeC := by
  intro pins s σ H x y v u Q I rx ry h
  obtain ⟨a, b, kvs, rfl, rfl, ha, hb, hr, q⟩ := h
  cases rx
  cases ry
  obtain ⟨z1, sa, va, ra, da⟩ := dk_of I.hok ha
  obtain ⟨z2, sb, vb, rb, db⟩ := dk_of I.hok hb
  have e := kv_refs ra rb hr
  subst e
  have nd : (va.map (·.1)).Nodup := let ⟨_, _, _, _, _, _, _, _, n⟩ := da; n
  refine PySem.W.keq_ne sa sb da db hu (fun _ => hits_copy fun p hp => ?_) ?_
  · obtain ⟨i, hi, e⟩ := List.getElem_of_mem hp
    exact valueAt_of_get nd (i := i) (by rw [List.getElem?_eq_getElem hi, e])
  · rw [beq_self_eq_true]
    exact ⟨.bl false, H, I, rfl, q⟩
end L2
set_option Elab.async false
set_option linter.all false
set_option maxRecDepth 100000
set_option maxHeartbeats 4000000
namespace L2
open PySem PySem.Spec PyProof.Rows
section
variable {X : Cx} {o e : Expr} {es : List Expr} {te to : TE} {t : TA} {name x : Str} {apos cpos pos p : Pos} {T id : String}
theorem pe_callTyS {r : List V → Hp → VK → Prop} (hc : CallR X (.type T) r) (hg : Gl X x) (hm : X.mg x = none) (hv : bootBuiltins x = some (.type T)) (ha : Sd (PA X (e :: es) t)) (hn : x ≠ "__name__" := by decide) (hdb : (x == ("__debug__" : Str)) = false := by decide)
    (he : starEach (e :: es) X.env = (false, eval e X.env) :: starEach es X.env := by rfl) (hpl : (backTo pos (starEach es X.env)).any (·.1) = false := by rfl) : Sd (PE X (.Call (.Name x p) (e :: es) [] pos) (tCB r t)) := ⟨pe_callTy hc hg hm hv ha.un hn hdb he hpl⟩
end
instance instDecDt : DecidableEq Dt := fun a b => decidable_of_iff (Dt.beq a b = true) Dt.beq_iff
def lookB (x : Str) : List Str → Option Nat
  | [] => none
  | y :: r => if y = x then some 0 else (lookB x r).map (· + 1)
def keyB (x : Str) (rs : List Str) : Nat ⊕ Str := match lookB x rs with
  | some k => .inl k
  | none => .inr x
def keyD : Nat ⊕ Str → Dt
  | .inl k => .tup [.str "bound", .int k]
  | .inr z => .tup [.str "free", .str z]
def bareN (x : Str) (bs : List Str) : Dt := keyD (keyB x bs.reverse)
inductive Lf where
  | name (x : Str) | num (n : Int) | gap (g : Str) | ask (x : Str) | stop (x : Str)
def dtL : Lf → List Dt
  | .name x => [.str "name", .str x] | .num n => [.str "num", .int n] | .gap g => [.str "gap", .str g, .tup []] | .ask x => [.str "ask", .str x] | .stop x => [.str "stop", .str x]
def bareL (l : Lf) (bs : List Str) : Dt := match l with
  | .name x => bareN x bs
  | l => .tup (dtL l)
def LfRep (H : Hp) : Lf → V → Prop
  | .name x, v => ∃ a, v = .ref a ∧ H a = some (.tup [.str "name", .str x])
  | .num n, v => ∃ a, v = .ref a ∧ H a = some (.tup [.str "num", .int n])
  | .gap g, v => ∃ a b, v = .ref a ∧ H a = some (.tup [.str "gap", .str g, .ref b]) ∧ H b = some (.tup [])
  | .ask x, v => ∃ a, v = .ref a ∧ H a = some (.tup [.str "ask", .str x])
  | .stop x, v => ∃ a, v = .ref a ∧ H a = some (.tup [.str "stop", .str x])
theorem LfRep.dr {H : Hp} : ∀ {l : Lf} {v : V}, LfRep H l v → DR H (.tup (dtL l)) v
  | .name _, _, ⟨_, rfl, h⟩ => .tup h (.cons (.str _) (.cons (.str _) .nil))
  | .num _, _, ⟨_, rfl, h⟩ => .tup h (.cons (.str _) (.cons (.int _) .nil))
  | .gap _, _, ⟨_, _, rfl, h, h'⟩ => .tup h (.cons (.str _) (.cons (.str _) (.cons (.tup h' .nil) .nil)))
  | .ask _, _, ⟨_, rfl, h⟩ => .tup h (.cons (.str _) (.cons (.str _) .nil))
  | .stop _, _, ⟨_, rfl, h⟩ => .tup h (.cons (.str _) (.cons (.str _) .nil))
def Atom.lf : Atom → Lf
  | .name x => .name x | .num n => .num n | .gap g => .gap g
theorem AtRep.lf {H : Hp} : ∀ {a : Atom} {v : V}, AtRep H a v → LfRep H a.lf v
  | .name _, _, h => h
  | .num _, _, h => h
  | .gap _, _, h => h
def bareA (bs : List Str) (a : Atom) : Dt := bareL a.lf bs
def bare : Tr → List Str → Dt
  | .num n, _ => .tup [.str "num", .int n]
  | .name x, bs => bareN x bs
  | .ask x, _ => .tup [.str "ask", .str x]
  | .stop x, _ => .tup [.str "stop", .str x]
  | .gap g as, bs => .tup [.str "gap", .str g, .tup (as.map (bareA bs))]
  | .say a, bs => .tup [.str "say", bare a bs]
  | .bin o a b, bs => .tup [.str o.s, bare a bs, bare b bs]
  | .ite a b c, bs => .tup [.str "if", bare a bs, bare b bs, bare c bs]
  | .lett x a b, bs => .tup [.str "let", bare a bs, bare b (bs ++ [x])]
end L2
set_option Elab.async false
set_option linter.all false
set_option maxRecDepth 100000
set_option maxHeartbeats 4000000
namespace L2
open PySem PySem.Spec PyProof.Rows
def Tr.fv : Tr → List Str → List Str
  | .say a, bs => a.fv bs
  | .bin _ a b, bs => a.fv bs ++ b.fv bs
  | .ite a b c, bs => a.fv bs ++ (b.fv bs ++ c.fv bs)
  | .lett x a b, bs => a.fv bs ++ b.fv (bs ++ [x])
  | t, bs => t.names.filter fun x => decide (x ∉ bs)
def bIn (t : Tr) (i : Int) (bs : List Str) : List Str := match t with
  | .lett x _ _ => if i = 1 then bs ++ [x] else bs
  | _ => bs
def kids : Tr → List Str → List (Tr × List Str)
  | .say a, bs => [(a, bs)]
  | .bin _ a b, bs => [(a, bs), (b, bs)]
  | .ite a b c, bs => [(a, bs), (b, bs), (c, bs)]
  | .lett x a b, bs => [(a, bs), (b, bs ++ [x])]
  | _, _ => []
theorem kids_len (t : Tr) (bs : List Str) : (kids t bs).length = t.parts.length := by cases t <;> rfl
theorem kids_get (t : Tr) (bs : List Str) (i : Nat) (c : Tr) (h : t.parts[i]? = some c) : (kids t bs)[i]? = some (c, bIn t i bs) := by
  cases t with
  | say a => match i, h with
    | 0, h => cases h; rfl
  | bin o a b => match i, h with
    | 0, h => cases h; rfl
    | 1, h => cases h; rfl
  | ite a b c => match i, h with
    | 0, h => cases h; rfl
    | 1, h => cases h; rfl
    | 2, h => cases h; rfl
  | lett x a b => match i, h with
    | 0, h => cases h; rfl
    | 1, h => cases h; rfl
  | _ => simp [Tr.parts] at h
theorem kids_fv (t : Tr) (bs : List Str) (x : Str) : x ∈ t.fv bs ↔ (x ∈ t.names ∧ x ∉ bs) ∨ ∃ q ∈ kids t bs, x ∈ q.1.fv q.2 := by
  cases t <;> simp [Tr.fv, kids, Tr.names, List.mem_filter]
def total (l : List (Tr × List Str)) : Nat := (l.map fun q => q.1.size).sum
theorem total_append (a b : List (Tr × List Str)) : total (a ++ b) = total a + total b := by simp [total]
theorem total_cons (a : Tr × List Str) (b : List (Tr × List Str)) : total (a :: b) = a.1.size + total b := by simp [total]
theorem total_nil : total [] = 0 := rfl
theorem size_pos (t : Tr) : 1 ≤ t.size := by cases t <;> simp [Tr.size]
theorem len_total : ∀ l : List (Tr × List Str), l.length ≤ total l
  | [] => Nat.le_refl _
  | a :: r => by rw [total_cons, List.length_cons]; have := len_total r; have := size_pos a.1; omega
theorem kids_total (t : Tr) (bs : List Str) : total (kids t bs) + 1 = t.size := by cases t <;> simp [kids, total, Tr.size] <;> omega
theorem kids_deep (t : Tr) (bs : List Str) (m : Nat) (h : bs.length + t.size ≤ m) : ∀ q ∈ kids t bs, q.2.length + q.1.size ≤ m := by
  cases t <;> simp [kids, Tr.size] at h ⊢ <;> omega
def kvOf (ks : List Str) : List (Key × V) := ks.map fun x => (Sum.inr x, V.bl true)
def addK (ks : List Str) (x : Str) : List Str := if x ∈ ks then ks else ks ++ [x]
theorem put_kvOf (ks : List Str) (x : Str) : putK (kvOf ks) (Sum.inr x) (.bl true) = kvOf (addK ks x) := by
  unfold putK addK
  have e : ((kvOf ks).any fun kv => decide (kv.1 = Sum.inr x)) = decide (x ∈ ks) := by
    rw [Bool.eq_iff_iff, List.any_eq_true, decide_eq_true_iff]
    constructor
    · rintro ⟨p, hp, h⟩
      obtain ⟨y, hy, rfl⟩ := List.mem_map.mp hp
      have : (Sum.inr y : Key) = Sum.inr x := of_decide_eq_true h
      cases this
      exact hy
    · intro h
      exact ⟨_, List.mem_map.mpr ⟨x, h, rfl⟩, decide_eq_true rfl⟩
  rw [e]
  by_cases h : x ∈ ks
  · rw [if_pos (decide_eq_true h), if_pos h]
    unfold kvOf
    rw [List.map_map]
    refine List.map_congr_left fun y _ => ?_
    show (if (Sum.inr y : Key) = Sum.inr x then ((Sum.inr y : Key), V.bl true) else (Sum.inr y, V.bl true)) = (Sum.inr y, V.bl true)
    split <;> rfl
  · rw [if_neg (by simpa using h), if_neg h]
    simp [kvOf]
theorem addK_nodup {ks : List Str} {x : Str} (h : ks.Nodup) : (addK ks x).Nodup := by
  unfold addK
  split
  · exact h
  · rename_i n
    rw [List.nodup_append]
    refine ⟨h, by simp, fun a ha b hb e => ?_⟩
    rw [List.mem_singleton.mp hb] at e
    exact n (e ▸ ha)
theorem mem_addK {ks : List Str} {x y : Str} : y ∈ addK ks x ↔ y ∈ ks ∨ y = x := by
  unfold addK
  split
  · rename_i h
    constructor
    · exact .inl
    · rintro (z | z)
      · exact z
      · rw [z]; exact h
  · simp
theorem len_addK (ks : List Str) (x : Str) : (addK ks x).length ≤ ks.length + 1 := by
  unfold addK; split <;> simp
theorem nodup_len : ∀ {ks ws : List Str}, ks.Nodup → (∀ x ∈ ks, x ∈ ws) → ks.length ≤ ws.length
  | [], _, _, _ => Nat.zero_le _
  | k :: ks, ws, hn, h => by
    have hk := h k List.mem_cons_self
    have h' : ∀ x ∈ ks, x ∈ ws.erase k := fun x hx => by
      have ne : x ≠ k := fun e => (List.nodup_cons.mp hn).1 (e ▸ hx)
      exact (List.mem_erase_of_ne ne).mpr (h x (List.mem_cons_of_mem _ hx))
    have ih := nodup_len (List.nodup_cons.mp hn).2 h'
    rw [List.length_erase_of_mem hk] at ih
    have : 0 < ws.length := List.length_pos_of_mem hk
    rw [List.length_cons]
    omega
end L2
set_option Elab.async false
set_option linter.all false
set_option maxRecDepth 100000
set_option maxHeartbeats 4000000
namespace L2
open PySem PySem.Spec PyProof.Rows
abbrev Told := Str → Option Atom
def tOf (τ : Told) (x : Str) : Atom := (τ x).getD (.name x)
def putA (τ : Told) : Atom → Atom
  | .name x => tOf τ x
  | a => a
def Atom.tr : Atom → Tr
  | .name x => .name x | .num n => .num n | .gap g => .gap g []
theorem AtRep.tr {H : Hp} : ∀ {a : Atom} {v : V}, AtRep H a v → Rep H a.tr v
  | .name _, _, h => h
  | .num _, _, h => h
  | .gap _, _, ⟨a, b, e, h, h'⟩ => ⟨a, b, [], e, h, h', by simp, .nil⟩
def headT (τ : Told) : Tr → Tr
  | .name x => (tOf τ x).tr
  | .gap g as => .gap g (as.map (putA τ))
  | t => t
def keyDA : Nat ⊕ Atom → Dt
  | .inl k => .tup [.str "bound", .int k]
  | .inr (.name y) => .tup [.str "free", .str y]
  | .inr (.num n) => .tup [.str "num", .int n]
  | .inr (.gap g) => .tup [.str "gap", .str g, .tup []]
def keyX (L : Told) (bs : List Str) (x : Str) : Nat ⊕ Atom := match lookB x bs.reverse with
  | some k => .inl k
  | none => .inr (tOf L x)
def noT : Told := fun _ => none
def keyA (cs : List Str) : Atom → Nat ⊕ Atom
  | .name y => keyX noT cs y
  | a => .inr a
def shA : Nat ⊕ Atom → Nat ⊕ Atom
  | .inl k => .inl (k + 1)
  | .inr a => .inr a
theorem keyX_snoc (L : Told) (bs : List Str) (n x : Str) : keyX L (bs ++ [n]) x = if n = x then .inl 0 else shA (keyX L bs x) := by
  unfold keyX
  rw [List.reverse_append, List.reverse_singleton, List.singleton_append, lookB]
  by_cases h : n = x
  · rw [if_pos h, if_pos h]
  · rw [if_neg h, if_neg h]
    cases lookB x bs.reverse <;> rfl
def bareAW (L : Told) (bs : List Str) : Atom → Dt
  | .name x => keyDA (keyX L bs x)
  | .num n => .tup [.str "num", .int n]
  | .gap g => .tup [.str "gap", .str g, .tup []]
def bareW (L : Told) : Tr → List Str → Dt
  | .num n, _ => .tup [.str "num", .int n]
  | .name x, bs => keyDA (keyX L bs x)
  | .ask x, _ => .tup [.str "ask", .str x]
  | .stop x, _ => .tup [.str "stop", .str x]
  | .gap g as, bs => .tup [.str "gap", .str g, .tup (as.map (bareAW L bs))]
  | .say a, bs => .tup [.str "say", bareW L a bs]
  | .bin o a b, bs => .tup [.str o.s, bareW L a bs, bareW L b bs]
  | .ite a b c, bs => .tup [.str "if", bareW L a bs, bareW L b bs, bareW L c bs]
  | .lett x a b, bs => .tup [.str "let", bareW L a bs, bareW L b (bs ++ [x])]
theorem bareAW_tr (L : Told) (bs : List Str) (a : Atom) : bareAW L bs a = bareW L a.tr bs := by cases a <;> rfl
theorem bareAW_key (cs : List Str) (a : Atom) : bareAW noT cs a = keyDA (keyA cs a) := by cases a <;> rfl
theorem fv_iff : ∀ (t : Tr) (bs : List Str) (x : Str), x ∈ t.fv bs ↔ x ∈ t.fv [] ∧ x ∉ bs
  | .say a, bs, x => fv_iff a bs x
  | .bin _ a b, bs, x => by simp only [Tr.fv, List.mem_append]; rw [fv_iff a bs, fv_iff b bs]; exact or_and_right.symm
  | .ite a b c, bs, x => by simp only [Tr.fv, List.mem_append]; rw [fv_iff a bs, fv_iff b bs, fv_iff c bs]; constructor <;> (intro h; simp only [or_and_right] at *; exact h)
  | .lett n a b, bs, x => by
    simp only [Tr.fv, List.mem_append, List.nil_append]
    rw [fv_iff a bs, fv_iff b (bs ++ [n]), fv_iff b [n], List.mem_append]
    constructor
    · rintro (⟨h, h'⟩ | ⟨h, h'⟩)
      · exact ⟨.inl h, h'⟩
      · exact ⟨.inr ⟨h, fun z => h' (.inr z)⟩, fun z => h' (.inl z)⟩
    · rintro ⟨h | ⟨h, h'⟩, h2⟩
      · exact .inl ⟨h, h2⟩
      · exact .inr ⟨h, fun z => z.elim h2 h'⟩
  | .num _, bs, x => by simp [Tr.fv, Tr.names]
  | .name _, bs, x => by simp [Tr.fv, Tr.names]
  | .ask _, bs, x => by simp [Tr.fv, Tr.names]
  | .stop _, bs, x => by simp [Tr.fv, Tr.names]
  | .gap _ _, bs, x => by simp [Tr.fv, Tr.names]
def Tr.wrds : Tr → List Str
  | .say a => a.wrds
  | .bin _ a b => a.wrds ++ b.wrds
  | .ite a b c => a.wrds ++ (b.wrds ++ c.wrds)
  | .lett x a b => x :: (a.wrds ++ b.wrds)
  | t => t.names
theorem fv_wrds : ∀ (t : Tr) (x : Str), x ∈ t.fv [] → x ∈ t.wrds
  | .say a, x, h => fv_wrds a x h
  | .bin _ a b, x, h => by
    simp only [Tr.fv, List.mem_append] at h
    simp only [Tr.wrds, List.mem_append]
    exact h.imp (fv_wrds a x) (fv_wrds b x)
  | .ite a b c, x, h => by
    simp only [Tr.fv, List.mem_append] at h
    simp only [Tr.wrds, List.mem_append]
    exact h.imp (fv_wrds a x) (Or.imp (fv_wrds b x) (fv_wrds c x))
  | .lett n a b, x, h => by
    simp only [Tr.fv, List.mem_append, List.nil_append] at h
    simp only [Tr.wrds, List.mem_cons, List.mem_append]
    exact .inr (h.imp (fv_wrds a x) fun z => fv_wrds b x ((fv_iff b [n] x).mp z).1)
  | .num _, x, h => by simp [Tr.fv, Tr.names] at h
  | .name _, x, h => by simpa [Tr.fv, Tr.wrds] using h
  | .ask _, x, h => by simp [Tr.fv, Tr.names] at h
  | .stop _, x, h => by simp [Tr.fv, Tr.names] at h
  | .gap _ _, x, h => by simpa [Tr.fv, Tr.wrds] using h
structure Itm where
  t : Tr
  τ : Told
  bs : List Str
  cs : List Str
def Req (L : Told) (q : Itm) : Prop := ∀ x ∈ q.t.fv [], keyA q.cs (tOf q.τ x) = keyX L q.bs x
def caught (τ : Told) (n : Str) (b : Tr) : Prop := ∃ x, x ≠ n ∧ τ x = some (.name n) ∧ x ∈ b.fv []
def setT (τ : Told) (n : Str) (a : Atom) : Told := fun x => if x = n then some a else τ x
theorem tOf_set (τ : Told) (n : Str) (a : Atom) (x : Str) : tOf (setT τ n a) x = if x = n then a else tOf τ x := by
  unfold tOf setT
  split <;> rfl
def headI (q : Itm) (m : Str) : Tr := match q.t with
  | .lett _ a b => .lett m a b
  | t => headT q.τ t
def kidsI (q : Itm) (m : Str) : List Itm := match q.t with
  | .lett n a b => [⟨a, q.τ, q.bs, q.cs⟩, ⟨b, setT q.τ n (.name m), q.bs ++ [n], q.cs ++ [m]⟩]
  | t => t.parts.map fun p => ⟨p, q.τ, q.bs, q.cs⟩
def OkM (ks : List Str) (q : Itm) (m : Str) : Prop := ∀ n a b, q.t = .lett n a b → (caught q.τ n b ∧ m ∉ ks) ∨ (¬ caught q.τ n b ∧ m = n)
def InK (ks : List Str) (q : Itm) : Prop := (∀ x ∈ q.t.wrds, x ∈ ks) ∧ ∀ x y, q.τ x = some (.name y) → y ∈ ks
theorem InK.mono {ks ks' : List Str} {q : Itm} (h : InK ks q) (k : ∀ x ∈ ks, x ∈ ks') : InK ks' q := ⟨fun x hx => k x (h.1 x hx), fun x y e => k y (h.2 x y e)⟩
theorem req_let {L : Told} {ks : List Str} {n : Str} {a b : Tr} {τ : Told} {bs cs : List Str} {m : Str} (R : Req L ⟨.lett n a b, τ, bs, cs⟩) (hk : InK ks ⟨.lett n a b, τ, bs, cs⟩) (hm : OkM ks ⟨.lett n a b, τ, bs, cs⟩ m) :
    Req L ⟨a, τ, bs, cs⟩ ∧ Req L ⟨b, setT τ n (.name m), bs ++ [n], cs ++ [m]⟩ := by
  refine ⟨fun x hx => R x (by show x ∈ Tr.fv (.lett n a b) []; simp only [Tr.fv, List.mem_append]; exact .inl hx), fun x hx => ?_⟩
  show keyA (cs ++ [m]) (tOf (setT τ n (.name m)) x) = keyX L (bs ++ [n]) x
  rw [tOf_set, keyX_snoc]
  by_cases e : x = n
  · subst e
    rw [if_pos rfl, if_pos rfl]
    show keyX noT (cs ++ [m]) m = _
    rw [keyX_snoc, if_pos rfl]
  · rw [if_neg e, if_neg (Ne.symm e)]
    have hf : x ∈ (Tr.lett n a b).fv [] := by
      simp only [Tr.fv, List.mem_append, List.nil_append]
      exact .inr ((fv_iff b [n] x).mpr ⟨hx, by simpa using e⟩)
    have r := R x hf
    dsimp only at r
    rw [← r]
    cases ha : tOf τ x with
    | num _ => rfl
    | gap _ => rfl
    | name y =>
      show keyX noT (cs ++ [m]) y = shA (keyX noT cs y)
      rw [keyX_snoc, if_neg]
      intro z
      subst z
      have hy : (τ x = some (.name m)) ∨ (τ x = none ∧ m = x) := by
        unfold tOf at ha
        cases h : τ x with
        | none => rw [h] at ha; exact .inr ⟨rfl, by simpa using ha.symm⟩
        | some w => rw [h] at ha; exact .inl (by simpa using ha)
      rcases hm n a b rfl with ⟨c, hm⟩ | ⟨c, hm⟩
      · rcases hy with h | ⟨_, h⟩
        · exact hm (hk.2 x m h)
        · exact hm (h ▸ hk.1 x (fv_wrds _ _ hf))
      · rcases hy with h | ⟨_, h⟩
        · exact c ⟨x, e, hm ▸ h, hx⟩
        · exact e (h.symm.trans hm)
theorem req_part {L : Told} {t p : Tr} {τ : Told} {bs cs : List Str} (R : Req L ⟨t, τ, bs, cs⟩) (hn : t.kd ≠ .lett) (hp : p ∈ t.parts) : Req L ⟨p, τ, bs, cs⟩ := fun x hx => R x (by
  show x ∈ t.fv []
  cases t with
  | say a => simp [Tr.parts] at hp; subst hp; exact hx
  | bin o a b => simp [Tr.parts] at hp; simp only [Tr.fv, List.mem_append]; rcases hp with rfl | rfl; exact .inl hx; exact .inr hx
  | ite a b c => simp [Tr.parts] at hp; simp only [Tr.fv, List.mem_append]; rcases hp with rfl | rfl | rfl; exact .inl hx; exact .inr (.inl hx); exact .inr (.inr hx)
  | lett n a b => exact absurd rfl hn
  | _ => simp [Tr.parts] at hp)
theorem req_kids {L : Told} {ks : List Str} {q : Itm} {m : Str} (R : Req L q) (hk : InK ks q) (hm : OkM ks q m) : ∀ k ∈ kidsI q m, Req L k := by
  obtain ⟨t, τ, bs, cs⟩ := q
  intro k hmem
  cases t with
  | lett n a b =>
    have := req_let R hk hm
    simp [kidsI] at hmem
    rcases hmem with rfl | rfl
    · exact this.1
    · exact this.2
  | bin o a b =>
    obtain ⟨p, hp, rfl⟩ := List.mem_map.mp (show k ∈ (Tr.bin o a b).parts.map (fun p => (⟨p, τ, bs, cs⟩ : Itm)) from hmem)
    exact req_part R (by cases o <;> nofun) hp
  | say a =>
    obtain ⟨p, hp, rfl⟩ := List.mem_map.mp (show k ∈ (Tr.say a).parts.map (fun p => (⟨p, τ, bs, cs⟩ : Itm)) from hmem)
    exact req_part R nofun hp
  | ite a b c =>
    obtain ⟨p, hp, rfl⟩ := List.mem_map.mp (show k ∈ (Tr.ite a b c).parts.map (fun p => (⟨p, τ, bs, cs⟩ : Itm)) from hmem)
    exact req_part R nofun hp
  | _ => simp [kidsI, Tr.parts] at hmem
theorem ink_kids {ks : List Str} {q : Itm} {m : Str} (hk : InK ks q) : ∀ k ∈ kidsI q m, InK (addK ks m) k := by
  obtain ⟨t, τ, bs, cs⟩ := q
  intro k hmem
  have up : ∀ x ∈ ks, x ∈ addK ks m := fun x hx => mem_addK.mpr (.inl hx)
  obtain ⟨h1, h2⟩ := hk
  dsimp only at h1 h2
  have old : ∀ x y, τ x = some (.name y) → y ∈ addK ks m := fun x y e => up y (h2 x y e)
  cases t with
  | lett n a b =>
    simp [kidsI] at hmem
    rcases hmem with rfl | rfl
    · exact ⟨fun x hx => up x (h1 x (by simp [Tr.wrds, hx])), old⟩
    · refine ⟨fun x hx => up x (h1 x (by simp [Tr.wrds, hx])), fun x y e => ?_⟩
      dsimp only [setT] at e
      split at e
      · cases e; exact mem_addK.mpr (.inr rfl)
      · exact old x y e
  | say a => simp [kidsI, Tr.parts] at hmem; subst hmem; exact ⟨fun x hx => up x (h1 x hx), old⟩
  | bin o a b => simp [kidsI, Tr.parts] at hmem; rcases hmem with rfl | rfl <;> exact ⟨fun x hx => up x (h1 x (by simp [Tr.wrds, hx])), old⟩
  | ite a b c => simp [kidsI, Tr.parts] at hmem; rcases hmem with rfl | rfl | rfl <;> exact ⟨fun x hx => up x (h1 x (by simp [Tr.wrds, hx])), old⟩
  | _ => simp [kidsI, Tr.parts] at hmem
section
variable (G : Str → Prop)
def Atom.good : Atom → Prop
  | .name x => G x | .num _ => True | .gap g => G g
def Tr.good : Tr → Prop
  | .num _ => True | .name x => G x | .ask x => G x | .stop x => G x
  | .gap g as => G g ∧ as.length ≤ 1000 ∧ ∀ a ∈ as, a.good G
  | .say a => a.good
  | .bin _ a b => a.good ∧ b.good
  | .ite a b c => a.good ∧ b.good ∧ c.good
  | .lett x a b => G x ∧ a.good ∧ b.good
end
theorem Atom.good_tr {G : Str → Prop} {a : Atom} (h : a.good G) : a.tr.good G := by
  cases a with
  | gap g => exact ⟨h, by simp, by simp⟩
  | name _ => exact h
  | num _ => exact True.intro
def Tr.withP : Tr → List Tr → Tr
  | .say _, [a] => .say a
  | .bin o _ _, [a, b] => .bin o a b
  | .ite _ _ _, [a, b, c] => .ite a b c
  | .lett x _ _, [a, b] => .lett x a b
  | t, _ => t
def Tr.dp : Tr → Nat
  | .say a => a.dp + 1 | .bin _ a b => max a.dp b.dp + 1 | .ite a b c => max a.dp (max b.dp c.dp) + 1 | .lett _ a b => max a.dp b.dp + 1
  | _ => 2
structure Done (G : Str → Prop) (L : Told) (q : Itm) (r : Tr) : Prop where
  br : bareW noT r q.cs = bareW L q.t q.bs
  gd : r.good G
  dp : r.dp ≤ q.t.dp
structure GdI (G : Str → Prop) (q : Itm) : Prop where
  tr : q.t.good G
  td : ∀ x a, q.τ x = some a → a.good G
theorem tOf_good {G : Str → Prop} {τ : Told} (h : ∀ x a, τ x = some a → a.good G) {x : Str} (hx : G x) : (tOf τ x).good G := by
  unfold tOf
  cases e : τ x with
  | none => exact hx
  | some a => exact h x a e
theorem gdi_kids {G : Str → Prop} {q : Itm} {m : Str} (hg : GdI G q) (hm : ∀ n a b, q.t = .lett n a b → G m) : ∀ k ∈ kidsI q m, GdI G k := by
  obtain ⟨t, τ, bs, cs⟩ := q
  obtain ⟨h1, h2⟩ := hg
  intro k hmem
  cases t with
  | lett n a b =>
    simp [kidsI] at hmem
    rcases hmem with rfl | rfl
    · exact ⟨h1.2.1, h2⟩
    · refine ⟨h1.2.2, fun x y e => ?_⟩
      dsimp only [setT] at e
      split at e
      · cases e; exact hm n a b rfl
      · exact h2 x y e
  | say a => simp [kidsI, Tr.parts] at hmem; subst hmem; exact ⟨h1, h2⟩
  | bin o a b => simp [kidsI, Tr.parts] at hmem; rcases hmem with rfl | rfl; exact ⟨h1.1, h2⟩; exact ⟨h1.2, h2⟩
  | ite a b c => simp [kidsI, Tr.parts] at hmem; rcases hmem with rfl | rfl | rfl; exact ⟨h1.1, h2⟩; exact ⟨h1.2.1, h2⟩; exact ⟨h1.2.2, h2⟩
  | _ => simp [kidsI, Tr.parts] at hmem
inductive All2 {α β : Type} (F : α → β → Prop) : List α → List β → Prop
  | nil : All2 F [] []
  | cons {a b as bs} : F a b → All2 F as bs → All2 F (a :: as) (b :: bs)
theorem All2.length {α β : Type} {F : α → β → Prop} : ∀ {as : List α} {bs : List β}, All2 F as bs → as.length = bs.length
  | _, _, .nil => rfl
  | _, _, .cons _ t => by simp [t.length]
theorem All2.split {α β : Type} {F : α → β → Prop} : ∀ {as cs : List α} {bs : List β}, All2 F (as ++ cs) bs → ∃ b1 b2, bs = b1 ++ b2 ∧ All2 F as b1 ∧ All2 F cs b2
  | [], _, bs, h => ⟨[], bs, rfl, .nil, h⟩
  | _ :: as, cs, _, .cons r t => by
    obtain ⟨b1, b2, rfl, h1, h2⟩ := t.split (as := as)
    exact ⟨_ :: b1, b2, rfl, .cons r h1, h2⟩
theorem All2.append {α β : Type} {F : α → β → Prop} : ∀ {as cs : List α} {bs ds : List β}, All2 F as bs → All2 F cs ds → All2 F (as ++ cs) (bs ++ ds)
  | _, _, _, _, .nil, h => h
  | _, _, _, _, .cons r t, h => .cons r (t.append h)
theorem done_step {G : Str → Prop} {L : Told} {q : Itm} {m : Str} {rs : List Tr} (R : Req L q) (hg : GdI G q) (hm : ∀ n a b, q.t = .lett n a b → G m) (h : All2 (Done G L) (kidsI q m) rs) : Done G L q ((headI q m).withP rs) := by
  obtain ⟨t, τ, bs, cs⟩ := q
  obtain ⟨g1, g2⟩ := hg
  dsimp only at g1 g2
  cases t with
  | num n => cases h; exact ⟨rfl, g1, Nat.le_refl _⟩
  | ask n => cases h; exact ⟨rfl, g1, Nat.le_refl _⟩
  | stop n => cases h; exact ⟨rfl, g1, Nat.le_refl _⟩
  | name x =>
    cases h
    have r := R x (by show x ∈ Tr.fv (.name x) []; simp [Tr.fv, Tr.names])
    dsimp only at r
    have e : (headI ⟨.name x, τ, bs, cs⟩ m).withP [] = (tOf τ x).tr := by
      show ((tOf τ x).tr).withP [] = _
      cases tOf τ x <;> rfl
    rw [e]
    refine ⟨?_, Atom.good_tr (tOf_good g2 g1), ?_⟩
    · show bareW noT (tOf τ x).tr cs = keyDA (keyX L bs x)
      rw [← bareAW_tr, bareAW_key, r]
    · cases tOf τ x <;> exact Nat.le_refl 2
  | gap g as =>
    cases h
    show Done G L _ (.gap g (as.map (putA τ)))
    refine ⟨?_, ⟨g1.1, by rw [List.length_map]; exact g1.2.1, fun a ha => ?_⟩, Nat.le_refl _⟩
    · show Dt.tup [.str "gap", .str g, .tup ((as.map (putA τ)).map (bareAW noT cs))] = Dt.tup [.str "gap", .str g, .tup (as.map (bareAW L bs))]
      congr 5
      rw [List.map_map]
      refine List.map_congr_left fun a ha => ?_
      show bareAW noT cs (putA τ a) = _
      cases a with
      | num _ => rfl
      | gap _ => rfl
      | name x =>
        have r := R x (by
          show x ∈ Tr.fv (.gap g as) []
          simp only [Tr.fv, Tr.names, List.mem_filter]
          exact ⟨List.mem_flatMap.mpr ⟨.name x, ha, by simp [Atom.names]⟩, by simp⟩)
        dsimp only at r
        show bareAW noT cs (tOf τ x) = keyDA (keyX L bs x)
        rw [bareAW_key, r]
    · obtain ⟨b, hb, rfl⟩ := List.mem_map.mp ha
      have gb := g1.2.2 b hb
      cases b with
      | name x => exact tOf_good g2 gb
      | num _ => exact gb
      | gap _ => exact gb
  | say a =>
    cases h with
    | cons d h =>
      cases h
      obtain ⟨b1, b2, b3⟩ := d
      refine ⟨?_, b2, ?_⟩
      · show Dt.tup [.str "say", _] = Dt.tup [.str "say", _]
        rw [b1]
      · show _ + 1 ≤ _ + 1
        exact Nat.succ_le_succ b3
  | bin o a b =>
    cases h with
    | cons d h =>
      cases h with
      | cons d' h =>
        cases h
        obtain ⟨b1, b2, b3⟩ := d
        obtain ⟨c1, c2, c3⟩ := d'
        refine ⟨?_, ⟨b2, c2⟩, ?_⟩
        · show Dt.tup [.str o.s, _, _] = Dt.tup [.str o.s, _, _]
          rw [b1, c1]
        · show max _ _ + 1 ≤ max _ _ + 1
          dsimp only at b3 c3
          omega
  | ite a b c =>
    cases h with
    | cons d h =>
      cases h with
      | cons d' h =>
        cases h with
        | cons d'' h =>
          cases h
          obtain ⟨b1, b2, b3⟩ := d
          obtain ⟨c1, c2, c3⟩ := d'
          obtain ⟨e1, e2, e3⟩ := d''
          refine ⟨?_, ⟨b2, c2, e2⟩, ?_⟩
          · show Dt.tup [.str "if", _, _, _] = Dt.tup [.str "if", _, _, _]
            rw [b1, c1, e1]
          · show max _ (max _ _) + 1 ≤ max _ (max _ _) + 1
            dsimp only at b3 c3 e3
            omega
  | lett n a b =>
    cases h with
    | cons d h =>
      cases h with
      | cons d' h =>
        cases h
        obtain ⟨b1, b2, b3⟩ := d
        obtain ⟨c1, c2, c3⟩ := d'
        refine ⟨?_, ⟨hm n a b rfl, b2, c2⟩, ?_⟩
        · show Dt.tup [.str "let", _, _] = Dt.tup [.str "let", _, _]
          rw [b1, c1]
        · show max _ _ + 1 ≤ max _ _ + 1
          dsimp only at b3 c3
          omega
def growL : List Tr → List Tr → List Tr
  | [], _ => []
  | h :: hs, R => h.withP (R.take h.parts.length) :: growL hs (R.drop h.parts.length)
def nParts (hs : List Tr) : Nat := (hs.map fun h => h.parts.length).sum
theorem growL_len : ∀ (hs R : List Tr), (growL hs R).length = hs.length
  | [], _ => rfl
  | h :: hs, R => by simp [growL, growL_len hs]
theorem growL_snoc : ∀ (hs : List Tr) {R : List Tr} {h : Tr} {rs : List Tr}, R.length = nParts hs → rs.length = h.parts.length → growL (hs ++ [h]) (R ++ rs) = growL hs R ++ [h.withP rs]
  | [], R, h, rs, e, e' => by
    have : R = [] := List.length_eq_zero_iff.mp (by simpa [nParts] using e)
    subst this
    simp [growL, ← e']
  | a :: hs, R, h, rs, e, e' => by
    have e1 : R.length = a.parts.length + nParts hs := by simpa [nParts] using e
    show _ :: growL (hs ++ [h]) _ = _
    rw [List.take_append_of_le_length (by omega), List.drop_append_of_le_length (by omega), growL_snoc hs (by rw [List.length_drop]; omega) e']
    rfl
def growAll : List (List Tr) → List Tr → List Tr
  | [], R => R
  | hs :: Lr, R => growAll Lr (growL hs R)
def Fit : List (List Tr) → Nat → Prop
  | [], n => n = 1
  | hs :: Lr, n => nParts hs = n ∧ Fit Lr hs.length
theorem headI_parts (q : Itm) (m : Str) : (headI q m).parts.length = (kidsI q m).length := by
  obtain ⟨t, τ, bs, cs⟩ := q
  cases t with
  | name x => show ((tOf τ x).tr).parts.length = 0; cases tOf τ x <;> rfl
  | _ => first | rfl | simp [headI, kidsI, headT, Tr.parts]
def tot (l : List Itm) : Nat := (l.map fun q => q.t.size).sum
theorem kidsI_tot (q : Itm) (m : Str) : tot (kidsI q m) + 1 = q.t.size := by
  obtain ⟨t, τ, bs, cs⟩ := q
  cases t <;> simp [kidsI, tot, Tr.size, Tr.parts] <;> omega
theorem tot_append (a b : List Itm) : tot (a ++ b) = tot a + tot b := by simp [tot]
theorem tot_cons (a : Itm) (b : List Itm) : tot (a :: b) = a.t.size + tot b := by simp [tot]
theorem len_tot : ∀ l : List Itm, l.length ≤ tot l
  | [] => Nat.le_refl _
  | a :: r => by rw [tot_cons, List.length_cons]; have := len_tot r; have := size_pos a.t; omega
end L2
set_option Elab.async false
set_option linter.all false
set_option maxRecDepth 100000
set_option maxHeartbeats 4000000
namespace L2
open PySem PySem.Spec PyProof.Rows
section
variable {aA dl el wl : Addr}
end
section
variable {C : Addr} {H H' : Hp} {p aA dl el wl : Addr} {ds es ws : List V}
end
theorem paired_append {α : Type} {F : α → V → Prop} : ∀ {as bs : List α} {us vs : List V}, Paired F as us → Paired F bs vs → Paired F (as ++ bs) (us ++ vs)
  | _, _, _, _, .nil, h => h
  | _, _, _, _, .cons r t, h => .cons r (paired_append t h)
section
variable {C : Addr} {H H' : Hp} {p aA dl el wl : Addr} {a : En} {W : List Item} {E : List Int} {D : List DRow}
end
theorem paired_len {α : Type} {F : α → V → Prop} {as : List α} {us : List V} (h : Paired F as us) : us.length = as.length := h.length.symm
end L2
set_option Elab.async false
set_option linter.all false
set_option maxRecDepth 100000
set_option maxHeartbeats 4000000
namespace L2
open PySem
def signsV : List V := [.str "num", .str "name", .str "ask", .str "stop", .str "gap"]
def LeafSigns (K : PySem.W.Frag) (lv : Addr) : Prop := ∃ (o : Obj) (its : Array Value) (n : Nat), K.lookup lv = some o ∧ o.cls = .type "tuple" ∧ o.data = .seq its n ∧ its.size ≤ sizeLine ∧ Vals signsV its.toList
theorem in_signs (k : Kd) : inV (.str k.s) signsV = k.leaf := by cases k <;> decide +kernel
theorem head_pos (t : Tr) : 1 ≤ t.head := by cases t <;> simp [Tr.head]
theorem mem_size : ∀ {ts : List Tr} {t : Tr}, t ∈ ts → t.size ≤ (ts.map Tr.size).sum
  | a :: ts, t, h => by
    rw [List.map_cons, List.sum_cons]
    rcases List.mem_cons.mp h with rfl | h
    · omega
    · have := mem_size h
      omega
theorem parts_size (t : Tr) : (t.parts.map Tr.size).sum + 1 = t.size := by
  cases t <;> simp [Tr.parts, Tr.size] <;> omega
theorem part_size {t p : Tr} (h : p ∈ t.parts) : p.size + 1 ≤ t.size := by
  have := mem_size h
  have := parts_size t
  omega
theorem size_pos20 (t : Tr) : 1 ≤ t.size := by cases t <;> simp [Tr.size]
def szT (ts : List Tr) : Nat := (ts.map Tr.size).sum
theorem szT_app (a b : List Tr) : szT (a ++ b) = szT a + szT b := by simp [szT]
theorem szT_cons (a : Tr) (b : List Tr) : szT (a :: b) = a.size + szT b := by simp [szT]
theorem szT_len : ∀ ts : List Tr, ts.length ≤ szT ts
  | [] => Nat.le_refl _
  | t :: ts => by
    rw [szT_cons, List.length_cons]
    have := szT_len ts
    have := size_pos20 t
    omega
theorem szT_take (L : List Tr) (i : Nat) : szT (L.take i) ≤ szT L := by
  have e : szT L = szT (L.take i) + szT (L.drop i) := by rw [← szT_app, List.take_append_drop]
  omega
theorem szT_parts (t : Tr) : szT t.parts + 1 = t.size := parts_size t
def Tr.subs : Tr → List Tr
  | .say a => .say a :: a.subs
  | .bin o a b => .bin o a b :: (a.subs ++ b.subs)
  | .ite a b c => .ite a b c :: (a.subs ++ (b.subs ++ c.subs))
  | .lett x a b => .lett x a b :: (a.subs ++ b.subs)
  | t => [t]
theorem subs_eq (t : Tr) : t.subs = t :: t.parts.flatMap Tr.subs := by
  cases t <;> simp [Tr.subs, Tr.parts]
theorem szT_level : ∀ L : List Tr, szT (L.flatMap Tr.parts) + L.length = szT L
  | [] => rfl
  | t :: L => by
    have ih := szT_level L
    have := szT_parts t
    rw [List.flatMap_cons, szT_app, szT_cons, List.length_cons]
    omega
theorem mem_level {p : Tr} (L : List Tr) : (∃ q ∈ L, p ∈ q.subs) ↔ p ∈ L ∨ ∃ q ∈ L.flatMap Tr.parts, p ∈ q.subs := by
  constructor
  · rintro ⟨q, hq, hp⟩
    rw [subs_eq] at hp
    rcases List.mem_cons.mp hp with rfl | hp
    · exact .inl hq
    · obtain ⟨r, hr, hp⟩ := List.mem_flatMap.mp hp
      exact .inr ⟨r, List.mem_flatMap.mpr ⟨q, hq, hr⟩, hp⟩
  · rintro (h | ⟨r, hr, hp⟩)
    · exact ⟨p, h, by rw [subs_eq]; exact List.mem_cons_self⟩
    · obtain ⟨q, hq, hr⟩ := List.mem_flatMap.mp hr
      exact ⟨q, hq, by rw [subs_eq]; exact List.mem_cons_of_mem _ (List.mem_flatMap.mpr ⟨r, hr, hp⟩)⟩
theorem Rep.build {H : Hp} {t : Tr} {v : V} {ps : List Tr} (h : Rep H t v) (hl : ps.length = t.parts.length) : ∃ a hs us, v = .ref a ∧ H a = some (.tup (.str t.sign :: hs ++ us)) ∧ hs.length + 1 = t.head ∧ us.length = t.parts.length ∧
    ∀ {H' : Hp} {p : Addr} {ws : List V}, Tk H H' → H' p = some (.tup (.str t.sign :: hs ++ ws)) → Paired (Rep H') ps ws → Rep H' (t.withP ps) (.ref p) := by
  cases t with
  | num n => obtain ⟨a, e, ha⟩ := h; exact ⟨a, [.int n], [], e, ha, rfl, rfl, fun k e p => by cases ps with | nil => cases p; exact ⟨_, rfl, e⟩ | cons _ _ => cases hl⟩
  | name x => obtain ⟨a, e, ha⟩ := h; exact ⟨a, [.str x], [], e, ha, rfl, rfl, fun k e p => by cases ps with | nil => cases p; exact ⟨_, rfl, e⟩ | cons _ _ => cases hl⟩
  | ask x => obtain ⟨a, e, ha⟩ := h; exact ⟨a, [.str x], [], e, ha, rfl, rfl, fun k e p => by cases ps with | nil => cases p; exact ⟨_, rfl, e⟩ | cons _ _ => cases hl⟩
  | stop x => obtain ⟨a, e, ha⟩ := h; exact ⟨a, [.str x], [], e, ha, rfl, rfl, fun k e p => by cases ps with | nil => cases p; exact ⟨_, rfl, e⟩ | cons _ _ => cases hl⟩
  | gap g as =>
    obtain ⟨a, b, us, e, ha, hb, n, q⟩ := h
    exact ⟨a, [.str g, .ref b], [], e, ha, rfl, rfl, fun k e p => by cases ps with | nil => cases p; exact ⟨_, b, us, rfl, e, k _ _ hb, n, Paired.mapP q fun _ _ z => z.mono k⟩ | cons _ _ => cases hl⟩
  | say s =>
    obtain ⟨a, u, e, ha, r⟩ := h
    exact ⟨a, [], [u], e, ha, rfl, rfl, fun k e p => by
      match ps, hl with
      | [c], _ =>
        cases p with | cons r1 p => cases p; exact ⟨_, _, rfl, e, r1⟩⟩
  | bin o s t =>
    obtain ⟨a, u, w, e, ha, r, r'⟩ := h
    exact ⟨a, [], [u, w], e, (by show _ = some (HO.tup [V.str o.kd.s, u, w]); rw [Bin.kd_s]; exact ha), rfl, rfl, fun {H' p ws} k e q => by
      match ps, hl with
      | [c, d], _ =>
        cases q with | cons r1 q => cases q with | cons r2 q =>
          cases q
          have e' : H' p = some (.tup [.str o.kd.s, _, _]) := e
          rw [Bin.kd_s] at e'
          exact ⟨_, _, _, rfl, e', r1, r2⟩⟩
  | ite r s t =>
    obtain ⟨a, u, w, z, e, ha, _, _, _⟩ := h
    exact ⟨a, [], [u, w, z], e, ha, rfl, rfl, fun k e q => by
      match ps, hl with
      | [c, d, f], _ =>
        cases q with | cons r1 q => cases q with | cons r2 q => cases q with | cons r3 q =>
          cases q
          exact ⟨_, _, _, _, rfl, e, r1, r2, r3⟩⟩
  | lett x s t =>
    obtain ⟨a, u, w, e, ha, _, _⟩ := h
    exact ⟨a, [.str x], [u, w], e, ha, rfl, rfl, fun k e q => by
      match ps, hl with
      | [c, d], _ =>
        cases q with | cons r1 q => cases q with | cons r2 q =>
          cases q
          exact ⟨_, _, _, rfl, e, r1, r2⟩⟩
def PairRep (H : Hp) (p : Tr × List Str) (v : V) : Prop := ∃ a u b, v = .ref a ∧ H a = some (.tup [u, .ref b]) ∧ Rep H p.1 u ∧ H b = some (.tup (p.2.map V.str))
theorem PairRep.mono {H H' : Hp} (k : Tk H H') {p : Tr × List Str} {v : V} : PairRep H p v → PairRep H' p v
  | ⟨a, u, b, e, h, r, z⟩ => ⟨a, u, b, e, k _ _ h, r.mono k, k _ _ z⟩
theorem inV_strs (x : Str) (bs : List Str) : inV (.str x) (bs.map V.str) = decide (x ∈ bs) := by
  unfold inV
  rw [Bool.eq_iff_iff, List.any_eq_true, decide_eq_true_iff]
  constructor
  · rintro ⟨v, hv, h⟩
    obtain ⟨y, hy, rfl⟩ := List.mem_map.mp hv
    rw [eqV_str] at h
    exact h ▸ hy
  · intro h
    exact ⟨_, List.mem_map.mpr ⟨x, h, rfl⟩, (eqV_str _ _).mpr rfl⟩
theorem flat_bs (bs : List Str) : (bs.map V.str).all flatV = true := flat_strs bs
theorem len_kids (l : List (Tr × List Str)) : total (l.flatMap fun q => kids q.1 q.2) + l.length = total l := by
  induction l with
  | nil => rfl
  | cons a r ih =>
    rw [List.flatMap_cons, total_append, total_cons, List.length_cons]
    have := kids_total a.1 a.2
    omega
theorem total_take (l : List (Tr × List Str)) (i : Nat) : total (l.take i) ≤ total l := by
  have := congrArg total (List.take_append_drop i l)
  rw [total_append] at this
  omega
end L2
namespace K05
open PySem PySem.Spec L2 PyProof.Rows
def top (i : Nat) : Stmt := PySem.Challenge.pw_recastle_k05_renamed.main.body.getD i (.Pass ⟨0, 0, 0, 0⟩)
abbrev s_parts_begin : Stmt := top 2
theorem sc_parts_begin : FnScope ["tree"] ["tree"] (defScope s_parts_begin) := ⟨rfl, rfl, rfl, by decide +kernel, rfl, by decide +kernel, by decide +kernel⟩
abbrev s_parts : Stmt := top 3
theorem sc_parts : FnScope ["tree"] ["tree"] (defScope s_parts) := ⟨rfl, rfl, rfl, by decide +kernel, rfl, by decide +kernel, by decide +kernel⟩
abbrev s_with_parts : Stmt := top 4
theorem sc_with_parts : FnScope ["tree", "parts"] ["tree", "parts"] (defScope s_with_parts) := ⟨rfl, rfl, rfl, by decide +kernel, rfl, by decide +kernel, by decide +kernel⟩
abbrev s_all_parts : Stmt := top 5
theorem sc_all_parts : FnScope ["tree", "found", "level", "deeper", "part"] ["tree"] (defScope s_all_parts) := ⟨rfl, rfl, rfl, by decide +kernel, rfl, by decide +kernel, by decide +kernel⟩
abbrev s_names_at : Stmt := top 9
theorem sc_names_at : FnScope ["part"] ["part"] (defScope s_names_at) := ⟨rfl, rfl, rfl, by decide +kernel, rfl, by decide +kernel, by decide +kernel⟩
abbrev s_bound_in : Stmt := top 10
theorem sc_bound_in : FnScope ["part", "number", "bound"] ["part", "number", "bound"] (defScope s_bound_in) := ⟨rfl, rfl, rfl, by decide +kernel, rfl, by decide +kernel, by decide +kernel⟩
abbrev s_free_names : Stmt := top 11
theorem sc_free_names : FnScope ["tree", "free", "level", "deeper", "part", "bound", "name", "number", "inner"] ["tree"] (defScope s_free_names) := ⟨rfl, rfl, rfl, by decide +kernel, rfl, by decide +kernel, by decide +kernel⟩
section
variable {P : Program} {w : World} {K : PySem.W.Frag} {mg : Str → Option Value} {base : Heap}
def begin_ (t : Tr) : Int := t.head
def sp_parts_begin : Sp := fun vs H Q _ => ∃ t v, vs = [v] ∧ Rep H t v ∧ Q (.int (begin_ t)) H
theorem ok_parts_begin {k : Nat} {f : Addr} {fd : FuncData} {lv : Addr} (F : Fun K "parts_begin" "parts_begin" s_parts_begin f fd) (z_len : mg "len" = none) (m_LEAF_SIGNS : mg "LEAF_SIGNS" = some (.ref lv)) (hL : LeafSigns K lv) :
    FnOk P w K mg base CX0 (k + 1) f fd ["tree"] sp_parts_begin := by
  refine F.ok sc_parts_begin (fun vs H Q E h => ?_) (fun cdv A outer s H vs Q E hr h => ?_)
  · obtain ⟨t, v, rfl, _⟩ := h
    rfl
  obtain ⟨t, v, rfl, hR, q⟩ := h
  refine ⟨_, (pss_cons (ps_if (pt_cmpR (r := rIn K false) op_in_seq (pe_ix (r := rIxT K) ix_tup (pv 0) pe_int (fun _ _ => rfl)) (pe_glob (v := .ref _) (by rfl) m_LEAF_SIGNS (by rfl)) rfl) (pss_one (ps_ret (pe_callB call_len_seq (by rfl) z_len PySem.boot_len (pa_cons (pv 0) pa_nil)))) pss_nil)
    (pss_cons (ps_if (pt_cmpR op_eq (pe_ix (r := rIxT K) ix_tup (pv 0) pe_int (fun _ _ => rfl)) pe_str (nomark _)) (pss_one (ps_ret pe_int)) pss_nil)
    (pss_one (ps_ret pe_int)))), ?_⟩
  obtain ⟨a, hs, us, rfl, ha, hl, hp⟩ := hR.all
  have h0 : atI (V.str t.kd.s :: hs ++ us) 0 = some (.str t.kd.s) := atI_nat (j := 0) rfl
  refine ⟨_, rfl, a, _, 0, _, rfl, rfl, SqT.of ha, h0, lv, signsV, rfl, .inr (.inr hL), rfl, rfl, _, rfl, ?_⟩
  show if inV (.str t.kd.s) signsV = true then _ else _
  rw [in_signs]
  refine ite2 (fun c => ?_) (fun c => ?_)
  · refine ⟨_, rfl, a, _, rfl, .inr (SqT.of ha), ?_⟩
    have e : ((V.str t.sign :: hs ++ us).length : Int) = begin_ t := by
      have hu : us.length = 0 := by
        rw [← hp.length]
        cases t with
        | bin o a b => cases o <;> cases c
        | _ => first | rfl | cases c
      rw [List.length_append, List.length_cons, hu]
      unfold begin_
      omega
    rw [e]
    exact q
  · refine ⟨_, rfl, a, _, 0, _, rfl, rfl, SqT.of ha, h0, rfl, _, rfl, ?_⟩
    refine ite2 (fun d => ?_) (fun d => ?_)
    · have z : t.kd = .lett := Kd.eq_iff.mp (of_decide_eq_true d)
      have e : begin_ t = 2 := by
        cases t with
        | lett x a b => rfl
        | bin o a b => cases o <;> cases z
        | _ => cases z
      rw [e] at q
      exact q
    · have e : begin_ t = 1 := by
        cases t with
        | lett x a b => exact absurd rfl d
        | bin o a b => rfl
        | ite a b c => rfl
        | say a => rfl
        | _ => exact absurd rfl c
      rw [e] at q
      exact q
def sp_parts : Sp := fun vs H Q _ => ∃ t v, vs = [v] ∧ Rep H t v ∧ ∀ p H' us, Same H H' → H' p = some (.tup us) → Paired (Rep H') t.parts us → Q (.ref p) H'
theorem ok_parts {k : Nat} {f g : Addr} {fd gd : FuncData} (F : Fun K "parts" "parts" s_parts f fd) (G_parts_begin : FnB P w K mg base k "parts_begin" g gd ["tree"] sp_parts_begin) :
    FnOk P w K mg base CX0 (k + 1) f fd ["tree"] sp_parts := by
  refine F.ok sc_parts (fun vs H Q E h => ?_) (fun cdv A outer s H vs Q E hr h => ?_)
  · obtain ⟨t, v, rfl, _⟩ := h
    rfl
  obtain ⟨t, v, rfl, hR, q⟩ := h
  refine ⟨_, (pss_one (ps_ret (pe_slice sl_tupV (pv 0) (po_some (pe_call G_parts_begin.ok hr (by rfl) G_parts_begin.gl G_parts_begin.kp G_parts_begin.bd .nil pass0 (pa_cons (pv 0) pa_nil))) po_none))), ?_⟩
  obtain ⟨a, hs, us, rfl, ha, hl, hp⟩ := hR.all
  have hn : (V.str t.sign :: hs ++ us).length = t.head + us.length := by rw [List.length_append, List.length_cons]; omega
  have h1 := head_pos t
  have e1 : HT.sIx (V.str t.sign :: hs ++ us).length 0 (some (begin_ t)) = t.head := by
    show HT.sIx _ 0 (some ((t.head : Nat) : Int)) = _
    rw [HT.sIx_nat, hn]
    omega
  have e2 : cutV (V.str t.sign :: hs ++ us) (some (begin_ t)) none = us := by
    unfold cutV
    rw [e1, HT.sIx_none, hn]
    have : (V.str t.sign :: hs ++ us).drop t.head = us := by
      rw [← hl]
      exact List.drop_left' rfl
    rw [this, List.take_of_length_le (by omega)]
  refine ⟨_, rfl, _, rfl, t, _, rfl, hR, _, rfl, a, _, rfl, ha, fun z => ?_, fun p H' g e => ?_⟩
  · rw [e1] at z
    omega
  · rw [e2] at e
    exact q p H' us g e (Paired.mapP hp fun _ _ r => r.mono g.tk)
def sp_with : Sp := fun vs H Q _ => ∃ (t : Tr) (v : V) (l : Addr) (us : List V) (ps : List Tr), vs = [v, .ref l] ∧ Rep H t v ∧ H l = some (.lst us) ∧ Paired (Rep H) ps us ∧ ps.length = t.parts.length ∧ ∀ v' H', Same H H' → Rep H' (t.withP ps) v' → Q v' H'
theorem parts_le3 (t : Tr) : t.parts.length ≤ 3 := by cases t <;> simp [Tr.parts]
theorem head_le3 (t : Tr) : t.head ≤ 3 := by cases t <;> simp [Tr.head]
theorem ok_with {k : Nat} {f g : Addr} {fd gd : FuncData} (F : Fun K "with_parts" "with_parts" s_with_parts f fd) (z_tuple : mg "tuple" = none) (G_parts_begin : FnB P w K mg base k "parts_begin" g gd ["tree"] sp_parts_begin) :
    FnOk P w K mg base CX0 (k + 1) f fd ["tree", "parts"] sp_with := by
  refine F.ok sc_with_parts (fun vs H Q E h => ?_) (fun cdv A outer s H vs Q E hr h => ?_)
  · obtain ⟨t, v, l, us, ps, rfl, _⟩ := h
    rfl
  obtain ⟨t, v, l, ws, ps, rfl, hR, hl0, hp, hpl, q⟩ := h
  refine ⟨_, (pss_one (ps_ret (pe_op op_catV (pe_slice sl_tupW (pv 0) po_none (po_some (pe_call G_parts_begin.ok hr (by rfl) G_parts_begin.gl G_parts_begin.kp G_parts_begin.bd .nil pass0 (pa_cons (pv 0) pa_nil)))) (pe_callTy call_tuple_of (by rfl) z_tuple PyProof.Rows.boot_tuple (pa_cons (pv 1) pa_nil))))), ?_⟩
  obtain ⟨a, hs, us, rfl, ha, hl, hul, mk⟩ := hR.build hpl
  have hn : (V.str t.sign :: hs ++ us).length = t.head + us.length := by rw [List.length_append, List.length_cons]; omega
  have e1 : HT.sIx (V.str t.sign :: hs ++ us).length (V.str t.sign :: hs ++ us).length (some (begin_ t)) = t.head := by
    show HT.sIx _ _ (some ((t.head : Nat) : Int)) = _
    rw [HT.sIx_nat, hn]
    omega
  have e2 : cutV (V.str t.sign :: hs ++ us) none (some (begin_ t)) = V.str t.sign :: hs := by
    unfold cutV
    rw [e1, HT.sIx_none, Nat.sub_zero, List.drop_zero, ← hl]
    exact List.take_left' rfl
  have h3 := head_le3 t
  have h4 := parts_le3 t
  refine ⟨_, rfl, _, rfl, t, _, rfl, hR, _, rfl, a, _, rfl, ha, fun p H' g e => ?_⟩
  · rw [e2] at e
    have hw : ws.length = ps.length := (paired_len hp)
    refine ⟨_, rfl, l, ws, rfl, .inl ⟨SqL.of (g _ _ hl0), fun p2 hp2 => ?_⟩⟩
    have g2 := same_upd (o := .tup ws) hp2
    refine ⟨p, p2, _, _, rfl, rfl, g2 _ _ e, upd_same, line1000 ?_, fun p3 H3 g3 e3 => ?_⟩
    · rw [List.length_cons]
      omega
    · have gA := g.trans (g2.trans g3)
      exact q (.ref p3) H3 gA (mk gA.tk e3 (Paired.mapP hp fun _ _ r => r.mono gA.tk))
def sp_names_at : Sp := fun vs H Q _ => ∃ t v, vs = [v] ∧ Rep H t v ∧ ∀ l H', Same H H' → H l = none → H' l = some (.lst (t.names.map V.str)) → Q (.ref l) H'
theorem ok_names_at {k : Nat} {f : Addr} {fd : FuncData} (F : Fun K "names_at" "names_at" s_names_at f fd) : FnOk P w K mg base CX0 (k + 1) f fd ["part"] sp_names_at := by
  refine F.ok sc_names_at (fun vs H Q E h => ?_) (fun cdv A outer s H vs Q E hr h => ?_)
  · obtain ⟨t, v, rfl, _⟩ := h
    rfl
  obtain ⟨t, v, rfl, hR, q⟩ := h
  refine ⟨_, (pss_cons (ps_if (pt_cmpR op_eq (pe_ix (r := rIxT K) ix_tup (pv 0) pe_int (fun _ _ => rfl)) pe_str (nomark _)) (pss_one (ps_ret (pe_lst (pa_cons (pe_ix (r := rIxT K) ix_tup (pv 0) pe_int (fun _ _ => rfl)) pa_nil) : PE _ _ _))) pss_nil)
    (pss_cons (ps_if (pt_cmpR op_eq (pe_ix (r := rIxT K) ix_tup (pv 0) pe_int (fun _ _ => rfl)) pe_str (nomark _)) (pss_one (ps_ret (pe_compB ["atom"] [none] rfl (pi_tup (pe_ix (r := rIxT K) ix_tup (pv 0) pe_int (fun _ _ => rfl))) (fun _ _ _ _ _ => (pg_name (i := 0) (show List.Nodup (["atom"] : List Str) by decide +kernel) rfl (Or.inl rfl))) (fun _ _ _ _ _ => (pts_one (pt_cmpR op_eq (pe_ix (r := rIxT K) ix_tup (pv 0) pe_int (fun _ _ => rfl)) pe_str (nomark _)))) (fun _ _ _ _ _ => (pe_ix (r := rIxT K) ix_tup (pv 0) pe_int (fun _ _ => rfl))) rfl))) pss_nil)
    (pss_one (ps_ret (pe_lst pa_nil : PE _ _ _))))), ?_⟩
  obtain ⟨a, hs, us, rfl, ha, hl, hp⟩ := hR.all
  have h0 : atI (V.str t.kd.s :: hs ++ us) 0 = some (.str t.kd.s) := atI_nat (j := 0) rfl
  refine ⟨_, rfl, a, _, 0, _, rfl, rfl, SqT.of ha, h0, rfl, _, rfl, ?_⟩
  refine ite2 (fun c => ?_) (fun c => ?_)
  · have z : t.kd = .name := Kd.eq_iff.mp (of_decide_eq_true c)
    cases t with
    | name x =>
      obtain ⟨a, e, ha⟩ := hR
      cases e
      refine ⟨_, rfl, a, _, 1, _, rfl, rfl, SqT.of ha, rfl, (by show 1 ≤ sizeLine; decide), fun l hn => ?_⟩
      exact q l _ (same_upd hn) hn upd_same
    | bin o a b => cases o <;> cases z
    | _ => cases z
  · refine ⟨_, rfl, a, _, 0, _, rfl, rfl, SqT.of ha, h0, rfl, _, rfl, ?_⟩
    refine ite2 (fun d => ?_) (fun d => ?_)
    · have z : t.kd = .gap := Kd.eq_iff.mp (of_decide_eq_true d)
      cases t with
      | gap g as =>
        obtain ⟨a, b, vs, e, ha, hb, hz, hp⟩ := hR
        cases e
        refine ⟨_, rfl, a, _, 2, _, rfl, rfl, SqT.of ha, rfl, b, rfl, ⟨_, SqT.of hb⟩, fun acc hacc => ?_⟩
        refine comp_tup (xs := vs) (fun i H' => Same H H' ∧ H' acc = some (.lst (((as.take i).flatMap Atom.names).map V.str))) ?_ ?_ ?_ ?_
        · exact ⟨same_upd hacc, upd_same⟩
        · exact fun i H' _ p => SqT.of (p.1 _ _ hb)
        · intro i x H1 hx ⟨g1, e1⟩
          obtain ⟨at_, ea, ra⟩ := paired_get hp hx
          have ra := ra.mono g1.tk
          have en := take_next ea
          have small : ((as.take i).flatMap Atom.names).length ≤ i := by
            have : ∀ l : List Atom, (l.flatMap Atom.names).length ≤ l.length := by
              intro l
              induction l with
              | nil => simp
              | cons a r ih =>
                rw [List.flatMap_cons, List.length_append, List.length_cons]
                have : a.names.length ≤ 1 := by cases a <;> simp [Atom.names]
                omega
            exact Nat.le_trans (this _) (by rw [List.length_take]; omega)
          have hi : i < vs.length := (List.getElem?_eq_some_iff.mp hx).1
          refine ⟨.skip .nil, ?_⟩
          cases at_ with
          | name y =>
            obtain ⟨c, rfl, hc⟩ := ra
            refine ⟨_, rfl, c, _, 0, _, rfl, rfl, SqT.of hc, rfl, rfl, _, rfl, ?_⟩
            refine iteY rfl ?_
            refine ⟨_, rfl, c, _, 1, _, rfl, rfl, SqT.of hc, rfl, _, e1, ?_, same_set g1 hacc, ?_⟩
            · rw [List.length_map]; exact small1000 (by omega)
            · rw [upd_same, en, List.flatMap_append, List.map_append]; rfl
          | num n =>
            obtain ⟨c, rfl, hc⟩ := ra
            refine ⟨_, rfl, c, _, 0, _, rfl, rfl, SqT.of hc, rfl, rfl, _, rfl, ?_⟩
            refine iteN (by decide +kernel) ?_
            exact ⟨g1, by rw [e1, en, List.flatMap_append]; simp [Atom.names]⟩
          | gap n =>
            obtain ⟨c, d, rfl, hc, _⟩ := ra
            refine ⟨_, rfl, c, _, 0, _, rfl, rfl, SqT.of hc, rfl, rfl, _, rfl, ?_⟩
            refine iteN (by decide +kernel) ?_
            exact ⟨g1, by rw [e1, en, List.flatMap_append]; simp [Atom.names]⟩
        · intro H1 ⟨g1, e1⟩
          refine q acc H1 g1 hacc ?_
          rw [e1, ← hp.length, List.take_length]
          rfl
      | bin o a b => cases o <;> cases z
      | _ => cases z
    · refine ⟨(by show 0 ≤ sizeLine; decide), fun l hn => ?_⟩
      have e : t.names = [] := by
        cases t with
        | name x => exact absurd rfl c
        | gap g as => exact absurd rfl d
        | _ => rfl
      refine q l _ (same_upd hn) hn ?_
      rw [e]
      exact upd_same
def sp_bound_in : Sp := fun vs H Q _ => ∃ (t : Tr) (v : V) (i : Int) (b : Addr) (bs : List Str), vs = [v, .int i, .ref b] ∧ Rep H t v ∧ H b = some (.tup (bs.map V.str)) ∧ bs.length ≤ 900 ∧ ∀ p H', Same H H' → H' p = some (.tup ((bIn t i bs).map V.str)) → Q (.ref p) H'
theorem ok_bound_in {k : Nat} {f : Addr} {fd : FuncData} (F : Fun K "bound_in" "bound_in" s_bound_in f fd) : FnOk P w K mg base CX0 (k + 1) f fd ["part", "number", "bound"] sp_bound_in := by
  refine F.ok sc_bound_in (fun vs H Q E h => ?_) (fun cdv A outer s H vs Q E hr h => ?_)
  · obtain ⟨t, v, i, b, bs, rfl, _⟩ := h
    rfl
  obtain ⟨t, v, i, b, bs, rfl, hR, hb, hlen, q⟩ := h
  refine ⟨_, (pss_cons (ps_if (pw_and (pt_cmpR op_eq (pe_ix (r := rIxT K) ix_tup (pv 0) pe_int (fun _ _ => rfl)) pe_str (nomark _)) (pw_and1 (pt_cmpR op_eq (pv 1) pe_int (nomark _)))).pt (pss_one (ps_ret (pe_op op_catV (pv 2) (pe_tup (pa_cons (pe_ix (r := rIxT K) ix_tup (pv 0) pe_int (fun _ _ => rfl)) pa_nil) : PE _ _ _)))) pss_nil)
    (pss_one (ps_ret (pv 2)))), ?_⟩
  obtain ⟨a, hs, us, rfl, ha, hl, hp⟩ := hR.all
  have h0 : atI (V.str t.kd.s :: hs ++ us) 0 = some (.str t.kd.s) := atI_nat (j := 0) rfl
  refine ⟨_, rfl, a, _, 0, _, rfl, rfl, SqT.of ha, h0, rfl, _, rfl, ?_⟩
  refine ite2 (fun c => ?_) (fun c => ?_)
  · have z : t.kd = .lett := Kd.eq_iff.mp (of_decide_eq_true c)
    refine ⟨_, rfl, rfl, _, rfl, ?_⟩
    cases t with
    | lett x s t =>
      obtain ⟨a', u, w', e, ha', _⟩ := hR
      cases e
      refine ite2 (fun d => ?_) (fun d => ?_)
      · have d' : i = 1 := V.int.inj (of_decide_eq_true d)
        subst d'
        refine ⟨_, rfl, _, rfl, a, _, 1, _, rfl, rfl, SqT.of ha', rfl, (by show 1 ≤ sizeLine; decide), fun p hpn => ?_⟩
        refine ⟨b, p, _, [.str x], rfl, rfl, same_upd hpn _ _ hb, upd_same, line1000 (by rw [List.length_map]; show bs.length + 1 ≤ 1000; omega), fun r H' g e => ?_⟩
        refine q r H' ((same_upd hpn).trans g) ?_
        rw [e]
        simp [bIn]
      · have d' : ¬ i = 1 := fun z => d (by rw [z]; exact decide_eq_true rfl)
        refine ⟨_, rfl, q b H (.refl H) ?_⟩
        rw [hb]
        simp [bIn, d']
    | bin o a b => cases o <;> cases z
    | _ => cases z
  · refine iteF ?_
    refine ⟨_, rfl, q b H (.refl H) ?_⟩
    have e : bIn t i bs = bs := by
      cases t with
      | lett x s t => exact absurd rfl c
      | _ => rfl
    rw [hb, e]
abbrev Rising (ss : List Str) : Prop := ss.Pairwise (fun a b => ltCps b.cps.toList a.cps.toList = false)
def FreeOut (t : Tr) (H : Hp) (Q : VK) : Prop := ∀ (l : Addr) (H' : Hp) (ss : List Str), Same H H' → H l = none → H' l = some (.lst (ss.map V.str)) → ss.Nodup → Rising ss → (∀ x, x ∈ ss ↔ x ∈ t.fv []) → Q (.ref l) H'
def sp_free_names : Sp := fun vs H Q _ => ∃ (t : Tr) (v : V) (ws : List Str), vs = [v] ∧ Rep H t v ∧ t.size ≤ 500 ∧ ws.length < 64 ∧ (∀ x ∈ t.fv [], x ∈ ws) ∧ FreeOut t H Q
theorem ok_free_names {k : Nat} {f g1 g2 g3 : Addr} {fd gd1 gd2 gd3 : FuncData} (F : Fun K "free_names" "free_names" s_free_names f fd) (z_sorted : mg "sorted" = none) (z_enumerate : mg "enumerate" = none)
    (G_parts : FnB P w K mg base k "parts" g1 gd1 ["tree"] sp_parts) (G_names_at : FnB P w K mg base k "names_at" g2 gd2 ["part"] sp_names_at) (G_bound_in : FnB P w K mg base k "bound_in" g3 gd3 ["part", "number", "bound"] sp_bound_in) :
    FnOk P w K mg base CX0 (k + 1) f fd ["tree"] sp_free_names := by
  refine F.ok sc_free_names (fun vs H Q E h => ?_) (fun cdv A outer s H vs Q E hr h => ?_)
  · obtain ⟨t, v, ws, rfl, _⟩ := h
    rfl
  obtain ⟨t, v, ws, rfl, hR, hsz, hws, hsub, q⟩ := h
  have hu := hu_of hr
  refine ⟨_, (pss_cons (ps_set (i := 1) sc_free_names.nd rfl (Or.inl rfl) pe_dnewK)
    (pss_cons (ps_set (i := 2) sc_free_names.nd rfl (Or.inl rfl) (pe_lst (pa_cons (pe_tup (pa_cons (pv 0) (pa_cons (pe_tup pa_nil : PE _ _ _) pa_nil)) : PE _ _ _) pa_nil) : PE _ _ _))
    (pss_cons (ps_while PassesOwn.never (pt_truth (pv 2) (fun _ => rfl)) (pss_cons (ps_set (i := 3) sc_free_names.nd rfl (Or.inl rfl) (pe_lst pa_nil : PE _ _ _))
    (pss_cons (ps_for PassesOwn.never rfl (pi_list (pv 2)) (pg_tup rfl (pgs_cons (pg_name (i := 4) sc_free_names.nd rfl (Or.inl rfl)) (pgs_cons (pg_name (i := 5) sc_free_names.nd rfl (Or.inl rfl)) pgs_nil))) (pss_cons (ps_for PassesOwn.never rfl (pi_list (pe_call G_names_at.ok hr (by rfl) G_names_at.gl G_names_at.kp G_names_at.bd .nil pass0 (pa_cons (pv 4) pa_nil))) (pg_name (i := 6) sc_free_names.nd rfl (Or.inl rfl)) (pss_one (ps_if (pt_cmpR (r := rIn K true) op_notIn_seq (pv 6) (pv 5) rfl) (pss_one (ps_dput hu (pv 1) (pv 6) pe_bl rfl)) pss_nil)))
    (pss_one (ps_for PassesOwn.never rfl (pi_enum (by rfl) z_enumerate (pa_cons (pe_call G_parts.ok hr (by rfl) G_parts.gl G_parts.kp G_parts.bd .nil pass0 (pa_cons (pv 4) pa_nil)) pa_nil)) (pg_tup rfl (pgs_cons (pg_name (i := 7) sc_free_names.nd rfl (Or.inl rfl)) (pgs_cons (pg_name (i := 8) sc_free_names.nd rfl (Or.inl rfl)) pgs_nil))) (pss_one (ps_expr (pe_bm PySem.F.plainAttrs_list PySem.F.slot_list_append PySem.F.type_list_append mt_append (pv 3) (pa_cons (pe_tup (pa_cons (pv 8) (pa_cons (pe_call G_bound_in.ok hr (by rfl) G_bound_in.gl G_bound_in.kp G_bound_in.bd .nil pass0 (pa_cons (pv 4) (pa_cons (pv 7) (pa_cons (pv 5) pa_nil)))) pa_nil)) : PE _ _ _) pa_nil))))))))
    (pss_one (ps_set (i := 2) sc_free_names.nd rfl (Or.inl rfl) (pv 3))))))
    (pss_one (ps_ret (pe_callB (call_sortedD rfl) (by rfl) z_sorted PyProof.Rows.boot_sorted (pa_cons (pv 1) pa_nil))))))), ?_⟩
  refine fun d hd => ⟨_, rfl, (by show 0 ≤ sizeLine; decide), fun e he => ⟨(by show 2 ≤ sizeLine; decide), fun pr hpr => ⟨(by show 1 ≤ sizeLine; decide), fun l hl => ?_⟩⟩⟩
  have g1 : Same H (upd H d (.dK [])) := same_upd hd
  have g2 : Same (upd H d (.dK [])) _ := same_upd (o := .tup []) he
  have g3 := same_upd (o := .tup [v, .ref e]) hpr
  have g4 := same_upd (o := .lst [.ref pr]) hl
  have gAll := g1.trans (g2.trans (g3.trans g4))
  have hld : l ≠ d := Ne.symm (ne_of_none (g3 _ _ (g2 _ _ upd_same)) hl)
  have hlH : H l = none := (g1.trans (g2.trans g3)).free hl
  refine ⟨fun m σ' H' => ∃ (l : Addr) (ps : List V) (lev : List (Tr × List Str)) (ks : List Str) (s3 s4 s5 s6 s7 s8 : Option V), σ' = [some v, some (.ref d), some (.ref l), s3, s4, s5, s6, s7, s8] ∧ Same H H' ∧ H l = none ∧ l ≠ d ∧
    H' d = some (.dK (kvOf ks)) ∧ H' l = some (.lst ps) ∧ Paired (PairRep H') lev ps ∧ ks.Nodup ∧ m = total lev ∧ total lev ≤ 500 ∧ (∀ q ∈ lev, q.2.length + q.1.size ≤ 500) ∧ (∀ x, (x ∈ ks ∨ ∃ q ∈ lev, x ∈ q.1.fv q.2) ↔ x ∈ t.fv []),
    ⟨t.size, l, _, [(t, [])], [], none, none, none, none, none, none, rfl, gAll, hlH, hld, g4 _ _ (g3 _ _ (g2 _ _ upd_same)), upd_same, .cons ⟨pr, v, e, rfl, g4 _ _ upd_same, hR.mono gAll.tk, g4 _ _ (g3 _ _ upd_same)⟩ .nil, List.nodup_nil, by simp [total], by simpa [total] using hsz, by simpa using hsz, by simp⟩, ?_⟩
  rintro m σ' Hw ⟨l, ps, lev, ks, s3, s4, s5, s6, s7, s8, rfl, gw, hl, hld, ed, el, hp, hnd, rfl, htot, hdeep, hset⟩
  refine ⟨_, rfl, _, .inl ⟨ps, SqL.of el, rfl⟩, ?_⟩
  refine ite2 (fun c => ?_) (fun c => ?_)
  · refine ⟨_, fun _ _ h => h, (by show 0 ≤ sizeLine; decide), fun dp hdp => ⟨_, rfl, l, rfl, ⟨ps, SqL.of (same_upd hdp _ _ el)⟩, ?_⟩⟩
    have gd := same_upd (o := .lst []) hdp
    have hdpH : H dp = none := gw.free hdp
    have ndd : dp ≠ d := Ne.symm (ne_of_none ed hdp)
    have ndl : dp ≠ l := Ne.symm (ne_of_none el hdp)
    refine for_list (xs := ps) (fun i σ' H' => ∃ (dps : List V) (ks' : List Str) (s4 s5 s6 s7 s8 : Option V), σ' = [some v, some (.ref d), some (.ref l), some (.ref dp), s4, s5, s6, s7, s8] ∧ Same H H' ∧ Tk Hw H' ∧
      H' d = some (.dK (kvOf ks')) ∧ H' l = some (.lst ps) ∧ H' dp = some (.lst dps) ∧ Paired (PairRep H') ((lev.take i).flatMap fun q => kids q.1 q.2) dps ∧ ks'.Nodup ∧ (∀ x, x ∈ ks' ↔ x ∈ ks ∨ ∃ q ∈ lev.take i, x ∈ q.1.names ∧ x ∉ q.2)) ?_ ?_ ?_ ?_
    · exact ⟨[], ks, s4, s5, s6, s7, s8, rfl, gw.trans gd, gd.tk, gd _ _ ed, gd _ _ el, upd_same, .nil, hnd, by simp⟩
    · rintro i σ1 H1 _ ⟨dps, ks1, s4, s5, s6, s7, s8, rfl, g1, k1, ed1, el1, edp1, hp1, n1, m1⟩
      exact SqL.of el1
    · rintro i x σ1 H1 hx ⟨dps, ks1, s4, s5, s6, s7, s8, rfl, g1, k1, ed1, el1, edp1, hp1, n1, m1⟩
      obtain ⟨⟨tq, bs⟩, eq, rq⟩ := paired_get hp hx
      have hmem : (tq, bs) ∈ lev := List.mem_of_getElem? eq
      have hdq := hdeep _ hmem
      have spq := size_pos tq
      dsimp only at hdq
      obtain ⟨a, u, b, rfl, ha, ru, hb⟩ := rq.mono k1
      refine ⟨a, _, rfl, SqT.of ha, rfl, _, _, rfl, _, _, rfl, rfl, ?_⟩
      refine ⟨_, rfl, tq, u, rfl, ru, fun ln H2 g2 hln e2 => ⟨ln, rfl, ⟨_, SqL.of e2⟩, ?_⟩⟩
      have nlnd : ln ≠ d := Ne.symm (ne_of_none ed1 hln)
      have nlnl : ln ≠ l := Ne.symm (ne_of_none el1 hln)
      have nlnp : ln ≠ dp := Ne.symm (ne_of_none edp1 hln)
      refine for_list (xs := tq.names.map V.str) (fun j σ' H' => ∃ (ks' : List Str) (s6 : Option V), σ' = [some v, some (.ref d), some (.ref l), some (.ref dp), some u, some (.ref b), s6, s7, s8] ∧ Same H H' ∧ Tk H2 H' ∧
        H' d = some (.dK (kvOf ks')) ∧ H' l = some (.lst ps) ∧ H' dp = some (.lst dps) ∧ H' ln = some (.lst (tq.names.map V.str)) ∧ ks'.Nodup ∧ (∀ x, x ∈ ks' ↔ x ∈ ks1 ∨ (x ∈ tq.names.take j ∧ x ∉ bs))) ?_ ?_ ?_ ?_
      · exact ⟨ks1, s6, rfl, g1.trans g2, .refl _, g2 _ _ ed1, g2 _ _ el1, g2 _ _ edp1, e2, n1, by simp⟩
      · rintro j σ2 H3 _ ⟨ks2, s6, rfl, g3, k3, ed3, el3, edp3, eln3, n3, m3⟩
        exact SqL.of eln3
      · rintro j x σ2 H3 hx ⟨ks2, s6, rfl, g3, k3, ed3, el3, edp3, eln3, n3, m3⟩
        rw [List.getElem?_map] at hx
        obtain ⟨y, hy, rfl⟩ := Option.map_eq_some_iff.mp hx
        have hb3 : H3 b = some (.tup (bs.map V.str)) := k3 _ _ (g2.tk _ _ hb)
        refine ⟨_, rfl, _, rfl, b, _, rfl, .inr (SqT.of hb3), rfl, flat_bs bs, _, rfl, ?_⟩
        show if (!inV (V.str y) (bs.map V.str)) = true then _ else _
        rw [inV_strs]
        have et := take_next hy
        have kle : ks2.length ≤ ws.length := by
          refine nodup_len n3 fun z hz => hsub z ((hset z).mp ?_)
          rcases (m3 z).mp hz with h | ⟨h, h'⟩
          · rcases (m1 z).mp h with h | ⟨q', hq', h1, h2⟩
            · exact .inl h
            · exact .inr ⟨q', List.mem_of_mem_take hq', (kids_fv _ _ _).mpr (.inl ⟨h1, h2⟩)⟩
          · exact .inr ⟨(tq, bs), hmem, (kids_fv _ _ _).mpr (.inl ⟨List.mem_of_mem_take h, h'⟩)⟩
        refine ite2 (fun c => ?_) (fun c => ?_)
        · have ny : y ∉ bs := by simpa using c
          refine ⟨_, rfl, _, rfl, d, _, rfl, DPut.k (k := Sum.inr y) ed3 (small1000 (by rw [show (kvOf ks2).length = ks2.length from List.length_map _]; omega)), ?_⟩
          refine ⟨addK ks2 y, some (.str y), rfl, same_set g3 hd, k3.trans (Tk.dk ed3), by rw [upd_same, put_kvOf], by rw [upd_ne hld]; exact el3, by rw [upd_ne ndd]; exact edp3, by rw [upd_ne nlnd]; exact eln3, addK_nodup n3, fun z => ?_⟩
          rw [mem_addK, m3, et, List.mem_append, List.mem_singleton]
          constructor
          · rintro ((h | ⟨h1, h2⟩) | h)
            · exact .inl h
            · exact .inr ⟨.inl h1, h2⟩
            · exact .inr ⟨.inr h, h ▸ ny⟩
          · rintro (h | ⟨h1 | h1, h2⟩)
            · exact .inl (.inl h)
            · exact .inl (.inr ⟨h1, h2⟩)
            · exact .inr h1
        · have ny : y ∈ bs := by simpa using c
          refine ⟨ks2, some (.str y), rfl, g3, k3, ed3, el3, edp3, eln3, n3, fun z => ?_⟩
          rw [m3, et, List.mem_append, List.mem_singleton]
          constructor
          · rintro (h | ⟨h1, h2⟩)
            · exact .inl h
            · exact .inr ⟨.inl h1, h2⟩
          · rintro (h | ⟨h1 | h1, h2⟩)
            · exact .inl h
            · exact .inr ⟨h1, h2⟩
            · exact absurd (h1 ▸ ny) h2
      · rintro σ2 H3 ⟨ks2, s6, rfl, g3, k3, ed3, el3, edp3, eln3, n3, m3⟩
        rw [List.length_map, List.take_length] at m3
        have k13 : Tk H1 H3 := g2.tk.trans k3
        have ru3 := ru.mono k13
        refine ⟨_, rfl, tq, u, rfl, ru3, fun pt H4 us g4 e4 hus => ⟨pt, rfl, ⟨us, SqT.of e4⟩, ?_⟩⟩
        have hk := kids_len tq bs
        have hul : us.length = (kids tq bs).length := by rw [hk, hus.length]
        have hb4 : H4 b = some (.tup (bs.map V.str)) := g4.tk _ _ (k13 _ _ hb)
        have ru4 := ru3.mono g4.tk
        refine for_enum (xs := us) (fun j σ' H' => ∃ (dps' : List V) (s7 s8 : Option V), σ' = [some v, some (.ref d), some (.ref l), some (.ref dp), some u, some (.ref b), s6, s7, s8] ∧ Same H H' ∧ Tk H4 H' ∧
          H' d = some (.dK (kvOf ks2)) ∧ H' l = some (.lst ps) ∧ H' dp = some (.lst dps') ∧ Paired (PairRep H') (((lev.take i).flatMap fun q => kids q.1 q.2) ++ (kids tq bs).take j) dps') ?_ ?_ ?_ ?_
        · exact ⟨dps, s7, s8, rfl, g3.trans g4, .refl _, g4 _ _ ed3, g4 _ _ el3, g4 _ _ edp3, by
            rw [List.take_zero, List.append_nil]
            exact Paired.mapP hp1 fun _ _ z => z.mono (k13.trans g4.tk)⟩
        · rintro j σ3 H5 _ ⟨dps5, s7, s8, rfl, g5, k5, ed5, el5, edp5, hp5⟩
          exact SqT.of (k5 _ _ e4)
        · rintro j x T σ3 H5 hx ⟨dps5, s7, s8, rfl, g5, k5, ed5, el5, edp5, hp5⟩ hT
          have gT := same_upd (o := .tup [.int j, x]) hT
          obtain ⟨c, ec, rc⟩ := paired_get hus hx
          have kk := kids_get tq bs j c ec
          have hj : j < us.length := (List.getElem?_eq_some_iff.mp hx).1
          refine ⟨T, _, rfl, SqT.of upd_same, rfl, _, _, rfl, _, _, rfl, rfl, ?_⟩
          have edp6 := gT _ _ edp5
          refine ⟨_, rfl, .inl ⟨rfl, _, SqL.of edp6⟩, _, rfl, _, rfl, _, rfl, _, rfl, tq, u, j, b, bs, rfl, ru4.mono (k5.trans gT.tk), gT.tk _ _ (k5 _ _ hb4), by omega, fun p H6 g6 e6 => ⟨(by show 2 ≤ sizeLine; decide), fun pq hpq => ?_⟩⟩
          have gq := same_upd (o := .tup [x, .ref p]) hpq
          have gA := gT.trans (g6.trans gq)
          have edp7 := gA _ _ edp5
          have tot : dps5.length ≤ 500 := by
            rw [← hp5.length, List.length_append, List.length_take]
            have l1 := len_total ((lev.take i).flatMap fun q => kids q.1 q.2)
            have l2 := len_kids (lev.take i)
            have l3 : total (lev.take (i + 1)) ≤ total lev := total_take lev _
            rw [take_next eq, total_append, total_cons, total_nil] at l3
            have l4 := kids_total tq bs
            have l5 := len_total (kids tq bs)
            dsimp only at l3
            omega
          refine ⟨dp, _, _, rfl, rfl, edp7, small1000 (by omega), ?_⟩
          have kset : Tk H5 (upd (upd H6 pq (.tup [x, .ref p])) dp (.lst (dps5 ++ [.ref pq]))) := gA.tk.trans (Tk.lst edp7)
          refine ⟨_, _, _, rfl, same_set (g5.trans gA) hdpH, k5.trans kset, by rw [upd_ne (Ne.symm ndd)]; exact gA _ _ ed5, by rw [upd_ne (Ne.symm ndl)]; exact gA _ _ el5, upd_same, ?_⟩
          rw [take_next kk, ← List.append_assoc]
          refine paired_append (Paired.mapP hp5 fun _ _ z => z.mono kset) (.cons ⟨pq, x, p, rfl, Tk.lst edp7 _ _ upd_same, rc.mono (k5.trans kset), Tk.lst edp7 _ _ (gq _ _ e6)⟩ .nil)
        · rintro σ3 H5 ⟨dps5, s7, s8, rfl, g5, k5, ed5, el5, edp5, hp5⟩
          refine ⟨dps5, ks2, some u, some (.ref b), s6, s7, s8, rfl, g5, k1.trans (k13.trans (g4.tk.trans k5)), ed5, el5, edp5, ?_, n3, fun z => ?_⟩
          · rw [hul, List.take_length] at hp5
            rw [take_next eq, List.flatMap_append]
            simpa using hp5
          · rw [m3, m1, take_next eq]
            simp only [List.mem_append, List.mem_singleton]
            constructor
            · rintro ((h | ⟨q', hq', h⟩) | h)
              · exact .inl h
              · exact .inr ⟨q', .inl hq', h⟩
              · exact .inr ⟨(tq, bs), .inr rfl, h⟩
            · rintro (h | ⟨q', hq' | hq', h⟩)
              · exact .inl (.inl h)
              · exact .inl (.inr ⟨q', hq', h⟩)
              · subst hq'; exact .inr h
    · rintro σ1 H1 ⟨dps, ks1, s4, s5, s6, s7, s8, rfl, g1, k1, ed1, el1, edp1, hp1, n1, m1⟩
      have hlen : ps.length = lev.length := hp.length.symm
      rw [hlen, List.take_length] at hp1 m1
      have pos : 0 < lev.length := by
        rw [← hlen]
        cases ps with
        | nil => simp at c
        | cons _ _ => simp
      have lk := len_kids lev
      refine ⟨_, rfl, _, ?_, dp, dps, _, ks1, some (.ref dp), s4, s5, s6, s7, s8, rfl, g1, hdpH, ndd, ed1, edp1, hp1, n1, rfl, by omega, fun q' hq' => ?_, fun x => ?_⟩
      · omega
      · obtain ⟨r, hr', hq''⟩ := List.mem_flatMap.mp hq'
        exact kids_deep r.1 r.2 500 (hdeep r hr') q' hq''
      · rw [← hset, m1]
        constructor
        · rintro ((h | ⟨r, hr', h⟩) | ⟨q', hq', h⟩)
          · exact .inl h
          · exact .inr ⟨r, hr', (kids_fv _ _ _).mpr (.inl h)⟩
          · obtain ⟨r, hr', hq''⟩ := List.mem_flatMap.mp hq'
            exact .inr ⟨r, hr', (kids_fv _ _ _).mpr (.inr ⟨q', hq'', h⟩)⟩
        · rintro (h | ⟨r, hr', h⟩)
          · exact .inl (.inl h)
          · rcases (kids_fv _ _ _).mp h with h | ⟨q', hq', h⟩
            · exact .inl (.inr ⟨r, hr', h⟩)
            · exact .inr ⟨q', List.mem_flatMap.mpr ⟨r, hr', hq'⟩, h⟩
  · have e0 : ps = [] := by
      cases ps with
      | nil => rfl
      | cons _ _ => exact absurd rfl c
    subst e0
    cases hp
    have hk : ∀ x, x ∈ ks ↔ x ∈ t.fv [] := fun x => by rw [← hset]; simp
    refine ⟨_, rfl, d, kvOf ks, ks, rfl, ed, by simp [kvOf, List.map_map, Function.comp_def], ?_, fun r ss hr' hperm hris => ?_⟩
    · exact Nat.lt_of_le_of_lt (nodup_len hnd fun x hx => hsub x ((hk x).mp hx)) hws
    · exact q r _ ss (gw.trans (same_upd hr')) (gw.free hr') upd_same (hperm.nodup_iff.mpr hnd) hris fun x => by rw [hperm.mem_iff, hk]
def sp_all : Sp := fun vs H Q _ => ∃ (t : Tr) (v : V), vs = [v] ∧ Rep H t v ∧ t.size ≤ 400 ∧ ∀ (l : Addr) (us : List V) (F : List Tr) (H' : Hp), Same H H' → H' l = some (.lst us) → Paired (Rep H') F us → (∀ p, p ∈ F ↔ p ∈ t.subs) → Q (.ref l) H'
theorem ok_all {k : Nat} {f g1 : Addr} {fd gd1 : FuncData} (F : Fun K "all_parts" "all_parts" s_all_parts f fd) (G_parts : FnB P w K mg base k "parts" g1 gd1 ["tree"] sp_parts) : FnOk P w K mg base CX0 (k + 1) f fd ["tree"] sp_all := by
  refine F.ok sc_all_parts (fun vs H Q E h => ?_) (fun cdv A outer s H vs Q E hr h => ?_)
  · obtain ⟨t, v, rfl, _⟩ := h
    rfl
  obtain ⟨t, v, rfl, hR, hsz, q⟩ := h
  refine ⟨_, (pss_cons (ps_set (i := 1) sc_all_parts.nd rfl (Or.inl rfl) (pe_lst pa_nil : PE _ _ _))
    (pss_cons (ps_set (i := 2) sc_all_parts.nd rfl (Or.inl rfl) (pe_lst (pa_cons (pv 0) pa_nil) : PE _ _ _))
    (pss_cons (ps_while PassesOwn.never (pt_truth (pv 2) (fun _ => rfl)) (pss_cons (ps_expr (pe_bm PySem.F.plainAttrs_list PySem.F.slot_list_extend PySem.F.type_list_extend mt_extend (pv 1) (pa_cons (pv 2) pa_nil)))
    (pss_cons (ps_set (i := 3) sc_all_parts.nd rfl (Or.inl rfl) (pe_lst pa_nil : PE _ _ _))
    (pss_cons (ps_for PassesOwn.never rfl (pi_list (pv 2)) (pg_name (i := 4) sc_all_parts.nd rfl (Or.inl rfl)) (pss_one (ps_expr (pe_bm PySem.F.plainAttrs_list PySem.F.slot_list_extend PySem.F.type_list_extend mt_extendT (pv 3) (pa_cons (pe_call G_parts.ok hr (by rfl) G_parts.gl G_parts.kp G_parts.bd .nil pass0 (pa_cons (pv 4) pa_nil)) pa_nil)))))
    (pss_one (ps_set (i := 2) sc_all_parts.nd rfl (Or.inl rfl) (pv 3)))))))
    (pss_one (ps_ret (pv 1)))))), ?_⟩
  refine ⟨(by show 0 ≤ sizeLine; decide), fun fo hfo => ⟨_, rfl, (by show 1 ≤ sizeLine; decide), fun l hl => ?_⟩⟩
  have g1 := same_upd (o := .lst []) hfo
  have g2 := same_upd (o := .lst [v]) hl
  refine ⟨fun m σ' H' => ∃ (l : Addr) (ls fs : List V) (L Fd : List Tr) (s3 s4 : Option V), σ' = [some v, some (.ref fo), some (.ref l), s3, s4] ∧ Same H H' ∧ H l = none ∧ l ≠ fo ∧ H' fo = some (.lst fs) ∧ H' l = some (.lst ls) ∧
      Paired (Rep H') Fd fs ∧ Paired (Rep H') L ls ∧ m = szT L ∧ (∀ p, (p ∈ Fd ∨ ∃ q ∈ L, p ∈ q.subs) ↔ p ∈ t.subs) ∧ Fd.length + szT L ≤ t.size,
    ⟨t.size, l, [v], [], [t], [], none, none, rfl, g1.trans g2, g1.free hl, Ne.symm (ne_of_none (upd_same (H := H) (a := fo) (o := .lst [])) hl), g2 _ _ upd_same, upd_same, .nil, .cons (hR.mono (g1.trans g2).tk) .nil, by simp [szT], by simp, by simp [szT]⟩, ?_⟩
  rintro m σ' Hw ⟨l, ls, fs, L, Fd, s3, s4, rfl, gw, hl, hlf, ef, el, pF, pL, rfl, hmem, hcnt⟩
  have lL : ls.length = L.length := paired_len pL
  have lF : fs.length = Fd.length := paired_len pF
  have hZ := szT_level L
  refine ⟨_, rfl, _, .inl ⟨ls, SqL.of el, rfl⟩, ?_⟩
  refine ite2 (fun c => ?_) (fun c => ?_)
  · refine ⟨_, fun _ _ h => h, ?_⟩
    refine ⟨_, rfl, .inl ⟨rfl, _, SqL.of ef⟩, _, rfl, fo, l, fs, ls, rfl, rfl, ef, el, line1000 (by omega), ?_⟩
    have ef1 : (upd Hw fo (.lst (fs ++ ls))) fo = some (.lst (fs ++ ls)) := upd_same
    have el1 : (upd Hw fo (.lst (fs ++ ls))) l = some (.lst ls) := by rw [upd_ne hlf]; exact el
    have gw1 : Same H (upd Hw fo (.lst (fs ++ ls))) := same_set gw hfo
    have tk1 : Tk Hw (upd Hw fo (.lst (fs ++ ls))) := Tk.lst ef
    show tSeq _ _ _ _ (upd Hw fo (.lst (fs ++ ls)))
    generalize upd Hw fo (.lst (fs ++ ls)) = H1 at ef1 el1 gw1 tk1 ⊢
    refine ⟨(by show 0 ≤ sizeLine; decide), fun dp hdp => ?_⟩
    have g4 := same_upd (o := .lst []) hdp
    have hdpH : H dp = none := gw1.free hdp
    have ndf : dp ≠ fo := Ne.symm (ne_of_none ef1 hdp)
    have ndl : dp ≠ l := Ne.symm (ne_of_none el1 hdp)
    refine ⟨_, rfl, l, rfl, ⟨ls, SqL.of (g4 _ _ el1)⟩, ?_⟩
    refine for_list (xs := ls) (fun i σ' H' => ∃ (dps : List V) (s4 : Option V), σ' = [some v, some (.ref fo), some (.ref l), some (.ref dp), s4] ∧ Same H H' ∧ Tk H1 H' ∧ H' fo = some (.lst (fs ++ ls)) ∧ H' l = some (.lst ls) ∧ H' dp = some (.lst dps) ∧ Paired (Rep H') ((L.take i).flatMap Tr.parts) dps) ?_ ?_ ?_ ?_
    · exact ⟨[], s4, rfl, gw1.trans g4, g4.tk, g4 _ _ ef1, g4 _ _ el1, upd_same, .nil⟩
    · rintro i σ1 H2 _ ⟨dps, s4, rfl, g5, k5, ef5, el5, ed5, p5⟩
      exact SqL.of el5
    · rintro i x σ1 H2 hx ⟨dps, s4, rfl, g5, k5, ef5, el5, ed5, p5⟩
      obtain ⟨tq, eq, rq⟩ := paired_get pL hx
      refine ⟨_, rfl, .inl ⟨rfl, _, SqL.of ed5⟩, _, rfl, tq, x, rfl, rq.mono (tk1.trans k5), fun pp H3 us g6 ep hus => ?_⟩
      have hflat : ((L.take (i + 1)).flatMap Tr.parts) = ((L.take i).flatMap Tr.parts) ++ tq.parts := by
        rw [take_next eq, List.flatMap_append]
        simp
      have hlen : dps.length + us.length ≤ 1000 := by
        have z0 := paired_len p5
        have z1 := paired_len hus
        have z2 := szT_len ((L.take (i + 1)).flatMap Tr.parts)
        have z3 := szT_level (L.take (i + 1))
        have z4 := szT_take L (i + 1)
        rw [hflat, List.length_append] at z2
        rw [hflat] at z3
        omega
      have ed6 := g6 _ _ ed5
      refine ⟨dp, pp, dps, us, rfl, rfl, ed6, SqT.of ep, line1000 hlen, ?_⟩
      have tkz : Tk H3 (upd H3 dp (.lst (dps ++ us))) := Tk.lst ed6
      refine ⟨dps ++ us, _, rfl, same_set (g5.trans g6) hdpH, k5.trans (g6.tk.trans tkz), by rw [upd_ne (Ne.symm ndf)]; exact g6 _ _ ef5, by rw [upd_ne (Ne.symm ndl)]; exact g6 _ _ el5, upd_same, ?_⟩
      rw [hflat]
      exact paired_append (Paired.mapP p5 fun _ _ z => z.mono (g6.tk.trans tkz)) (Paired.mapP hus fun _ _ z => z.mono tkz)
    · rintro σ1 H2 ⟨dps, s4, rfl, g5, k5, ef5, el5, ed5, p5⟩
      rw [List.take_of_length_le (by omega)] at p5
      have hpos : 0 < L.length := by
        rw [← lL]
        cases ls with
        | nil => simp at c
        | cons _ _ => simp
      refine ⟨_, rfl, szT (L.flatMap Tr.parts), by omega, dp, dps, fs ++ ls, L.flatMap Tr.parts, Fd ++ L, some (.ref dp), s4, rfl, g5, hdpH, ndf, ef5, ed5, paired_append (Paired.mapP pF fun _ _ z => z.mono (tk1.trans k5)) (Paired.mapP pL fun _ _ z => z.mono (tk1.trans k5)), p5, rfl, fun p => ?_, ?_⟩
      · rw [← hmem p, mem_level L, List.mem_append, or_assoc]
      · rw [List.length_append]
        omega
  · have e0 : ls = [] := by
      cases ls with
      | nil => rfl
      | cons _ _ => simp at c
    have eL : L = [] := by
      subst e0
      cases L with
      | nil => rfl
      | cons _ _ => simp at lL
    subst eL
    refine ⟨_, rfl, q fo fs Fd Hw gw ef pF fun p => ?_⟩
    rw [← hmem p]
    simp
end
end K05
set_option Elab.async false
set_option linter.all false
set_option maxRecDepth 100000
set_option maxHeartbeats 4000000
namespace L2
open PySem
def abcS : Str := "abcdefghijklmnopqrstuvwxyz"
theorem abc_len : abcS.length = 26 := by decide +kernel
theorem abc_at : ∀ i < 26, abcS.cps.toList[i]? = some (97 + i) := by decide +kernel
def keptS : List Str := ["let", "in", "if", "then", "else", "say", "ask", "stop", "where", "quiet", "number"]
def keptV : List V := keptS.map V.str
def KeptW (K : PySem.W.Frag) (kv : Addr) : Prop := ∃ (o : Obj) (its : Array Value) (n : Nat), K.lookup kv = some o ∧ o.cls = .type "tuple" ∧ o.data = .seq its n ∧ its.size ≤ sizeLine ∧ Vals keptV its.toList
structure GW (x : Str) : Prop where
  lo : 1 ≤ x.length
  hi : x.length ≤ 8
  kp : x ∉ keptS
  ab : ∀ c ∈ x.cps.toList, 97 ≤ c ∧ c ≤ 122
def wrdN (n : Nat) : Str := if n < 26 then ⟨#[97 + n]⟩ else ⟨#[96 + n / 26, 97 + n % 26]⟩
theorem wrdN_len (n : Nat) : 1 ≤ (wrdN n).length ∧ (wrdN n).length ≤ 8 := by
  unfold wrdN
  split <;> simp [Str.length]
theorem wrdN_abc {n : Nat} (h : n < 702) : ∀ c ∈ (wrdN n).cps.toList, 97 ≤ c ∧ c ≤ 122 := by
  unfold wrdN
  split
  · simp; omega
  · intro c hc
    simp at hc
    omega
theorem wrdN_inj {n m : Nat} (hn : n < 702) (hm : m < 702) (h : wrdN n = wrdN m) : n = m := by
  unfold wrdN at h
  split at h <;> split at h
  · have := congrArg (fun s : Str => s.cps.toList) h
    simp at this
    exact this
  · have := congrArg (fun s : Str => s.cps.toList) h
    simp at this
  · have := congrArg (fun s : Str => s.cps.toList) h
    simp at this
  · have := congrArg (fun s : Str => s.cps.toList) h
    simp at this
    omega
theorem wrd_free {ks : List Str} {n : Nat} (h : ∀ j < n, wrdN j ∈ ks ∨ wrdN j ∈ keptS) (hn : n ≤ 702) : n ≤ ks.length + 11 := by
  have nd : ((List.range n).map wrdN).Nodup := by
    refine List.pairwise_map.mpr (List.Pairwise.imp_of_mem (fun {a b} ha hb ne e => ?_) (List.nodup_range (n := n)))
    have := List.mem_range.mp ha
    have := List.mem_range.mp hb
    exact ne (wrdN_inj (by omega) (by omega) e)
  have := nodup_len (ws := ks ++ keptS) nd fun x hx => by
    obtain ⟨j, hj, rfl⟩ := List.mem_map.mp hx
    exact List.mem_append.mpr (h j (List.mem_range.mp hj))
  simpa [keptS] using this
theorem val_kvOf (ks : List Str) (x : Str) : (valV (kvOf ks) (Sum.inr x : Key)).isSome = decide (x ∈ ks) := by
  have e : ∀ l : List Str, valV (kvOf l) (Sum.inr x : Key) = if x ∈ l then some (.bl true) else none := by
    intro l
    induction l with
    | nil => rfl
    | cons a l ih =>
      unfold valV kvOf at ih ⊢
      rw [List.map_cons, List.find?_cons]
      by_cases h : a = x
      · subst h; simp
      · have h' : ¬ ((Sum.inr a : Key) = Sum.inr x) := fun z => h (Sum.inr.inj z)
        have h2 : ¬ x = a := fun z => h z.symm
        simp only [h', decide_false, List.mem_cons, h2, false_or]
        exact ih
  rw [e]
  by_cases h : x ∈ ks <;> simp [h]
end L2
namespace K05
open PySem PySem.Spec L2 PyProof.Rows
abbrev s_word_of : Stmt := top 12
theorem sc_word_of : FnScope ["number", "word", "rest"] ["number"] (defScope s_word_of) := ⟨rfl, rfl, rfl, by decide +kernel, rfl, by decide +kernel, by decide +kernel⟩
abbrev s_unused_word : Stmt := top 13
theorem sc_unused_word : FnScope ["used", "number"] ["used"] (defScope s_unused_word) := ⟨rfl, rfl, rfl, by decide +kernel, rfl, by decide +kernel, by decide +kernel⟩
section
variable {P : Program} {w : World} {K : PySem.W.Frag} {mg : Str → Option Value} {base : Heap}
def sp_word_of : Sp := fun vs H Q _ => ∃ n : Nat, vs = [.int (n : Int)] ∧ n < 702 ∧ Q (.str (wrdN n)) H
theorem ok_word_of {k : Nat} {f : Addr} {fd : FuncData} {tk : Tok} (F : Fun K "word_of" "word_of" s_word_of f fd) (m_LETTERS : mg "LETTERS" = some (.str abcS tk)) : FnOk P w K mg base CX0 (k + 1) f fd ["number"] sp_word_of := by
  refine F.ok sc_word_of (fun vs H Q E h => ?_) (fun cdv A outer s H vs Q E hr h => ?_)
  · obtain ⟨n, rfl, _⟩ := h
    rfl
  obtain ⟨n, rfl, hn, q⟩ := h
  refine ⟨_, (pss_cons (ps_set (i := 1) sc_word_of.nd rfl (Or.inl rfl) (pe_ix ix_str (pe_glob (v := .str abcS) (by rfl) m_LETTERS ⟨_, rfl⟩) (pe_op op_mod (pv 0) pe_int) (fun _ _ => rfl)))
    (pss_cons (ps_set (i := 2) sc_word_of.nd rfl (Or.inl rfl) (pe_op op_fdiv (pv 0) pe_int))
    (pss_cons (ps_while PassesOwn.never (pt_cmpR op_gt (pv 2) pe_int (nomark _)) (pss_cons (ps_set (i := 1) sc_word_of.nd rfl (Or.inl rfl) (pe_op op_add_str (pe_ix ix_str (pe_glob (v := .str abcS) (by rfl) m_LETTERS ⟨_, rfl⟩) (pe_op op_mod (pe_op op_sub (pv 2) pe_int) pe_int) (fun _ _ => rfl)) (pv 1)))
    (pss_one (ps_set (i := 2) sc_word_of.nd rfl (Or.inl rfl) (pe_op op_fdiv (pe_op op_sub (pv 2) pe_int) pe_int)))))
    (pss_one (ps_ret (pv 1)))))), ?_⟩
  have at_ : ∀ i : Nat, i < 26 → atI abcS.cps.toList ((i : Nat) : Int) = some (97 + i) := fun i hi => atI_nat (abc_at i hi)
  have e1 : (n : Int) % 26 = ((n % 26 : Nat) : Int) := by omega
  have e2 : (n : Int) / 26 = ((n / 26 : Nat) : Int) := by omega
  refine ⟨_, rfl, _, _, rfl, rfl, (show (0 : Int) < 26 by decide), abcS, _, _, rfl, rfl, line1000 (by rw [abc_len]; decide), (by rw [e1]; exact at_ _ (by omega)), ?_⟩
  refine ⟨_, rfl, _, _, rfl, rfl, ⟨(show (0 : Int) < 26 by decide), (show (26 : Int) < 1073741824 by decide)⟩, ?_⟩
  refine ⟨fun m σ' H' => H' = H ∧ ((σ' = [some (.int (n : Int)), some (.str ⟨#[97 + n % 26]⟩), some (.int ((n : Int) / 26))] ∧ m = 1) ∨ (26 ≤ n ∧ σ' = [some (.int (n : Int)), some (.str ⟨#[96 + n / 26, 97 + n % 26]⟩), some (.int 0)] ∧ m = 0)), ⟨1, rfl, .inl ⟨rfl, rfl⟩⟩, ?_⟩
  rintro m σ' H' ⟨rfl, ⟨rfl, rfl⟩ | ⟨hb, rfl, rfl⟩⟩
  · refine ⟨_, rfl, _, _, rfl, rfl, _, rfl, ?_⟩
    refine ite2 (fun c => ?_) (fun c => ?_)
    · have c' : (0 : Int) < (n : Int) / 26 := of_decide_eq_true c
      have e3 : ((n : Int) / 26 - 1) % 26 = ((n / 26 - 1 : Nat) : Int) := by omega
      have e4 : ((n : Int) / 26 - 1) / 26 = 0 := by omega
      refine ⟨_, fun _ _ h => h, ?_⟩
      refine ⟨_, rfl, _, _, rfl, rfl, _, _, rfl, rfl, (show (0 : Int) < 26 by decide), abcS, _, _, rfl, rfl, line1000 (by rw [abc_len]; decide), (by rw [e3]; exact at_ _ (by omega)), _, rfl, _, _, rfl, rfl, line1000 (by show 1 + 1 ≤ 1000; decide), ?_⟩
      refine ⟨_, rfl, _, _, rfl, rfl, _, _, rfl, rfl, ⟨(show (0 : Int) < 26 by decide), (show (26 : Int) < 1073741824 by decide)⟩, ?_⟩
      refine ⟨0, by decide, rfl, .inr ⟨by omega, ?_, rfl⟩⟩
      have e5 : 97 + (n / 26 - 1) = 96 + n / 26 := by omega
      show [some (V.int (n : Int)), some (V.str ⟨#[97 + (n / 26 - 1), 97 + n % 26]⟩), some (V.int (((n : Int) / 26 - 1) / 26))] = _
      rw [e4, e5]
    · have c' : ¬ (0 : Int) < (n : Int) / 26 := fun z => c (decide_eq_true z)
      have e : wrdN n = ⟨#[97 + n % 26]⟩ := by
        unfold wrdN
        rw [if_pos (by omega), Nat.mod_eq_of_lt (by omega)]
      rw [e] at q
      exact ⟨_, rfl, q⟩
  · refine ⟨_, rfl, _, _, rfl, rfl, _, rfl, ?_⟩
    refine iteN (by decide) ?_
    have e : wrdN n = ⟨#[96 + n / 26, 97 + n % 26]⟩ := by
      unfold wrdN
      rw [if_neg (by omega)]
    rw [e] at q
    exact ⟨_, rfl, q⟩
def sp_unused : Sp := fun vs H Q _ => ∃ (u : Addr) (ks : List Str), vs = [.ref u] ∧ H u = some (.dK (kvOf ks)) ∧ ks.length ≤ 600 ∧ ∀ m, m ∉ ks → GW m → Q (.str m) H
theorem ok_unused {k : Nat} {f g1 kv : Addr} {fd gd1 : FuncData} (F : Fun K "unused_word" "unused_word" s_unused_word f fd) (m_KEPT_WORDS : mg "KEPT_WORDS" = some (.ref kv)) (hL : KeptW K kv) (G_word_of : FnB P w K mg base k "word_of" g1 gd1 ["number"] sp_word_of) : FnOk P w K mg base CX0 (k + 1) f fd ["used"] sp_unused := by
  refine F.ok sc_unused_word (fun vs H Q E h => ?_) (fun cdv A outer s H vs Q E hr h => ?_)
  · obtain ⟨u, ks, rfl, _⟩ := h
    rfl
  obtain ⟨u, ks, rfl, hd, hz, q⟩ := h
  have hu := hu_of hr
  refine ⟨_, (pss_cons (ps_set (i := 1) sc_unused_word.nd rfl (Or.inl rfl) pe_int)
    (pss_cons (ps_while PassesOwn.never (pw_or (pt_cmpR (op_inD hu) (pe_call G_word_of.ok hr (by rfl) G_word_of.gl G_word_of.kp G_word_of.bd .nil pass0 (pa_cons (pv 1) pa_nil)) (pv 0) rfl) (pw_or1 (pt_cmpR (r := rIn K false) op_in_seq (pe_call G_word_of.ok hr (by rfl) G_word_of.gl G_word_of.kp G_word_of.bd .nil pass0 (pa_cons (pv 1) pa_nil)) (pe_glob (v := .ref _) (by rfl) m_KEPT_WORDS (by rfl)) rfl))).pt (pss_one (ps_aug (i := 1) sc_unused_word.nd rfl (Or.inl rfl) pe_int ip_add)))
    (pss_one (ps_ret (pe_call G_word_of.ok hr (by rfl) G_word_of.gl G_word_of.kp G_word_of.bd .nil pass0 (pa_cons (pv 1) pa_nil)))))), ?_⟩
  have inK : ∀ x : Str, inV (.str x) keptV = decide (x ∈ keptS) := fun x => inV_strs x keptS
  have gd : ∀ n : Nat, DGet H u (.str (wrdN n)) (valV (kvOf ks) (Sum.inr (wrdN n) : Key)) := fun n => DGet.k (k := Sum.inr (wrdN n)) hd
  refine ⟨fun m σ' H' => H' = H ∧ ∃ n : Nat, σ' = [some (.ref u), some (.int (n : Int))] ∧ m = 701 - n ∧ (∀ j < n, wrdN j ∈ ks ∨ wrdN j ∈ keptS) ∧ n ≤ 701, ⟨701, rfl, 0, rfl, rfl, (fun j hj => absurd hj (Nat.not_lt_zero j)), by decide⟩, ?_⟩
  rintro m σ' H' ⟨rfl, n, rfl, rfl, hall, hn7⟩
  have hn : n ≤ ks.length + 11 := wrd_free hall (by omega)
  refine ⟨_, rfl, n, rfl, by omega, _, rfl, u, _, rfl, gd n, _, rfl, ?_⟩
  rw [val_kvOf]
  refine ite2 (fun c => ?_) (fun c => ?_)
  · have hin : wrdN n ∈ ks := by simpa using c
    refine iteT ?_
    refine ⟨_, fun _ _ h => h, ?_⟩
    refine ⟨_, rfl, n, 1, rfl, rfl, ?_⟩
    refine ⟨701 - (n + 1), by omega, rfl, n + 1, rfl, rfl, fun j hj => ?_, by omega⟩
    rcases Nat.lt_or_ge j n with h | h
    · exact hall j h
    · have : j = n := by omega
      rw [this]
      exact .inl hin
  · have hnin : wrdN n ∉ ks := by simpa using c
    refine ⟨_, rfl, n, rfl, by omega, kv, keptV, rfl, .inr (.inr hL), rfl, rfl, _, rfl, ?_⟩
    show if inV (.str (wrdN n)) keptV = true then _ else _
    rw [inK]
    refine ite2 (fun c2 => ?_) (fun c2 => ?_)
    · have hin : wrdN n ∈ keptS := by simpa using c2
      refine ⟨_, fun _ _ h => h, ?_⟩
      refine ⟨_, rfl, n, 1, rfl, rfl, ?_⟩
      refine ⟨701 - (n + 1), by omega, rfl, n + 1, rfl, rfl, fun j hj => ?_, by omega⟩
      rcases Nat.lt_or_ge j n with h | h
      · exact hall j h
      · have : j = n := by omega
        rw [this]
        exact .inr hin
    · have hnk : wrdN n ∉ keptS := by simpa using c2
      refine ⟨_, rfl, n, rfl, by omega, q _ hnin ⟨(wrdN_len n).1, (wrdN_len n).2, hnk, wrdN_abc (by omega)⟩⟩
end
end K05
set_option Elab.async false
set_option linter.all false
set_option maxRecDepth 100000
set_option maxHeartbeats 4000000
namespace L2
open PySem
def RelA (H : Hp) : Option Atom → Option V → Prop
  | some a, some v => AtRep H a v
  | none, none => True
  | _, _ => False
structure Lv (H : Hp) (τ : Told) (kvs : List (Key × V)) : Prop where
  ks : ∀ p ∈ kvs, ∃ x a, p.1 = (Sum.inr x : Key) ∧ AtRep H a p.2
  vl : ∀ x, RelA H (τ x) (valV kvs (Sum.inr x : Key))
theorem RelA.mono {H H' : Hp} (k : Tk H H') {o : Option Atom} {v : Option V} (h : RelA H o v) : RelA H' o v := by
  cases o <;> cases v <;> first | exact h | exact AtRep.mono k h
theorem Lv.mono {H H' : Hp} (k : Tk H H') {τ : Told} {kvs : List (Key × V)} (h : Lv H τ kvs) : Lv H' τ kvs :=
  ⟨fun p hp => let ⟨x, a, e, r⟩ := h.ks p hp; ⟨x, a, e, r.mono k⟩, fun x => (h.vl x).mono k⟩
theorem Lv.some {H : Hp} {τ : Told} {kvs : List (Key × V)} (h : Lv H τ kvs) {x : Str} {a : Atom} (e : τ x = some a) : ∃ v, valV kvs (Sum.inr x : Key) = .some v ∧ AtRep H a v := by
  have := h.vl x
  rw [e] at this
  cases hv : valV kvs (Sum.inr x : Key) with
  | none => rw [hv] at this; exact this.elim
  | some v => rw [hv] at this; exact ⟨v, rfl, this⟩
theorem Lv.get {H : Hp} {τ : Told} {kvs : List (Key × V)} (h : Lv H τ kvs) {x : Str} {v : V} (e : valV kvs (Sum.inr x : Key) = .some v) : ∃ a, τ x = .some a ∧ AtRep H a v := by
  have := h.vl x
  rw [e] at this
  cases ht : τ x with
  | none => rw [ht] at this; exact this.elim
  | some a => rw [ht] at this; exact ⟨a, rfl, this⟩
theorem Lv.none_ {H : Hp} {τ : Told} {kvs : List (Key × V)} (h : Lv H τ kvs) {x : Str} (e : valV kvs (Sum.inr x : Key) = .none) : τ x = .none := by
  have := h.vl x
  rw [e] at this
  cases ht : τ x with
  | none => rfl
  | some a => rw [ht] at this; exact this.elim
theorem val_mem {kvs : List (Key × V)} {k : Key} {v : V} (e : valV kvs k = some v) : ∃ p ∈ kvs, p.1 = k ∧ p.2 = v := by
  obtain ⟨p, hp, ep⟩ := Option.map_eq_some_iff.mp (show (kvs.find? fun kv => decide (kv.1 = k)).map (·.2) = some v from e)
  have h1 := List.find?_some hp
  exact ⟨p, List.mem_of_find?_eq_some hp, by simpa using h1, ep⟩
theorem mem_val {kvs : List (Key × V)} {p : Key × V} (h : p ∈ kvs) : ∃ v, valV kvs p.1 = some v := by
  cases e : valV kvs p.1 with
  | some v => exact ⟨v, rfl⟩
  | none =>
    have : (kvs.find? fun kv => decide (kv.1 = p.1)) = none := by
      cases h' : kvs.find? fun kv => decide (kv.1 = p.1) with
      | none => rfl
      | some q =>
        have : valV kvs p.1 = some q.2 := by
          show (kvs.find? fun kv => decide (kv.1 = p.1)).map (·.2) = _
          rw [h']
          rfl
        rw [this] at e; cases e
    exact absurd (decide_eq_true rfl) (List.find?_eq_none.mp this p h)
theorem in_putK {kvs : List (Key × V)} {k : Key} {v : V} {p : Key × V} (h : p ∈ putK kvs k v) : p = (k, v) ∨ p ∈ kvs := by
  unfold putK at h
  split at h
  · obtain ⟨q, hq, e⟩ := List.mem_map.mp h
    by_cases z : q.1 = k
    · rw [if_pos z, z] at e
      exact .inl e.symm
    · rw [if_neg z] at e
      exact .inr (e ▸ hq)
  · rcases List.mem_append.mp h with h | h
    · exact .inr h
    · exact .inl (List.mem_singleton.mp h)
theorem len_putK (kvs : List (Key × V)) (k : Key) (v : V) : (putK kvs k v).length ≤ kvs.length + 1 := by
  unfold putK
  split <;> simp
theorem Lv.put {H : Hp} {τ : Told} {kvs : List (Key × V)} (h : Lv H τ kvs) {n : Str} {a : Atom} {v : V} (r : AtRep H a v) : Lv H (setT τ n a) (putK kvs (Sum.inr n : Key) v) := by
  refine ⟨fun p hp => ?_, fun x => ?_⟩
  · rcases in_putK hp with e | e
    · exact ⟨n, a, by rw [e], by rw [e]; exact r⟩
    · exact h.ks p e
  · rw [valV_put]
    unfold setT
    by_cases e : x = n
    · subst e
      rw [if_pos rfl, if_pos rfl]
      exact r
    · rw [if_neg e, if_neg (fun z => e (Sum.inr.inj z))]
      exact h.vl x
def wr1 : Tr → List Str
  | .lett x _ _ => [x]
  | t => t.names
theorem wr1_let {t : Tr} (h : ¬ t.kd = .lett) : wr1 t = t.names := by
  cases t with
  | lett x a b => exact absurd rfl h
  | _ => rfl
theorem wrds_subs : ∀ (t : Tr) (x : Str), x ∈ t.wrds ↔ ∃ p ∈ t.subs, x ∈ wr1 p
  | .say a, x => by
    have := wrds_subs a x
    simp [Tr.wrds, Tr.subs, wr1, Tr.names, this]
  | .bin o a b, x => by
    have h1 := wrds_subs a x
    have h2 := wrds_subs b x
    simp only [Tr.wrds, Tr.subs, List.mem_append, List.mem_cons, h1, h2]
    constructor
    · rintro (⟨p, hp, h⟩ | ⟨p, hp, h⟩)
      · exact ⟨p, .inr (.inl hp), h⟩
      · exact ⟨p, .inr (.inr hp), h⟩
    · rintro ⟨p, rfl | hp | hp, h⟩
      · simp [wr1, Tr.names] at h
      · exact .inl ⟨p, hp, h⟩
      · exact .inr ⟨p, hp, h⟩
  | .ite a b c, x => by
    have h1 := wrds_subs a x
    have h2 := wrds_subs b x
    have h3 := wrds_subs c x
    simp only [Tr.wrds, Tr.subs, List.mem_append, List.mem_cons, h1, h2, h3]
    constructor
    · rintro (⟨p, hp, h⟩ | ⟨p, hp, h⟩ | ⟨p, hp, h⟩)
      · exact ⟨p, .inr (.inl hp), h⟩
      · exact ⟨p, .inr (.inr (.inl hp)), h⟩
      · exact ⟨p, .inr (.inr (.inr hp)), h⟩
    · rintro ⟨p, rfl | hp | hp | hp, h⟩
      · simp [wr1, Tr.names] at h
      · exact .inl ⟨p, hp, h⟩
      · exact .inr (.inl ⟨p, hp, h⟩)
      · exact .inr (.inr ⟨p, hp, h⟩)
  | .lett n a b, x => by
    have h1 := wrds_subs a x
    have h2 := wrds_subs b x
    simp only [Tr.wrds, Tr.subs, List.mem_append, List.mem_cons, h1, h2]
    constructor
    · rintro (h | ⟨p, hp, h⟩ | ⟨p, hp, h⟩)
      · exact ⟨_, .inl rfl, by simp [wr1, h]⟩
      · exact ⟨p, .inr (.inl hp), h⟩
      · exact ⟨p, .inr (.inr hp), h⟩
    · rintro ⟨p, rfl | hp | hp, h⟩
      · exact .inl (by simpa [wr1] using h)
      · exact .inr (.inl ⟨p, hp, h⟩)
      · exact .inr (.inr ⟨p, hp, h⟩)
  | .num _, x => by simp [Tr.wrds, Tr.subs, wr1]
  | .name _, x => by simp [Tr.wrds, Tr.subs, wr1]
  | .ask _, x => by simp [Tr.wrds, Tr.subs, wr1]
  | .stop _, x => by simp [Tr.wrds, Tr.subs, wr1]
  | .gap _ _, x => by simp [Tr.wrds, Tr.subs, wr1]
instance instDecAtom : DecidableEq Atom
  | .name x, .name y => if h : x = y then isTrue (by rw [h]) else isFalse fun e => h (by injection e)
  | .num x, .num y => if h : x = y then isTrue (by rw [h]) else isFalse fun e => h (by injection e)
  | .gap x, .gap y => if h : x = y then isTrue (by rw [h]) else isFalse fun e => h (by injection e)
  | .name _, .num _ => isFalse nofun
  | .name _, .gap _ => isFalse nofun
  | .num _, .name _ => isFalse nofun
  | .num _, .gap _ => isFalse nofun
  | .gap _, .name _ => isFalse nofun
  | .gap _, .num _ => isFalse nofun
def Sx (d : Addr) (H H' : Hp) : Prop := ∀ b u, b ≠ d → H b = some u → H' b = some u
theorem Sx.tk {d : Addr} {H H' : Hp} (g : Sx d H H') (hd : ∀ xs, H d ≠ some (.tup xs)) : Tk H H' := fun b xs e => g b _ (fun z => hd xs (z ▸ e)) e
theorem Sx.same {d : Addr} {H H1 H' : Hp} (g : Sx d H H1) (k : Same H1 H') : Sx d H H' := fun b u n e => k b u (g b u n e)
theorem Sx.set {d p : Addr} {H H' : Hp} {o : HO} (g : Sx d H H') (h : H p = none) : Sx d H (upd H' p o) := fun b u n e => by rw [upd_ne (ne_of_none e h)]; exact g b u n e
theorem Sx.back {d : Addr} {H H' : Hp} {o : HO} (g : Sx d H H') (h : H d = some o) : Same H (upd H' d o) := fun b u e => by
  by_cases z : b = d
  · subst z; rw [upd_same, ← h]; exact e
  · rw [upd_ne z]; exact g b u z e
theorem viaS {G : Prop} {E : L2.St → Hp → Prop} (A : L2.St → Hp → Prop) (h : (∀ σ H2, A σ H2 → E σ H2) → G) (r : ∀ σ H2, A σ H2 → E σ H2) : G := h r
theorem lf_name {a : Atom} {n : Str} : Dt.beqs (dtL a.lf) [.str "name", .str n] = decide (a = .name n) := by
  rw [Bool.eq_iff_iff, Dt.beqs_iff, decide_eq_true_iff]
  cases a with
  | name x => simp [Atom.lf, dtL]
  | num x => simp [Atom.lf, dtL]
  | gap x => simp [Atom.lf, dtL]
theorem lf_deep (a : Atom) : (Dt.tup (dtL a.lf)).deep ≤ 150 := by cases a <;> simp [Atom.lf, dtL, Dt.deep, Dt.deeps]
end L2
namespace K05
open PySem PySem.Spec L2 PyProof.Rows
abbrev s_words_used : Stmt := top 14
theorem sc_words_used : FnScope ["tree", "leaves", "used", "part", "name", "leaf"] ["tree", "leaves"] (defScope s_words_used) := ⟨rfl, rfl, rfl, by decide +kernel, rfl, by decide +kernel, by decide +kernel⟩
section
variable {P : Program} {w : World} {K : PySem.W.Frag} {mg : Str → Option Value} {base : Heap}
def sp_words_used : Sp := fun vs H Q _ => ∃ (t : Tr) (v : V) (d : Addr) (kvs : List (Key × V)) (τ : Told) (W : List Str), vs = [v, .ref d] ∧ Rep H t v ∧ t.size ≤ 400 ∧ H d = some (.dK kvs) ∧ Lv H τ kvs ∧ W.length ≤ 400 ∧ (∀ x ∈ t.wrds, x ∈ W) ∧ (∀ p ∈ kvs, ∀ y, AtRep H (.name y) p.2 → y ∈ W) ∧
  ∀ (u : Addr) (ks : List Str) (H' : Hp), Same H H' → H u = none → H' u = some (.dK (kvOf ks)) → ks.Nodup → (∀ x ∈ t.wrds, x ∈ ks) → (∀ x y, τ x = some (.name y) → y ∈ ks) → (∀ x ∈ ks, x ∈ W) → Q (.ref u) H'
theorem ok_words_used {k : Nat} {f g1 g2 : Addr} {fd gd1 gd2 : FuncData} (F : Fun K "words_used" "words_used" s_words_used f fd) (G_all_parts : FnB P w K mg base k "all_parts" g1 gd1 ["tree"] sp_all) (G_names_at : FnB P w K mg base k "names_at" g2 gd2 ["part"] sp_names_at) :
    FnOk P w K mg base CX0 (k + 1) f fd ["tree", "leaves"] sp_words_used := by
  refine F.ok sc_words_used (fun vs H Q E h => ?_) (fun cdv A outer s H vs Q E hr h => ?_)
  · obtain ⟨t, v, d, kvs, τ, W, rfl, _⟩ := h
    rfl
  obtain ⟨t, v, d, kvs, τ, W, rfl, hR, hsz, hd, hv, hW, htW, hdW, q⟩ := h
  have hu := hu_of hr
  refine ⟨_, (pss_cons (ps_set (i := 2) sc_words_used.nd rfl (Or.inl rfl) pe_dnewK)
    (pss_cons (ps_for PassesOwn.never rfl (pi_list (pe_call G_all_parts.ok hr (by rfl) G_all_parts.gl G_all_parts.kp G_all_parts.bd .nil pass0 (pa_cons (pv 0) pa_nil))) (pg_name (i := 3) sc_words_used.nd rfl (Or.inl rfl)) (pss_cons (ps_if (pt_cmpR op_eq (pe_ix (r := rIxT K) ix_tup (pv 3) pe_int (fun _ _ => rfl)) pe_str (nomark _)) (pss_one (ps_dput hu (pv 2) (pe_ix (r := rIxT K) ix_tup (pv 3) pe_int (fun _ _ => rfl)) pe_bl rfl)) pss_nil)
    (pss_one (ps_for PassesOwn.never rfl (pi_list (pe_call G_names_at.ok hr (by rfl) G_names_at.gl G_names_at.kp G_names_at.bd .nil pass0 (pa_cons (pv 3) pa_nil))) (pg_name (i := 4) sc_words_used.nd rfl (Or.inl rfl)) (pss_one (ps_dput hu (pv 2) (pv 4) pe_bl rfl))))))
    (pss_cons (ps_for PassesOwn.never rfl (pi_vals (pe_bm0 PySem.F.plainAttrs_dict PySem.F.slot_dict_values PySem.F.type_dict_values mt_values (pv 1))) (pg_name (i := 5) sc_words_used.nd rfl (Or.inl rfl)) (pss_one (ps_for PassesOwn.never rfl (pi_list (pe_call G_names_at.ok hr (by rfl) G_names_at.gl G_names_at.kp G_names_at.bd .nil pass0 (pa_cons (pv 5) pa_nil))) (pg_name (i := 4) sc_words_used.nd rfl (Or.inl rfl)) (pss_one (ps_dput hu (pv 2) (pv 4) pe_bl rfl)))))
    (pss_one (ps_ret (pe_thaw (pv 2))))))), ?_⟩
  refine fun u hu0 => ?_
  have g0 := same_upd (o := .dK []) hu0
  refine ⟨_, rfl, t, v, rfl, hR.mono g0.tk, hsz, fun l us Fl H1 g1 el pF hmem => ⟨l, rfl, ⟨us, SqL.of el⟩, ?_⟩⟩
  have nul : u ≠ l := fun z => by
    have := g1 u _ upd_same
    rw [z, el] at this
    cases this
  have nud : u ≠ d := Ne.symm (ne_of_none hd hu0)
  have lF : us.length = Fl.length := paired_len pF
  have klen : ∀ ks : List Str, ks.Nodup → (∀ x ∈ ks, x ∈ W) → (kvOf ks).length < sizeLine := fun ks nd hs => by
    have := nodup_len nd hs
    rw [show (kvOf ks).length = ks.length from List.length_map _]
    exact small1000 (by omega)
  refine for_list (xs := us) (fun i σ' H' => ∃ (ks : List Str) (s3 s4 : Option V), σ' = [some v, some (.ref d), some (.ref u), s3, s4, none] ∧ Same H H' ∧ Tk H1 H' ∧ H' l = some (.lst us) ∧ H' u = some (.dK (kvOf ks)) ∧ ks.Nodup ∧ (∀ x ∈ ks, x ∈ W) ∧ ∀ p ∈ Fl.take i, ∀ x ∈ wr1 p, x ∈ ks) ?_ ?_ ?_ ?_
  · exact ⟨[], none, none, rfl, g0.trans g1, .refl _, el, g1 _ _ upd_same, List.nodup_nil, by simp, by simp⟩
  · rintro i σ1 H2 _ ⟨ks, s3, s4, rfl, g2, k2, el2, eu2, nd, hin, hall⟩
    exact SqL.of el2
  · rintro i x σ1 H2 hx ⟨ks, s3, s4, rfl, g2, k2, el2, eu2, nd, hin, hall⟩
    obtain ⟨p, ep, rp⟩ := paired_get pF hx
    have rp := rp.mono k2
    have pin : p ∈ t.subs := (hmem p).mp (List.mem_of_getElem? ep)
    have pW : ∀ x ∈ wr1 p, x ∈ W := fun x hx => htW x ((wrds_subs t x).mpr ⟨p, pin, hx⟩)
    have et := take_next ep
    obtain ⟨a, hs, ws, rfl, ha, hl, hp⟩ := rp.all
    have h0 : atI (V.str p.kd.s :: hs ++ ws) 0 = some (.str p.kd.s) := atI_nat (j := 0) rfl
    apply viaS (fun σ' H' => ∃ (ks : List Str), σ' = [some v, some (.ref d), some (.ref u), some (.ref a), s4, none] ∧ Same H H' ∧ Tk H1 H' ∧ H' l = some (.lst us) ∧ H' u = some (.dK (kvOf ks)) ∧ Rep H' p (.ref a) ∧ ks.Nodup ∧ (∀ x ∈ ks, x ∈ W) ∧ (∀ p ∈ Fl.take i, ∀ x ∈ wr1 p, x ∈ ks) ∧ (p.kd = .lett → ∀ x ∈ wr1 p, x ∈ ks))
    · intro rest
      refine ⟨_, rfl, a, _, 0, _, rfl, rfl, SqT.of ha, h0, rfl, _, rfl, ?_⟩
      refine ite2 (fun c => ?_) (fun c => rest _ _ ⟨ks, rfl, g2, k2, el2, eu2, rp, nd, hin, hall, fun z => absurd (decide_eq_true (Kd.eq_iff.mpr z)) c⟩)
      have z : p.kd = .lett := Kd.eq_iff.mp (of_decide_eq_true c)
      cases p with
      | lett y p1 p2 =>
        obtain ⟨a', u1, u2, e', ha', r1, r2⟩ := rp
        cases e'
        refine ⟨_, rfl, _, rfl, a, _, 1, _, rfl, rfl, SqT.of ha', rfl, u, _, rfl, DPut.k (k := Sum.inr y) eu2 (klen ks nd hin), ?_⟩
        refine rest _ _ ⟨addK ks y, rfl, same_set g2 hu0, k2.trans (Tk.dk eu2), by rw [upd_ne (Ne.symm nul)]; exact el2, by rw [upd_same, put_kvOf], (show Rep _ (.lett y p1 p2) _ from ⟨a, u1, u2, rfl, ha', r1, r2⟩).mono (Tk.dk eu2), addK_nodup nd, fun x hx => ?_, fun p' hp' x hx => mem_addK.mpr (.inl (hall p' hp' x hx)), fun _ x hx => ?_⟩
        · rcases mem_addK.mp hx with h | h
          · exact hin x h
          · exact pW x (by simp [wr1, h])
        · exact mem_addK.mpr (.inr (by simpa [wr1] using hx))
      | bin o a b => cases o <;> cases z
      | _ => cases z
    · rintro σ' H3 ⟨ks3, rfl, g3, k3, el3, eu3, rp3, nd3, hin3, hall3, hlet3⟩
      refine ⟨_, rfl, p, _, rfl, rp3, fun ln H4 g4 hln e4 => ⟨ln, rfl, ⟨_, SqL.of e4⟩, ?_⟩⟩
      have nln : ln ≠ u := Ne.symm (ne_of_none eu3 hln)
      refine for_list (xs := p.names.map V.str) (fun j σ' H' => ∃ (ks : List Str) (s4 : Option V), σ' = [some v, some (.ref d), some (.ref u), some (.ref a), s4, none] ∧ Same H H' ∧ Tk H1 H' ∧ H' l = some (.lst us) ∧ H' u = some (.dK (kvOf ks)) ∧ H' ln = some (.lst (p.names.map V.str)) ∧ ks.Nodup ∧ (∀ x ∈ ks, x ∈ W) ∧ (∀ x ∈ ks3, x ∈ ks) ∧ (∀ x ∈ p.names.take j, x ∈ ks)) ?_ ?_ ?_ ?_
      · exact ⟨ks3, s4, rfl, g3.trans g4, k3.trans g4.tk, g4 _ _ el3, g4 _ _ eu3, e4, nd3, hin3, fun x hx => hx, by simp⟩
      · rintro j σ2 H5 _ ⟨ks5, s4, rfl, g5, k5, el5, eu5, en5, nd5, hin5, up5, all5⟩
        exact SqL.of en5
      · rintro j x σ2 H5 hx ⟨ks5, s4, rfl, g5, k5, el5, eu5, en5, nd5, hin5, up5, all5⟩
        rw [List.getElem?_map] at hx
        obtain ⟨y, hy, rfl⟩ := Option.map_eq_some_iff.mp hx
        refine ⟨_, rfl, _, rfl, u, _, rfl, DPut.k (k := Sum.inr y) eu5 (klen ks5 nd5 hin5), ?_⟩
        refine ⟨addK ks5 y, _, rfl, same_set g5 hu0, k5.trans (Tk.dk eu5), by rw [upd_ne (Ne.symm nul)]; exact el5, by rw [upd_same, put_kvOf], by rw [upd_ne nln]; exact en5, addK_nodup nd5, fun x hx => ?_, fun x hx => mem_addK.mpr (.inl (up5 x hx)), fun x hx => ?_⟩
        · rcases mem_addK.mp hx with h | h
          · exact hin5 x h
          · have hyn : y ∈ p.names := List.mem_of_getElem? hy
            have nl : ¬ p.kd = .lett := fun z => by
              cases p with
              | lett _ _ _ => simp [Tr.names] at hyn
              | bin o _ _ => cases o <;> cases z
              | _ => cases z
            exact pW x (by rw [wr1_let nl, h]; exact hyn)
        · rw [take_next hy] at hx
          rcases List.mem_append.mp hx with h | h
          · exact mem_addK.mpr (.inl (all5 x h))
          · exact mem_addK.mpr (.inr (List.mem_singleton.mp h))
      · rintro σ2 H5 ⟨ks5, s4', rfl, g5, k5, el5, eu5, en5, nd5, hin5, up5, all5⟩
        rw [List.length_map, List.take_length] at all5
        refine ⟨ks5, some (.ref a), s4', rfl, g5, k5, el5, eu5, nd5, hin5, fun p' hp' x hx => ?_⟩
        rw [et] at hp'
        rcases List.mem_append.mp hp' with h | h
        · exact up5 x (hall3 p' h x hx)
        · rw [List.mem_singleton.mp h] at hx
          by_cases z : p.kd = .lett
          · exact up5 x (hlet3 z x hx)
          · rw [wr1_let z] at hx
            exact all5 x hx
  · rintro σ1 H2 ⟨ks, s3, s4, rfl, g2, k2, el2, eu2, nd, hin, hall⟩
    rw [lF, List.take_length] at hall
    have hd2 : H2 d = some (.dK kvs) := g2 _ _ hd
    refine ⟨_, rfl, .inr (.inr (.inl ⟨rfl, .inl ⟨_, hd2⟩⟩)), d, kvs, rfl, rfl, hd2, fun vw hvw => ⟨vw, d, kvs, rfl, upd_same, by rw [upd_ne (ne_of_none hd2 hvw)]; exact hd2, fun o => ?_⟩⟩
    have nuv : u ≠ vw := ne_of_none eu2 hvw
    have sd : Sx d H (upd (upd H2 vw (viewO vw d)) d (.frz o (.dK kvs))) := fun b x n e => by rw [upd_ne n, upd_ne (ne_of_none (g2 _ _ e) hvw)]; exact g2 _ _ e
    have ed : (upd (upd H2 vw (viewO vw d)) d (.frz o (.dK kvs))) d = some (.frz o (.dK kvs)) := upd_same
    have eu3 : (upd (upd H2 vw (viewO vw d)) d (.frz o (.dK kvs))) u = some (.dK (kvOf ks)) := by rw [upd_ne nud, upd_ne nuv]; exact eu2
    generalize upd (upd H2 vw (viewO vw d)) d (.frz o (.dK kvs)) = H3 at sd ed eu3 ⊢
    have nd_tup : ∀ xs, H d ≠ some (.tup xs) := fun xs z => by rw [hd] at z; cases z
    refine for_vals (o := o) (a := d) (kvs := kvs) (fun i σ' H' => ∃ (ks' : List Str) (s4 s5 : Option V), σ' = [some v, some (.ref d), some (.ref u), s3, s4, s5] ∧ Sx d H H' ∧ H' d = some (.frz o (.dK kvs)) ∧ H' u = some (.dK (kvOf ks')) ∧ ks'.Nodup ∧ (∀ x ∈ ks', x ∈ W) ∧ (∀ x ∈ ks, x ∈ ks') ∧ ∀ p ∈ kvs.take i, ∀ y, AtRep H (.name y) p.2 → y ∈ ks') ?_ ?_ ?_ ?_
    · exact ⟨ks, s4, none, rfl, sd, ed, eu3, nd, hin, fun x hx => hx, by simp⟩
    · rintro i σ' H' _ ⟨ks4, s4, s5, rfl, g4, ed4, eu4, nd4, hin4, up4, all4⟩
      exact ed4
    · rintro i p σ' H' hp ⟨ks4, s4, s5, rfl, g4, ed4, eu4, nd4, hin4, up4, all4⟩
      have pmem : p ∈ kvs := List.mem_of_getElem? hp
      obtain ⟨x0, a0, _, ra⟩ := hv.ks p pmem
      have ra4 := ra.mono (g4.tk nd_tup)
      have huniq : ∀ y, AtRep H (.name y) p.2 → y ∈ a0.tr.names := fun y hy => by
        obtain ⟨c, e, hc⟩ := hy
        rw [e] at ra
        cases a0 with
        | name z => obtain ⟨c', e', hc'⟩ := ra; cases e'; rw [hc] at hc'; cases hc'; simp [Atom.tr, Tr.names]
        | num z => obtain ⟨c', e', hc'⟩ := ra; cases e'; rw [hc] at hc'; injection hc' with hc'; injection hc' with hc'; injection hc' with h1 h2; injection h1 with h1; exact absurd h1 (by decide +kernel)
        | gap z => obtain ⟨c', b', e', hc', _⟩ := ra; cases e'; rw [hc] at hc'; injection hc' with hc'; injection hc' with hc'; injection hc' with h1 h2; injection h1 with h1; exact absurd h1 (by decide +kernel)
      have hnW : ∀ y ∈ a0.tr.names, y ∈ W := fun y hy => by
        cases a0 with
        | name z => simp [Atom.tr, Tr.names] at hy; subst hy; exact hdW p pmem y ra
        | num z => simp [Atom.tr, Tr.names] at hy
        | gap z => simp [Atom.tr, Tr.names] at hy
      refine ⟨_, rfl, a0.tr, _, rfl, ra4.tr, fun ln H5 g5 hln e5 => ⟨ln, rfl, ⟨_, SqL.of e5⟩, ?_⟩⟩
      have nln : ln ≠ u := Ne.symm (ne_of_none eu4 hln)
      refine for_list (xs := a0.tr.names.map V.str) (fun j σ' H' => ∃ (ks' : List Str) (s4 : Option V), σ' = [some v, some (.ref d), some (.ref u), s3, s4, some p.2] ∧ Sx d H H' ∧ H' d = some (.frz o (.dK kvs)) ∧ H' u = some (.dK (kvOf ks')) ∧ H' ln = some (.lst (a0.tr.names.map V.str)) ∧ ks'.Nodup ∧ (∀ x ∈ ks', x ∈ W) ∧ (∀ x ∈ ks4, x ∈ ks') ∧ (∀ x ∈ a0.tr.names.take j, x ∈ ks')) ?_ ?_ ?_ ?_
      · exact ⟨ks4, s4, rfl, g4.same g5, g5 _ _ ed4, g5 _ _ eu4, e5, nd4, hin4, fun x hx => hx, by simp⟩
      · rintro j σ2 H6 _ ⟨ks6, s4, rfl, g6, ed6, eu6, en6, nd6, hin6, up6, all6⟩
        exact SqL.of en6
      · rintro j x σ2 H6 hx ⟨ks6, s4, rfl, g6, ed6, eu6, en6, nd6, hin6, up6, all6⟩
        rw [List.getElem?_map] at hx
        obtain ⟨y, hy, rfl⟩ := Option.map_eq_some_iff.mp hx
        refine ⟨_, rfl, _, rfl, u, _, rfl, DPut.k (k := Sum.inr y) eu6 (klen ks6 nd6 hin6), ?_⟩
        refine ⟨addK ks6 y, _, rfl, g6.set hu0, by rw [upd_ne (Ne.symm nud)]; exact ed6, by rw [upd_same, put_kvOf], by rw [upd_ne nln]; exact en6, addK_nodup nd6, fun x hx => ?_, fun x hx => mem_addK.mpr (.inl (up6 x hx)), fun x hx => ?_⟩
        · rcases mem_addK.mp hx with h | h
          · exact hin6 x h
          · rw [h]; exact hnW y (List.mem_of_getElem? hy)
        · rw [take_next hy] at hx
          rcases List.mem_append.mp hx with h | h
          · exact mem_addK.mpr (.inl (all6 x h))
          · exact mem_addK.mpr (.inr (List.mem_singleton.mp h))
      · rintro σ2 H6 ⟨ks6, s4', rfl, g6, ed6, eu6, en6, nd6, hin6, up6, all6⟩
        rw [List.length_map, List.take_length] at all6
        refine ⟨ks6, s4', _, rfl, g6, ed6, eu6, nd6, hin6, fun x hx => up6 x (up4 x hx), fun p' hp' y hy => ?_⟩
        rw [take_next hp] at hp'
        rcases List.mem_append.mp hp' with h | h
        · exact up6 y (all4 p' h y hy)
        · rw [List.mem_singleton.mp h] at hy
          exact all6 y (huniq y hy)
    · rintro σ' H' ⟨ks4, s4, s5, rfl, g4, ed4, eu4, nd4, hin4, up4, all4⟩
      rw [List.take_length] at all4
      refine ⟨_, rfl, d, o, kvs, ed4, (fun o u z => by
        have z' : H d = some (.frz o u) := z
        rw [hd] at z'; cases z'), ?_⟩
      refine q u ks4 _ (g4.back hd) hu0 (by rw [upd_ne nud]; exact eu4) nd4 (fun x hx => ?_) (fun x y e => ?_) hin4
      · obtain ⟨p, hp, h⟩ := (wrds_subs t x).mp hx
        exact up4 x (hall p ((hmem p).mpr hp) x h)
      · obtain ⟨v', ev, rv⟩ := hv.some e
        obtain ⟨p, hp, _, e2⟩ := val_mem ev
        exact all4 p hp y (by rw [e2]; exact rv)
end
end K05
set_option Elab.async false
set_option linter.all false
set_option maxRecDepth 100000
set_option maxHeartbeats 4000000
namespace K05
open PySem PySem.Spec L2 PyProof.Rows
abbrev s_catches : Stmt := top 15
theorem sc_catches : FnScope ["let", "leaves", "coming", "free"] ["let", "leaves"] (defScope s_catches) := ⟨rfl, rfl, rfl, by decide +kernel, rfl, by decide +kernel, by decide +kernel⟩
abbrev s_let_name : Stmt := top 16
theorem sc_let_name : FnScope ["let", "leaves", "used"] ["let", "leaves", "used"] (defScope s_let_name) := ⟨rfl, rfl, rfl, by decide +kernel, rfl, by decide +kernel, by decide +kernel⟩
abbrev s_leaves_within : Stmt := top 17
theorem sc_leaves_within : FnScope ["let", "name", "leaves", "within"] ["let", "name", "leaves"] (defScope s_leaves_within) := ⟨rfl, rfl, rfl, by decide +kernel, rfl, by decide +kernel, by decide +kernel⟩
abbrev s_put_leaf : Stmt := top 18
theorem sc_put_leaf : FnScope ["leaf", "leaves"] ["leaf", "leaves"] (defScope s_put_leaf) := ⟨rfl, rfl, rfl, by decide +kernel, rfl, by decide +kernel, by decide +kernel⟩
abbrev s_put_head : Stmt := top 19
theorem sc_put_head : FnScope ["part", "leaves"] ["part", "leaves"] (defScope s_put_head) := ⟨rfl, rfl, rfl, by decide +kernel, rfl, by decide +kernel, by decide +kernel⟩
section
variable {P : Program} {w : World} {K : PySem.W.Frag} {mg : Str → Option Value} {base : Heap}
def sp_catches : Sp := fun vs H Q _ => ∃ (n : Str) (a b : Tr) (v : V) (d : Addr) (kvs : List (Key × V)) (τ : Told) (W : List Str), vs = [v, .ref d] ∧ Rep H (.lett n a b) v ∧ b.size ≤ 500 ∧ H d = some (.dK kvs) ∧ Lv H τ kvs ∧ kvs.length ≤ 500 ∧ W.length < 64 ∧ (∀ x ∈ b.fv [], x ∈ W) ∧
  ∀ (c : Bool) (H' : Hp), Same H H' → (c = true ↔ caught τ n b) → Q (.bl c) H'
theorem ok_catches {k : Nat} {f g1 : Addr} {fd gd1 : FuncData} (F : Fun K "catches" "catches" s_catches f fd) (z_any : mg "any" = none) (G_free_names : FnB P w K mg base k "free_names" g1 gd1 ["tree"] sp_free_names) :
    FnOk P w K mg base CX0 (k + 1) f fd ["let", "leaves"] sp_catches := by
  refine F.ok sc_catches (fun vs H Q E h => ?_) (fun cdv A outer s H vs Q E hr h => ?_)
  · obtain ⟨n, a, b, v, d, kvs, τ, W, rfl, _⟩ := h
    rfl
  obtain ⟨n, ta, tb, v, d, kvs, τ, W, rfl, hR, hsz, hd, hv, hz, hW, hsub, q⟩ := h
  have hu := hu_of hr
  have hu5 := hu150 hr
  refine ⟨_, (pss_cons (ps_compB (jj := 2) ["name", "let", "leaves"] [none, some 0, some 1] rfl (pi_dict (pv 1)) (fun _ _ _ _ _ => (pg_name (i := 0) (show List.Nodup (["name", "let", "leaves"] : List Str) by decide +kernel) rfl (Or.inl rfl))) (fun _ _ _ _ _ => (pts_one (pw_and (pt_cmpR op_ne (pv 0) (pe_ix (r := rIxT K) ix_tup (pv 1) pe_int (fun _ _ => rfl)) (nomark _)) (pw_and1 (pt_cmpR (op_eqD hu5) (pe_dget hu (pv 2) (pv 0) (fun _ _ => rfl)) (pe_tup (pa_cons pe_str (pa_cons (pe_ix (r := rIxT K) ix_tup (pv 1) pe_int (fun _ _ => rfl)) pa_nil)) : PE _ _ _) (nomark _)))).pt)) (fun _ _ _ _ _ => (pv 0)) rfl sc_catches.nd rfl (Or.inl rfl) (Or.inr rfl))
    (pss_cons (ps_if (pt_not (pt_truth (pv 2) (fun _ => rfl))) (pss_one (ps_ret (pe_thaw pe_bl))) pss_nil)
    (pss_cons (ps_set (i := 3) sc_catches.nd rfl (Or.inr rfl) (pe_call G_free_names.ok hr (by rfl) G_free_names.gl G_free_names.kp G_free_names.bd .nil pass0 (pa_cons (pe_thaw (pe_ix (r := rIxT K) ix_tup (pv 0) pe_int (fun _ _ => rfl))) pa_nil)))
    (pss_one (ps_ret (pe_callB (call_anyL rfl) (by rfl) z_any PyProof.Rows.boot_any (pa_cons (pe_compB ["name", "free"] [none, some 3] rfl (pi_list (pv 2)) (fun _ _ _ _ _ => (pg_name (i := 0) (show List.Nodup (["name", "free"] : List Str) by decide +kernel) rfl (Or.inl rfl))) (fun _ _ _ _ _ => pts_nil) (fun _ _ _ _ _ => (pe_cmpR (r := rIn K false) op_in_seq (pv 0) (pv 1) rfl)) rfl) pa_nil))))))), ?_⟩
  obtain ⟨a, u1, u2, rfl, ha, r1, r2⟩ := hR
  have nd_tup : ∀ xs, H d ≠ some (.tup xs) := fun xs z => by rw [hd] at z; cases z
  have nofz : ∀ o u, H d ≠ some (.frz o u) := fun o u z => by rw [hd] at z; cases z
  refine ⟨_, rfl, d, kvs, rfl, .inr ⟨hd, fun o acc hacc => ?_⟩⟩
  have sd : Sx d H (upd H d (.frz o (.dK kvs))) := fun b x n e => by rw [upd_ne n]; exact e
  have ed : (upd H d (.frz o (.dK kvs))) d = some (.frz o (.dK kvs)) := upd_same
  have haccH : H acc = none := by
    by_cases z : acc = d
    · rw [z, ed] at hacc; cases hacc
    · rw [upd_ne z] at hacc; exact hacc
  have nad : acc ≠ d := fun z => by rw [z, ed] at hacc; cases hacc
  generalize upd H d (.frz o (.dK kvs)) = H1 at sd ed hacc ⊢
  refine comp_dictR (o := o) (a := d) (kvs := kvs) (fun i H' => Sx d H H' ∧ H' d = some (.frz o (.dK kvs)) ∧ ∃ xs : List Str, H' acc = some (.lst (xs.map V.str)) ∧ xs.length ≤ i ∧ ∀ x, x ∈ xs ↔ x ≠ n ∧ τ x = some (.name n) ∧ ∃ p ∈ kvs.take i, p.1 = (Sum.inr x : Key)) ?_ ?_ ?_ ?_
  · exact ⟨sd.set haccH, by rw [upd_ne (Ne.symm nad)]; exact ed, [], upd_same, by simp, by simp⟩
  · rintro i H' _ ⟨_, e, _⟩
    exact e
  · rintro i p H2 hp ⟨g2, ed2, xs, e2, hl2, m2⟩
    have pmem : p ∈ kvs := List.mem_of_getElem? hp
    obtain ⟨x, a0, epx, _⟩ := hv.ks p pmem
    have tk2 := g2.tk nd_tup
    have ha2 := tk2 _ _ ha
    have hi : i < kvs.length := (List.getElem?_eq_some_iff.mp hp).1
    have et := take_next hp
    have stay : (¬ (x ≠ n ∧ τ x = some (.name n))) → ∀ H3, Sx d H H3 → H3 d = some (.frz o (.dK kvs)) → H3 acc = some (.lst (xs.map V.str)) →
        (Sx d H H3 ∧ H3 d = some (.frz o (.dK kvs)) ∧ ∃ xs : List Str, H3 acc = some (.lst (xs.map V.str)) ∧ xs.length ≤ i + 1 ∧ ∀ x, x ∈ xs ↔ x ≠ n ∧ τ x = some (.name n) ∧ ∃ p ∈ kvs.take (i + 1), p.1 = (Sum.inr x : Key)) := by
      intro no H3 g3 ed3 e3
      refine ⟨g3, ed3, xs, e3, by omega, fun y => ?_⟩
      rw [m2, et]
      constructor
      · rintro ⟨h1, h2, p', hp', h3⟩
        exact ⟨h1, h2, p', List.mem_append.mpr (.inl hp'), h3⟩
      · rintro ⟨h1, h2, p', hp', h3⟩
        rcases List.mem_append.mp hp' with h | h
        · exact ⟨h1, h2, p', h, h3⟩
        · rw [List.mem_singleton.mp h, epx] at h3
          have : x = y := Sum.inr.inj h3
          subst this
          exact absurd ⟨h1, h2⟩ no
    refine ⟨.skip (.keep (.keep .nil)), ?_⟩
    rw [epx]
    refine ⟨_, rfl, _, rfl, a, _, 1, _, rfl, rfl, SqT.of ha2, rfl, rfl, _, rfl, ?_⟩
    refine ite2 (fun c => ?_) (fun c => ?_)
    · have hne : x ≠ n := fun z => by
        subst z
        simp [kV] at c
      obtain ⟨v', hval⟩ := mem_val pmem
      rw [epx] at hval
      obtain ⟨a1, eτ, ra1⟩ := hv.get hval
      refine ⟨_, rfl, _, rfl, d, v', rfl, .inl ⟨kvs, Sum.inr x, .inr ⟨o, ed2⟩, rfl, hval.symm⟩, _, rfl, a, _, 1, _, rfl, rfl, SqT.of ha2, rfl, (by show 2 ≤ sizeLine; decide), fun tp htp => ?_⟩
      have gt := same_upd (o := .tup [.str "name", .str n]) htp
      have ra2 := (ra1.mono tk2).mono gt.tk
      refine ⟨_, _, ra2.lf.dr, .tup upd_same (.cons (.str _) (.cons (.str _) .nil)), lf_deep a1, ?_⟩
      refine ⟨_, rfl, ?_⟩
      show if Dt.beqs (dtL a1.lf) [.str "name", .str n] = true then _ else _
      rw [lf_name]
      have ntd : tp ≠ d := Ne.symm (ne_of_none ed2 htp)
      have g3 : Sx d H (upd H2 tp (.tup [.str "name", .str n])) := g2.same gt
      refine ite2 (fun c2 => ?_) (fun c2 => ?_)
      · have e1 : a1 = .name n := of_decide_eq_true c2
        subst e1
        refine ⟨_, rfl, xs.map V.str, gt _ _ e2, small1000 (by rw [List.length_map]; omega), g3.set haccH, by rw [upd_ne (Ne.symm nad)]; exact gt _ _ ed2, xs ++ [x], ?_, by rw [List.length_append]; simp; omega, fun y => ?_⟩
        · rw [upd_same, List.map_append]; rfl
        · rw [List.mem_append, m2, et, List.mem_singleton]
          constructor
          · rintro (⟨h1, h2, p', hp', h3⟩ | h)
            · exact ⟨h1, h2, p', List.mem_append.mpr (.inl hp'), h3⟩
            · subst h
              exact ⟨hne, eτ, p, List.mem_append.mpr (.inr (by simp)), epx⟩
          · rintro ⟨h1, h2, p', hp', h3⟩
            rcases List.mem_append.mp hp' with h | h
            · exact .inl ⟨h1, h2, p', h, h3⟩
            · rw [List.mem_singleton.mp h, epx] at h3
              exact .inr (Sum.inr.inj h3).symm
      · have no : ¬ a1 = .name n := fun z => c2 (decide_eq_true z)
        exact stay (fun h => no (by have := h.2; rw [eτ] at this; exact Option.some.inj this)) _ g3 (gt _ _ ed2) (gt _ _ e2)
    · have hxn : x = n := Classical.byContradiction fun z => c (by
        have : ¬ V.str x = V.str n := fun w => z (V.str.inj w)
        simpa [kV] using this)
      refine iteF ?_
      exact stay (fun h => h.1 hxn) _ g2 ed2 e2
  · rintro H2 ⟨g2, ed2, xs, e2, hl2, m2⟩
    rw [List.take_length] at m2
    have tk2 := g2.tk nd_tup
    have ha2 := tk2 _ _ ha
    have m3 : ∀ x, x ∈ xs ↔ x ≠ n ∧ τ x = some (.name n) := fun x => by
      rw [m2]
      constructor
      · rintro ⟨h1, h2, _⟩
        exact ⟨h1, h2⟩
      · rintro ⟨h1, h2⟩
        obtain ⟨v', ev, _⟩ := hv.some h2
        obtain ⟨p, hp, e1, _⟩ := val_mem ev
        exact ⟨h1, h2, p, hp, e1⟩
    have back : Same H (upd H2 d (.dK kvs)) := g2.back hd
    refine ⟨_, rfl, _, .inl ⟨_, SqL.of e2, rfl⟩, ?_⟩
    refine ite2 (fun c => ?_) (fun c => ?_)
    · have hxs : xs = [] := by
        cases xs with
        | nil => rfl
        | cons _ _ => simp at c
      refine ⟨d, o, kvs, ed2, nofz, q false _ back ⟨(fun z => nomatch z), ?_⟩⟩
      rintro ⟨x, h1, h2, _⟩
      have := (m3 x).mpr ⟨h1, h2⟩
      rw [hxs] at this
      cases this
    · refine ⟨_, rfl, a, _, 3, _, rfl, rfl, SqT.of ha2, rfl, d, o, kvs, ed2, nofz, tb, u2, W, rfl, r2.mono back.tk, hsz, hW, hsub, fun l2 H3 ss g3 hl2 e3 nd3 _ mem3 => ?_⟩
      have eacc3 : H3 acc = some (.lst (xs.map V.str)) := g3 _ _ (by rw [upd_ne nad]; exact e2)
      have gA : Same H H3 := back.trans g3
      refine ⟨_, rfl, acc, rfl, ⟨_, SqL.of eacc3⟩, fun ac2 hac2 => ?_⟩
      refine comp_listR (xs := xs.map V.str) (fun i H' => Same H3 H' ∧ H' ac2 = some (.lst (((xs.take i).map fun x => decide (x ∈ ss)).map V.bl))) ?_ ?_ ?_ ?_
      · exact ⟨same_upd hac2, upd_same⟩
      · rintro i H' _ ⟨g, _⟩
        exact SqL.of (g _ _ eacc3)
      · rintro i x H4 hx ⟨g4, e4⟩
        rw [List.getElem?_map] at hx
        obtain ⟨y, hy, rfl⟩ := Option.map_eq_some_iff.mp hx
        have hi : i < xs.length := (List.getElem?_eq_some_iff.mp hy).1
        refine ⟨.skip (.keep .nil), ?_⟩
        refine ⟨_, rfl, _, rfl, l2, _, rfl, .inl (SqL.of (g4 _ _ e3)), rfl, flat_bs ss, ?_⟩
        refine ⟨_, e4, small1000 (by rw [List.length_map, List.length_map, List.length_take]; omega), same_set g4 hac2, ?_⟩
        rw [upd_same, take_next hy, List.map_append, List.map_append]
        show some (HO.lst (_ ++ [V.bl (inV (V.str y) (ss.map V.str))])) = _
        rw [inV_strs]
        rfl
      · rintro H4 ⟨g4, e4⟩
        rw [List.length_map, List.take_length] at e4
        refine ⟨ac2, _, rfl, e4, q _ H4 (gA.trans g4) ?_⟩
        rw [List.any_map, List.any_eq_true]
        constructor
        · rintro ⟨x, hx, h⟩
          have h' : x ∈ ss := by simpa using h
          obtain ⟨h1, h2⟩ := (m3 x).mp hx
          exact ⟨x, h1, h2, (mem3 x).mp h'⟩
        · rintro ⟨x, h1, h2, h3⟩
          exact ⟨x, (m3 x).mpr ⟨h1, h2⟩, by simpa using (mem3 x).mpr h3⟩
def sp_let_name : Sp := fun vs H Q _ => ∃ (n : Str) (a b : Tr) (v : V) (d u : Addr) (kvs : List (Key × V)) (τ : Told) (W ks : List Str), vs = [v, .ref d, .ref u] ∧ Rep H (.lett n a b) v ∧ b.size ≤ 500 ∧ H d = some (.dK kvs) ∧ Lv H τ kvs ∧ kvs.length ≤ 500 ∧ W.length < 64 ∧ (∀ x ∈ b.fv [], x ∈ W) ∧
  H u = some (.dK (kvOf ks)) ∧ ks.length ≤ 600 ∧ ∀ (m : Str) (H' : Hp), Same H H' → ((caught τ n b ∧ m ∉ ks) ∨ (¬ caught τ n b ∧ m = n)) → (m = n ∨ GW m) → Q (.str m) H'
theorem ok_let_name {k : Nat} {f g1 g2 : Addr} {fd gd1 gd2 : FuncData} (F : Fun K "let_name" "let_name" s_let_name f fd) (G_catches : FnB P w K mg base k "catches" g1 gd1 ["let", "leaves"] sp_catches) (G_unused_word : FnB P w K mg base k "unused_word" g2 gd2 ["used"] sp_unused) :
    FnOk P w K mg base CX0 (k + 1) f fd ["let", "leaves", "used"] sp_let_name := by
  refine F.ok sc_let_name (fun vs H Q E h => ?_) (fun cdv A outer s H vs Q E hr h => ?_)
  · obtain ⟨n, a, b, v, d, u, kvs, τ, W, ks, rfl, _⟩ := h
    rfl
  obtain ⟨n, ta, tb, v, d, u, kvs, τ, W, ks, rfl, hR, hsz, hd, hv, hz, hW, hsub, hu, hk, q⟩ := h
  refine ⟨_, (pss_cons (ps_if (pt_val (pe_call G_catches.ok hr (by rfl) G_catches.gl G_catches.kp G_catches.bd .nil pass0 (pa_cons (pv 0) (pa_cons (pv 1) pa_nil)))) (pss_one (ps_ret (pe_call G_unused_word.ok hr (by rfl) G_unused_word.gl G_unused_word.kp G_unused_word.bd .nil pass0 (pa_cons (pv 2) pa_nil)))) pss_nil)
    (pss_one (ps_ret (pe_ix (r := rIxT K) ix_tup (pv 0) pe_int (fun _ _ => rfl))))), ?_⟩
  refine ⟨_, rfl, _, rfl, n, ta, tb, v, d, kvs, τ, W, rfl, hR, hsz, hd, hv, hz, hW, hsub, fun c H1 g1 hc => ⟨_, rfl, ?_⟩⟩
  refine ite2 (fun e => ?_) (fun e => ?_)
  · exact ⟨_, rfl, u, ks, rfl, g1 _ _ hu, hk, fun m hm gm => q m H1 g1 (.inl ⟨hc.mp e, hm⟩) (.inr gm)⟩
  · obtain ⟨a, u1, u2, rfl, ha, _⟩ := hR
    exact ⟨_, rfl, a, _, 1, _, rfl, rfl, SqT.of (g1 _ _ ha), rfl, q n H1 g1 (.inr ⟨fun z => e (hc.mpr z), rfl⟩) (.inl rfl)⟩
def sp_within : Sp := fun vs H Q _ => ∃ (n m : Str) (a b : Tr) (v : V) (d : Addr) (kvs : List (Key × V)) (τ : Told), vs = [v, .str m, .ref d] ∧ Rep H (.lett n a b) v ∧ H d = some (.dK kvs) ∧ Lv H τ kvs ∧ kvs.length ≤ 500 ∧
  ∀ (d' : Addr) (kvs' : List (Key × V)) (H' : Hp), Same H H' → H d' = none → H' d' = some (.dK kvs') → Lv H' (setT τ n (.name m)) kvs' → kvs'.length ≤ kvs.length + 1 → Q (.ref d') H'
theorem ok_within {k : Nat} {f : Addr} {fd : FuncData} (F : Fun K "leaves_within" "leaves_within" s_leaves_within f fd) (z_dict : mg "dict" = none) : FnOk P w K mg base CX0 (k + 1) f fd ["let", "name", "leaves"] sp_within := by
  refine F.ok sc_leaves_within (fun vs H Q E h => ?_) (fun cdv A outer s H vs Q E hr h => ?_)
  · obtain ⟨n, m, a, b, v, d, kvs, τ, rfl, _⟩ := h
    rfl
  obtain ⟨n, m, ta, tb, v, d, kvs, τ, rfl, hR, hd, hv, hz, q⟩ := h
  have hu := hu_of hr
  refine ⟨_, (pss_cons (ps_set (i := 3) sc_leaves_within.nd rfl (Or.inl rfl) (pe_callTy call_dictD (by rfl) z_dict PyProof.Rows.boot_dict (pa_cons (pv 2) pa_nil)))
    (pss_cons (ps_dput hu (pv 3) (pe_ix (r := rIxT K) ix_tup (pv 0) pe_int (fun _ _ => rfl)) (pe_tup (pa_cons pe_str (pa_cons (pv 1) pa_nil)) : PE _ _ _) rfl)
    (pss_one (ps_ret (pv 3))))), ?_⟩
  obtain ⟨a, u1, u2, rfl, ha, _⟩ := hR
  refine ⟨_, rfl, d, kvs, rfl, hd, fun d' hd' => ?_⟩
  have g1 := same_upd (o := .dK kvs) hd'
  refine ⟨_, rfl, (by show 2 ≤ sizeLine; decide), fun tp htp => ?_⟩
  have g2 := same_upd (o := .tup [.str "name", .str m]) htp
  have gA := g1.trans g2
  have ed' : (upd (upd H d' (.dK kvs)) tp (.tup [.str "name", .str m])) d' = some (.dK kvs) := g2 _ _ upd_same
  refine ⟨_, rfl, _, rfl, a, _, 1, _, rfl, rfl, SqT.of (gA _ _ ha), rfl, d', _, rfl, DPut.k (k := Sum.inr n) ed' (small1000 (by omega)), ?_⟩
  refine ⟨_, rfl, q d' _ _ (same_set gA hd') hd' upd_same ?_ (len_putK _ _ _)⟩
  have tkd := Tk.dk (o := .dK (putK kvs (Sum.inr n : Key) (.ref tp))) ed'
  exact ((hv.mono gA.tk).put (n := n) (a := .name m) ⟨tp, rfl, upd_same⟩).mono tkd
def sp_put_leaf : Sp := fun vs H Q _ => ∃ (t : Tr) (v : V) (d : Addr) (kvs : List (Key × V)) (τ : Told), vs = [v, .ref d] ∧ Rep H t v ∧ H d = some (.dK kvs) ∧ Lv H τ kvs ∧
  ((∃ x, t = .name x ∧ ∀ v', AtRep H (tOf τ x) v' → Q v' H) ∨ (t.kd ≠ .name ∧ Q v H))
theorem ok_put_leaf {k : Nat} {f : Addr} {fd : FuncData} (F : Fun K "put_leaf" "put_leaf" s_put_leaf f fd) : FnOk P w K mg base CX0 (k + 1) f fd ["leaf", "leaves"] sp_put_leaf := by
  refine F.ok sc_put_leaf (fun vs H Q E h => ?_) (fun cdv A outer s H vs Q E hr h => ?_)
  · obtain ⟨t, v, d, kvs, τ, rfl, _⟩ := h
    rfl
  obtain ⟨t, v, d, kvs, τ, rfl, hR, hd, hv, q⟩ := h
  have hu := hu_of hr
  refine ⟨_, (pss_cons (ps_if (pt_cmpR op_eq (pe_ix (r := rIxT K) ix_tup (pv 0) pe_int (fun _ _ => rfl)) pe_str (nomark _)) (pss_one (ps_ret (pe_dget2 hu (pv 1) (pe_ix (r := rIxT K) ix_tup (pv 0) pe_int (fun _ _ => rfl)) (pv 0) ⟨rfl, rfl, rfl, rfl⟩))) pss_nil)
    (pss_one (ps_ret (pv 0)))), ?_⟩
  obtain ⟨a, hs, ws, rfl, ha, hl, hp⟩ := hR.all
  have h0 : atI (V.str t.kd.s :: hs ++ ws) 0 = some (.str t.kd.s) := atI_nat (j := 0) rfl
  refine ⟨_, rfl, a, _, 0, _, rfl, rfl, SqT.of ha, h0, rfl, _, rfl, ?_⟩
  refine ite2 (fun c => ?_) (fun c => ?_)
  · have z : t.kd = .name := Kd.eq_iff.mp (of_decide_eq_true c)
    rcases q with ⟨x, rfl, q⟩ | ⟨n, _⟩
    · obtain ⟨a', e, ha'⟩ := hR
      cases e
      refine ⟨_, rfl, d, rfl, .inl ⟨kvs, .inl hd⟩, _, rfl, a, _, 1, _, rfl, rfl, SqT.of ha', rfl, _, rfl, _, DGet.k (k := Sum.inr x) hd, q _ ?_⟩
      unfold tOf
      cases e : valV kvs (Sum.inr x : Key) with
      | none => rw [hv.none_ e]; exact ⟨a, rfl, ha'⟩
      | some v' =>
        obtain ⟨a1, e1, r1⟩ := hv.get e
        rw [e1]
        exact r1
    · exact absurd z n
  · rcases q with ⟨x, rfl, _⟩ | ⟨_, q⟩
    · exact absurd rfl c
    · exact ⟨_, rfl, q⟩
def sp_put_head : Sp := fun vs H Q _ => ∃ (t : Tr) (v : V) (d : Addr) (kvs : List (Key × V)) (τ : Told), vs = [v, .ref d] ∧ Rep H t v ∧ H d = some (.dK kvs) ∧ Lv H τ kvs ∧ ∀ v' H', Same H H' → Rep H' (headT τ t) v' → Q v' H'
theorem ok_put_head {k : Nat} {f g1 : Addr} {fd gd1 : FuncData} (F : Fun K "put_head" "put_head" s_put_head f fd) (z_tuple : mg "tuple" = none) (G_put_leaf : FnB P w K mg base k "put_leaf" g1 gd1 ["leaf", "leaves"] sp_put_leaf) : FnOk P w K mg base CX0 (k + 1) f fd ["part", "leaves"] sp_put_head := by
  refine F.ok sc_put_head (fun vs H Q E h => ?_) (fun cdv A outer s H vs Q E hr h => ?_)
  · obtain ⟨t, v, d, kvs, τ, rfl, _⟩ := h
    rfl
  obtain ⟨t, v, d, kvs, τ, rfl, hR, hd, hv, q⟩ := h
  refine ⟨_, (Sd.un (pss_consS (ps_ifS ⟨pt_cmpR op_eq (pe_ix (r := rIxT K) ix_tup (pv 0) pe_int (fun _ _ => rfl)) pe_str (nomark _)⟩ (pss_oneS (ps_retS (pe_tupS (pa_consS ⟨pe_str⟩ (pa_consS (pe_ixS (r := rIxT K) ix_tup ⟨pv 0⟩ ⟨pe_int⟩ (fun _ _ => rfl)) (pa_consS (pe_callTyS call_tuple_of (by rfl) z_tuple PyProof.Rows.boot_tuple (pa_consS ⟨pe_compB ["atom", "leaves"] [none, some 1] rfl (pi_tup (pe_ix (r := rIxT K) ix_tup (pv 0) pe_int (fun _ _ => rfl))) (fun _ _ _ _ _ => (pg_name (i := 0) (show List.Nodup (["atom", "leaves"] : List Str) by decide +kernel) rfl (Or.inl rfl))) (fun _ _ _ _ _ => pts_nil) (fun _ _ _ _ _ => (pe_call G_put_leaf.ok hr (by rfl) G_put_leaf.gl G_put_leaf.kp G_put_leaf.bd .nil pass0 (pa_cons (pv 0) (pa_cons (pv 1) pa_nil)))) rfl⟩ ⟨pa_nil⟩)) ⟨pa_nil⟩)))))) ⟨pss_nil⟩)
    (pss_oneS (ps_retS ⟨pe_call G_put_leaf.ok hr (by rfl) G_put_leaf.gl G_put_leaf.kp G_put_leaf.bd .nil pass0 (pa_cons (pv 0) (pa_cons (pv 1) pa_nil))⟩)))), ?_⟩
  obtain ⟨a, hs, ws, rfl, ha, hl, hp⟩ := id hR.all
  have h0 : atI (V.str t.kd.s :: hs ++ ws) 0 = some (.str t.kd.s) := atI_nat (j := 0) rfl
  refine ⟨_, rfl, a, _, 0, _, rfl, rfl, SqT.of ha, h0, rfl, _, rfl, ?_⟩
  refine ite2 (fun c => ?_) (fun c => ?_)
  · have z : t.kd = .gap := Kd.eq_iff.mp (of_decide_eq_true c)
    cases t with
    | gap g as =>
      obtain ⟨a', b', us, e, ha', hb', hz', hp'⟩ := hR
      cases e
      have lus := paired_len hp'
      refine ⟨_, rfl, a, _, 1, _, rfl, rfl, SqT.of ha', rfl, _, rfl, a, _, 2, _, rfl, rfl, SqT.of ha', rfl, b', rfl, ⟨_, SqT.of hb'⟩, fun acc hacc => ?_⟩
      refine comp_tupR (xs := us) (fun i H' => Same H H' ∧ ∃ zs, H' acc = some (.lst zs) ∧ Paired (AtRep H') ((as.take i).map (putA τ)) zs) ⟨same_upd hacc, [], upd_same, by rw [List.take_zero]; exact .nil⟩ (fun i H' _ h => SqT.of (h.1 _ _ hb')) ?_ ?_
      · rintro j x Hx hx ⟨gx, zs, ezs, hzs⟩
        obtain ⟨m, em, rm⟩ := paired_get hp' hx
        have hj : j < us.length := (List.getElem?_eq_some_iff.mp hx).1
        have lz := paired_len hzs
        rw [List.length_map, List.length_take] at lz
        have rm' := rm.mono gx.tk
        refine ⟨.skip (.keep .nil), ?_⟩
        have hnext : ∀ v', AtRep Hx (putA τ m) v' → ∃ zs, Hx acc = some (.lst zs) ∧ zs.length < sizeLine ∧ (Same H (upd Hx acc (.lst (zs ++ [v']))) ∧ ∃ zs', (upd Hx acc (.lst (zs ++ [v']))) acc = some (.lst zs') ∧ Paired (AtRep (upd Hx acc (.lst (zs ++ [v'])))) ((as.take (j + 1)).map (putA τ)) zs') := fun v' rv => by
          have tkz : Tk Hx (upd Hx acc (.lst (zs ++ [v']))) := Tk.lst ezs
          refine ⟨zs, ezs, small1000 (by omega), same_set gx hacc, _, upd_same, ?_⟩
          rw [take_next em, List.map_append]
          exact paired_append (Paired.mapP hzs fun _ _ z => z.mono tkz) (.cons (rv.mono tkz) .nil)
        refine ⟨_, rfl, _, rfl, m.tr, x, d, kvs, τ, rfl, rm'.tr, gx _ _ hd, hv.mono gx.tk, ?_⟩
        cases m with
        | name y => exact .inl ⟨y, rfl, fun v' rv => hnext v' rv⟩
        | num y => exact .inr ⟨(by nofun), hnext x rm'⟩
        | gap y => exact .inr ⟨(by nofun), hnext x rm'⟩
      · rintro Hx ⟨gx, zs, ezs, hzs⟩
        rw [lus, List.take_length] at hzs
        have lz := paired_len hzs
        rw [List.length_map] at lz
        refine ⟨acc, zs, rfl, .inl ⟨SqL.of ezs, fun tp htp => ?_⟩⟩
        have g1 := same_upd (o := .tup zs) htp
        refine ⟨(by show 3 ≤ sizeLine; decide), fun tq htq => ?_⟩
        have g2 := same_upd (o := .tup [.str "gap", .str g, .ref tp]) htq
        refine q _ _ (gx.trans (g1.trans g2)) ⟨tq, tp, zs, rfl, upd_same, g2 _ _ upd_same, by omega, ?_⟩
        exact Paired.mapP hzs fun _ _ z => z.mono (g1.trans g2).tk
    | bin o a b => cases o <;> cases z
    | _ => cases z
  · refine ⟨_, rfl, _, rfl, t, _, d, kvs, τ, rfl, hR, hd, hv, ?_⟩
    cases t with
    | name x => exact .inl ⟨x, rfl, fun v' rv => q v' H (.refl H) rv.tr⟩
    | gap g as => exact absurd rfl c
    | bin o a b => exact .inr ⟨by cases o <;> nofun, q _ H (.refl H) hR⟩
    | _ => exact .inr ⟨(by nofun), q _ H (.refl H) hR⟩
end
end K05
set_option Elab.async false
set_option linter.all false
set_option maxRecDepth 100000
set_option maxHeartbeats 4000000
namespace L2
open PySem
theorem nParts_app (a b : List Tr) : nParts (a ++ b) = nParts a + nParts b := by simp [nParts]
theorem nParts_one (h : Tr) : nParts [h] = h.parts.length := by simp [nParts]
theorem nParts_take (hs : List Tr) (i : Nat) : nParts (hs.take i) ≤ nParts hs := by
  have e : nParts hs = nParts (hs.take i) + nParts (hs.drop i) := by rw [← nParts_app, List.take_append_drop]
  omega
theorem paired_cut {α : Type} {F : α → V → Prop} : ∀ {as : List α} {us : List V} (i n : Nat), Paired F as us → Paired F ((as.drop i).take n) ((us.drop i).take n)
  | _, _, i, n, .nil => by simp; exact .nil
  | _, _, 0, 0, .cons r t => by simp; exact .nil
  | _, _, 0, n + 1, .cons r t => by simpa using Paired.cons r (by simpa using paired_cut 0 n t)
  | _, _, i + 1, n, .cons r t => by simpa using paired_cut i n t
def LevRep (H : Hp) (hs : List Tr) (v : V) : Prop := ∃ l us, v = .ref l ∧ H l = some (.lst us) ∧ Paired (Rep H) hs us
theorem paired_rev_get {α : Type} {F : α → V → Prop} {L : List α} {us : List V} (h : Paired F L.reverse us) {i : Nat} {x : V} (hi : i < us.length) (e : us[us.length - 1 - i]? = some x) : ∃ a, L[i]? = some a ∧ F a x := by
  obtain ⟨a, ea, r⟩ := paired_get h e
  have hl : us.length = L.length := by rw [paired_len h, List.length_reverse]
  rw [List.getElem?_reverse (by omega)] at ea
  refine ⟨a, ?_, r⟩
  rw [← ea]
  congr 1
  omega
end L2
namespace K05
open PySem PySem.Spec L2 PyProof.Rows
abbrev s_grown_level : Stmt := top 20
theorem sc_grown_level : FnScope ["heads", "ready", "grown", "begin", "head", "end"] ["heads", "ready"] (defScope s_grown_level) := ⟨rfl, rfl, rfl, by decide +kernel, rfl, by decide +kernel, by decide +kernel⟩
abbrev s_grown_tree : Stmt := top 21
theorem sc_grown_tree : FnScope ["levels", "ready", "heads"] ["levels"] (defScope s_grown_tree) := ⟨rfl, rfl, rfl, by decide +kernel, rfl, by decide +kernel, by decide +kernel⟩
section
variable {P : Program} {w : World} {K : PySem.W.Frag} {mg : Str → Option Value} {base : Heap}
def sp_level : Sp := fun vs H Q _ => ∃ (hl rl : Addr) (hvs rvs : List V) (hs R : List Tr), vs = [.ref hl, .ref rl] ∧ H hl = some (.lst hvs) ∧ H rl = some (.lst rvs) ∧ Paired (Rep H) hs hvs ∧ Paired (Rep H) R rvs ∧ R.length = nParts hs ∧ hs.length ≤ 600 ∧
  ∀ l us H', Same H H' → H l = none → H' l = some (.lst us) → Paired (Rep H') (growL hs R) us → Q (.ref l) H'
theorem ok_level {k : Nat} {f g1 g2 : Addr} {fd gd1 gd2 : FuncData} (F : Fun K "grown_level" "grown_level" s_grown_level f fd) (z_len : mg "len" = none) (G_parts : FnB P w K mg base k "parts" g1 gd1 ["tree"] sp_parts) (G_with_parts : FnB P w K mg base k "with_parts" g2 gd2 ["tree", "parts"] sp_with) :
    FnOk P w K mg base CX0 (k + 1) f fd ["heads", "ready"] sp_level := by
  refine F.ok sc_grown_level (fun vs H Q E h => ?_) (fun cdv A outer s H vs Q E hr h => ?_)
  · obtain ⟨hl, rl, hvs, rvs, hs, R, rfl, _⟩ := h
    rfl
  obtain ⟨hl, rl, hvs, rvs, hs, R, rfl, eh, er, pH, pR, hRn, hz, q⟩ := h
  refine ⟨_, (pss_cons (ps_set (i := 2) sc_grown_level.nd rfl (Or.inl rfl) (pe_lst pa_nil : PE _ _ _))
    (pss_cons (ps_set (i := 3) sc_grown_level.nd rfl (Or.inl rfl) pe_int)
    (pss_cons (ps_for PassesOwn.never rfl (pi_list (pv 0)) (pg_name (i := 4) sc_grown_level.nd rfl (Or.inl rfl)) (pss_cons (ps_set (i := 5) sc_grown_level.nd rfl (Or.inl rfl) (pe_op op_add (pv 3) (pe_callB call_len_seq (by rfl) z_len PySem.boot_len (pa_cons (pe_call G_parts.ok hr (by rfl) G_parts.gl G_parts.kp G_parts.bd .nil pass0 (pa_cons (pv 4) pa_nil)) pa_nil))))
    (pss_cons (ps_expr (pe_bm PySem.F.plainAttrs_list PySem.F.slot_list_append PySem.F.type_list_append mt_append (pv 2) (pa_cons (pe_call G_with_parts.ok hr (by rfl) G_with_parts.gl G_with_parts.kp G_with_parts.bd .nil pass0 (pa_cons (pv 4) (pa_cons (pe_slice (r := rSlL K) sl_list (pv 1) (po_some (pv 3)) (po_some (pv 5))) pa_nil))) pa_nil)))
    (pss_one (ps_set (i := 3) sc_grown_level.nd rfl (Or.inl rfl) (pv 5))))))
    (pss_one (ps_ret (pv 2)))))), ?_⟩
  have lh : hvs.length = hs.length := paired_len pH
  have lr : rvs.length = R.length := paired_len pR
  refine ⟨(by show 0 ≤ sizeLine; decide), fun gl hgl => ?_⟩
  have g0 := same_upd (o := .lst []) hgl
  refine ⟨_, rfl, hl, rfl, ⟨hvs, SqL.of (g0 _ _ eh)⟩, ?_⟩
  refine for_list (xs := hvs) (fun i σ' H' => ∃ (us : List V) (s4 s5 : Option V), σ' = [some (.ref hl), some (.ref rl), some (.ref gl), some (.int ((nParts (hs.take i) : Nat) : Int)), s4, s5] ∧ Same H H' ∧ H' gl = some (.lst us) ∧ Paired (Rep H') (growL (hs.take i) (R.take (nParts (hs.take i)))) us) ?_ ?_ ?_ ?_
  · exact ⟨[], none, none, rfl, g0, upd_same, .nil⟩
  · rintro i σ1 H1 _ ⟨us, s4, s5, rfl, g1, eg1, p1⟩
    exact SqL.of (g1 _ _ eh)
  · rintro i x σ1 H1 hx ⟨us, s4, s5, rfl, g1, eg1, p1⟩
    obtain ⟨h, eh', rh⟩ := paired_get pH hx
    have hi : i < hs.length := (List.getElem?_eq_some_iff.mp eh').1
    have et := take_next eh'
    have en : nParts (hs.take (i + 1)) = nParts (hs.take i) + h.parts.length := by rw [et, nParts_app, nParts_one]
    have le := nParts_take hs (i + 1)
    refine ⟨_, rfl, _, rfl, h, x, rfl, rh.mono g1.tk, fun pt H2 ws g2 ept pw => ?_⟩
    have lw : ws.length = h.parts.length := paired_len pw
    refine ⟨pt, _, rfl, .inr (SqT.of ept), _, _, rfl, rfl, ?_⟩
    have er2 := (g1.trans g2) _ _ er
    refine ⟨_, rfl, .inl ⟨rfl, _, SqL.of (g2 _ _ eg1)⟩, _, rfl, _, rfl, _, rfl, _, rfl, _, rfl, _, rfl, rl, rvs, rfl, SqL.of er2, fun sl hsl => ?_⟩
    have e0 : cutV rvs (some ((nParts (hs.take i) : Nat) : Int)) (some (((nParts (hs.take i) : Nat) : Int) + (ws.length : Int))) = (rvs.drop (nParts (hs.take i))).take h.parts.length := by
      have e1 : (((nParts (hs.take i) : Nat) : Int) + (ws.length : Int)) = ((nParts (hs.take i) + h.parts.length : Nat) : Int) := by rw [lw]; omega
      rw [e1]
      unfold cutV
      rw [HT.sIx_nat, HT.sIx_nat]
      congr 1
      · omega
      · congr 1
        omega
    rw [e0]
    have g3 := same_upd (o := .lst ((rvs.drop (nParts (hs.take i))).take h.parts.length)) hsl
    have gA := g1.trans (g2.trans g3)
    refine ⟨h, x, sl, _, (R.drop (nParts (hs.take i))).take h.parts.length, rfl, rh.mono gA.tk, upd_same, Paired.mapP (paired_cut _ _ pR) (fun _ _ z => z.mono gA.tk), ?_, fun v' H4 g4 r4 => ?_⟩
    · rw [List.length_take, List.length_drop]
      omega
    have eg4 := (g2.trans (g3.trans g4)) _ _ eg1
    have lus : us.length ≤ i := by
      have := paired_len p1
      rw [growL_len, List.length_take] at this
      omega
    refine ⟨gl, us, v', rfl, rfl, eg4, small1000 (by omega), ?_⟩
    have tkz : Tk H4 (upd H4 gl (.lst (us ++ [v']))) := Tk.lst eg4
    refine ⟨_, rfl, us ++ [v'], some x, some (V.int (((nParts (hs.take i) : Nat) : Int) + (ws.length : Int))), ?_, same_set (gA.trans g4) hgl, upd_same, ?_⟩
    · have e1 : (((nParts (hs.take i) : Nat) : Int) + (ws.length : Int)) = ((nParts (hs.take (i + 1)) : Nat) : Int) := by rw [lw, en]; omega
      show [some (V.ref hl), some (V.ref rl), some (V.ref gl), some (V.int (((nParts (hs.take i) : Nat) : Int) + (ws.length : Int))), some x, some (V.int (((nParts (hs.take i) : Nat) : Int) + (ws.length : Int)))] = _
      rw [e1]
    · have e2 : R.take (nParts (hs.take (i + 1))) = R.take (nParts (hs.take i)) ++ (R.drop (nParts (hs.take i))).take h.parts.length := by
        rw [en, List.take_add]
      rw [e2, et, growL_snoc _ (by rw [List.length_take]; have := nParts_take hs i; omega) (by rw [List.length_take, List.length_drop]; omega)]
      exact paired_append (Paired.mapP p1 fun _ _ z => z.mono ((g2.trans (g3.trans g4)).tk.trans tkz)) (.cons (r4.mono tkz) .nil)
  · rintro σ1 H1 ⟨us, s4, s5, rfl, g1, eg1, p1⟩
    rw [lh, List.take_length, ← hRn, List.take_length] at p1
    exact ⟨_, rfl, q gl us H1 g1 hgl eg1 p1⟩
def sp_gtree : Sp := fun vs H Q _ => ∃ (L : Addr) (lvs : List V) (Lr : List (List Tr)) (r : Tr), vs = [.ref L] ∧ H L = some (.lst lvs) ∧ Paired (LevRep H) Lr.reverse lvs ∧ Fit Lr 0 ∧ growAll Lr [] = [r] ∧ (∀ hs ∈ Lr, hs.length ≤ 600) ∧ ∀ v' H', Same H H' → Rep H' r v' → Q v' H'
theorem ok_gtree {k : Nat} {f g1 : Addr} {fd gd1 : FuncData} (F : Fun K "grown_tree" "grown_tree" s_grown_tree f fd) (z_reversed : mg "reversed" = none) (G_grown_level : FnB P w K mg base k "grown_level" g1 gd1 ["heads", "ready"] sp_level) : FnOk P w K mg base CX0 (k + 1) f fd ["levels"] sp_gtree := by
  refine F.ok sc_grown_tree (fun vs H Q E h => ?_) (fun cdv A outer s H vs Q E hr h => ?_)
  · obtain ⟨L, lvs, Lr, r, rfl, _⟩ := h
    rfl
  obtain ⟨L, lvs, Lr, r, rfl, eL, pL, hfit, hgrow, hz, q⟩ := h
  refine ⟨_, (pss_cons (ps_set (i := 1) sc_grown_tree.nd rfl (Or.inl rfl) (pe_lst pa_nil : PE _ _ _))
    (pss_cons (ps_for PassesOwn.never rfl (pi_revL (by rfl) z_reversed (pa_cons (pv 0) pa_nil)) (pg_name (i := 2) sc_grown_tree.nd rfl (Or.inl rfl)) (pss_one (ps_set (i := 1) sc_grown_tree.nd rfl (Or.inl rfl) (pe_call G_grown_level.ok hr (by rfl) G_grown_level.gl G_grown_level.kp G_grown_level.bd .nil pass0 (pa_cons (pv 2) (pa_cons (pv 1) pa_nil))))))
    (pss_one (ps_ret (pe_ix (r := rIxL K) ix_list (pv 1) pe_int (fun _ _ => rfl)))))), ?_⟩
  have ll : lvs.length = Lr.length := by rw [paired_len pL, List.length_reverse]
  refine ⟨(by show 0 ≤ sizeLine; decide), fun rl0 hrl0 => ?_⟩
  have g0 := same_upd (o := .lst []) hrl0
  refine ⟨_, rfl, L, rfl, lvs, SqL.of (g0 _ _ eL), ?_⟩
  refine for_revL (xs := lvs) (fun i σ' H' => ∃ (rl : Addr) (rvs : List V) (R : List Tr) (s2 : Option V), σ' = [some (.ref L), some (.ref rl), s2] ∧ Same H H' ∧ H' rl = some (.lst rvs) ∧ Paired (Rep H') R rvs ∧ Fit (Lr.drop i) R.length ∧ growAll (Lr.drop i) R = [r]) ?_ ?_ ?_ ?_
  · exact ⟨rl0, [], [], none, rfl, g0, upd_same, .nil, hfit, hgrow⟩
  · rintro i σ1 H1 _ ⟨rl, rvs, R, s2, rfl, g1, er, pR, hf, hg⟩
    exact SqL.of (g1 _ _ eL)
  · rintro i x σ1 H1 hi hx ⟨rl, rvs, R, s2, rfl, g1, er, pR, hf, hg⟩
    obtain ⟨hs, ehs, l, us, rfl, el, pl⟩ := paired_rev_get pL hi hx
    have hlt : i < Lr.length := by omega
    have ed : Lr.drop i = hs :: Lr.drop (i + 1) := by
      rw [List.drop_eq_getElem_cons hlt]
      have := (List.getElem?_eq_some_iff.mp ehs).2
      rw [this]
    rw [ed] at hf hg
    obtain ⟨hf1, hf2⟩ := hf
    refine ⟨_, rfl, _, rfl, l, rl, us, rvs, hs, R, rfl, g1 _ _ el, er, Paired.mapP pl (fun _ _ z => z.mono g1.tk), pR, hf1.symm, hz hs (List.mem_of_getElem? ehs), fun l2 us2 H2 g2 _ e2 p2 => ?_⟩
    refine ⟨l2, us2, growL hs R, _, rfl, g1.trans g2, e2, p2, by rw [growL_len]; exact hf2, hg⟩
  · rintro σ1 H1 ⟨rl, rvs, R, s2, rfl, g1, er, pR, hf, hg⟩
    rw [ll, List.drop_length] at hg
    have hg' : R = [r] := hg
    subst hg'
    cases pR with
    | cons r1 pR =>
      cases pR
      exact ⟨_, rfl, rl, _, 0, _, rfl, rfl, SqL.of er, rfl, q _ H1 g1 r1⟩
end
end K05
set_option Elab.async false
set_option linter.all false
set_option maxRecDepth 100000
set_option maxHeartbeats 4000000
namespace L2
open PySem
structure LvP (L : Told) (W : List Str) (B : Nat) (items : List Itm) (i : Nat) (ks : List Str) (hs : List Tr) (ds : List Itm) : Prop where
  hl : hs.length = i
  np : nParts hs = ds.length
  nd : ks.Nodup
  it : ∀ q ∈ ds, Req L q ∧ InK ks q ∧ GdI GW q ∧ ∀ x ∈ q.t.wrds, x ∈ W
  rs : ∀ q ∈ items, InK ks q
  bd : ks.length + tot ds + tot (items.drop i) ≤ B
  tt : tot ds + i = tot (items.take i)
  dn : ∀ R, All2 (Done GW L) ds R → All2 (Done GW L) (items.take i) (growL hs R)
theorem kids_wrds (q : Itm) (m : Str) : ∀ k ∈ kidsI q m, ∀ x ∈ k.t.wrds, x ∈ q.t.wrds := by
  obtain ⟨t, τ, bs, cs⟩ := q
  intro k hk x hx
  cases t with
  | lett n a b => simp [kidsI] at hk; rcases hk with rfl | rfl <;> simp [Tr.wrds, hx]
  | say a => simp [kidsI, Tr.parts] at hk; subst hk; exact hx
  | bin o a b => simp [kidsI, Tr.parts] at hk; rcases hk with rfl | rfl <;> simp [Tr.wrds, hx]
  | ite a b c => simp [kidsI, Tr.parts] at hk; rcases hk with rfl | rfl | rfl <;> simp [Tr.wrds, hx]
  | _ => simp [kidsI, Tr.parts] at hk
theorem kids_told {q : Itm} {m : Str} (h : q.t.kd ≠ .lett) : ∀ k ∈ kidsI q m, k.τ = q.τ := by
  obtain ⟨t, τ, bs, cs⟩ := q
  intro k hk
  cases t with
  | lett n a b => exact absurd rfl h
  | say a => simp [kidsI, Tr.parts] at hk; subst hk; rfl
  | bin o a b => simp [kidsI, Tr.parts] at hk; rcases hk with rfl | rfl <;> rfl
  | ite a b c => simp [kidsI, Tr.parts] at hk; rcases hk with rfl | rfl | rfl <;> rfl
  | _ => simp [kidsI, Tr.parts] at hk
theorem ink_part {ks : List Str} {q : Itm} {m : Str} (h : q.t.kd ≠ .lett) (hk : InK ks q) : ∀ k ∈ kidsI q m, InK ks k := fun k hm =>
  ⟨fun x hx => hk.1 x (kids_wrds q m k hm x hx), fun x y e => hk.2 x y (by rw [← kids_told h k hm]; exact e)⟩
theorem LvP.next {L : Told} {W : List Str} {B : Nat} {items : List Itm} {i : Nat} {ks ks' : List Str} {hs : List Tr} {ds : List Itm} {q : Itm} {m : Str} (h : LvP L W B items i ks hs ds) (hq : items[i]? = some q) (R : Req L q) (G : GdI GW q) (hW : ∀ x ∈ q.t.wrds, x ∈ W) (hm : OkM ks q m)
    (hg : ∀ n a b, q.t = .lett n a b → GW m) (up : ∀ x ∈ ks, x ∈ ks') (nd' : ks'.Nodup) (hlen : ks'.length ≤ ks.length + 1) (hin : ∀ k ∈ kidsI q m, InK ks' k) : LvP L W B items (i + 1) ks' (hs ++ [headI q m]) (ds ++ kidsI q m) := by
  obtain ⟨hi, eq⟩ := List.getElem?_eq_some_iff.mp hq
  have hK := h.rs q (List.mem_of_getElem? hq)
  have ed : items.drop i = q :: items.drop (i + 1) := by rw [List.drop_eq_getElem_cons hi, eq]
  have et := take_next hq
  have kt := kidsI_tot q m
  have np' : nParts (hs ++ [headI q m]) = (ds ++ kidsI q m).length := by rw [nParts_app, nParts_one, List.length_append, h.np, headI_parts]
  refine ⟨by rw [List.length_append, h.hl]; rfl, np', nd', fun k hk => ?_, fun k hk => (h.rs k hk).mono up, ?_, ?_, fun R' hR => ?_⟩
  · rcases List.mem_append.mp hk with hk | hk
    · obtain ⟨a, b, c, d⟩ := h.it k hk
      exact ⟨a, b.mono up, c, d⟩
    · exact ⟨req_kids R hK hm k hk, hin k hk, gdi_kids G hg k hk, fun x hx => hW x (kids_wrds q m k hk x hx)⟩
  · have := h.bd
    rw [ed, tot_cons] at this
    rw [tot_append]
    omega
  · have := h.tt
    rw [et, tot_append, tot_append, tot_cons]
    simp only [tot, List.map_nil, List.sum_nil] at this ⊢
    unfold tot at kt
    omega
  · obtain ⟨R1, rs, rfl, h1, h2⟩ := hR.split
    rw [et, growL_snoc hs (by rw [← h1.length, h.np]) (by rw [← h2.length, headI_parts])]
    exact (h.dn R1 h1).append (.cons (done_step R G hg h2) .nil)
def ItmRep (U : Addr) (H : Hp) (q : Itm) (v : V) : Prop := ∃ a u d kvs, v = .ref a ∧ H a = some (.tup [u, .ref d]) ∧ Rep H q.t u ∧ d ≠ U ∧ H d = some (.dK kvs) ∧ Lv H q.τ kvs ∧ kvs.length + q.t.size ≤ 450
theorem Sx.tk2 {U : Addr} {H H' : Hp} {ks : List (Key × V)} (g : Sx U H H') (hd : H U = some (.dK ks)) : Tk H H' := g.tk fun xs z => by rw [hd] at z; cases z
def LevN (A : Addr) (H : Hp) (hs : List Tr) (v : V) : Prop := ∃ l us, v = .ref l ∧ l ≠ A ∧ H l = some (.lst us) ∧ Paired (Rep H) hs us
theorem LevN.mono {A : Addr} {H H' : Hp} (k : Tk H H') (g : ∀ b us, b ≠ A → H b = some (.lst us) → H' b = some (.lst us)) {hs : List Tr} {v : V} : LevN A H hs v → LevN A H' hs v
  | ⟨l, us, e, n, h, p⟩ => ⟨l, us, e, n, g l us n h, Paired.mapP p fun _ _ z => z.mono k⟩
theorem Sx.own {U : Addr} {H H' : Hp} {o : HO} (g : Sx U H H') : Sx U H (L2.upd H' U o) := fun b u n e => by rw [upd_ne n]; exact g b u n e
theorem Sx.of {U : Addr} {H H' : Hp} (g : Same H H') : Sx U H H' := fun b u _ e => g b u e
structure Kq (U : Addr) (H H' : Hp) : Prop where
  tk : Tk H H'
  dk : ∀ b kvs, b ≠ U → H b = some (.dK kvs) → H' b = some (.dK kvs)
theorem Kq.trans {U : Addr} {H H1 H2 : Hp} (a : Kq U H H1) (b : Kq U H1 H2) : Kq U H H2 := ⟨a.tk.trans b.tk, fun c k n e => b.dk c k n (a.dk c k n e)⟩
theorem Kq.of {U : Addr} {H H' : Hp} (g : Same H H') : Kq U H H' := ⟨g.tk, fun b k _ e => g b _ e⟩
theorem Kq.lst {U p : Addr} {H : Hp} {xs : List V} {o : HO} (h : H p = some (.lst xs)) : Kq U H (L2.upd H p o) := ⟨Tk.lst h, fun b k _ e => by
  rw [upd_ne (fun z => by subst z; rw [h] at e; cases e)]; exact e⟩
theorem Kq.own {U : Addr} {H : Hp} {ks : List (Key × V)} {o : HO} (h : H U = some (.dK ks)) : Kq U H (L2.upd H U o) := ⟨Tk.dk h, fun b k n e => by rw [upd_ne n]; exact e⟩
theorem ItmRep.kq {U : Addr} {H H' : Hp} (g : Kq U H H') {q : Itm} {v : V} : ItmRep U H q v → ItmRep U H' q v
  | ⟨a, u, d, kvs, e, h1, h2, h3, h4, h5, h6⟩ => ⟨a, u, d, kvs, e, g.tk _ _ h1, h2.mono g.tk, h3, g.dk _ _ h3 h4, h5.mono g.tk, h6⟩
theorem kvOf_len (ks : List Str) : (kvOf ks).length = ks.length := List.length_map _
end L2
namespace K05
open PySem PySem.Spec L2 PyProof.Rows
abbrev s_renamed : Stmt := top 22
theorem sc_renamed : FnScope ["tree", "leaves", "used", "levels", "level", "heads", "deeper", "part", "told", "name"] ["tree", "leaves"] (defScope s_renamed) := ⟨rfl, rfl, rfl, by decide +kernel, rfl, by decide +kernel, by decide +kernel⟩
section
variable {P : Program} {w : World} {K : PySem.W.Frag} {mg : Str → Option Value} {base : Heap}
def sp_renamed : Sp := fun vs H Q _ => ∃ (t : Tr) (v : V) (d : Addr) (kvs : List (Key × V)) (τ : Told) (W : List Str), vs = [v, .ref d] ∧ Rep H t v ∧ t.size ≤ 250 ∧ H d = some (.dK kvs) ∧ Lv H τ kvs ∧ kvs.length ≤ 100 ∧ W.length < 64 ∧ (∀ x ∈ t.wrds, x ∈ W) ∧ (∀ p ∈ kvs, ∀ y, AtRep H (.name y) p.2 → y ∈ W) ∧
  t.good GW ∧ (∀ x a, τ x = some a → a.good GW) ∧ ∀ (r : Tr) (v' : V) (H' : Hp), Same H H' → Rep H' r v' → Done GW τ ⟨t, τ, [], []⟩ r → Q v' H'
theorem ok_renamed {k : Nat} {f g1 g2 g3 g4 g5 g6 : Addr} {fd gd1 gd2 gd3 gd4 gd5 gd6 : FuncData} (F : Fun K "renamed" "renamed" s_renamed f fd) (G_words_used : FnB P w K mg base k "words_used" g1 gd1 ["tree", "leaves"] sp_words_used) (G_let_name : FnB P w K mg base k "let_name" g2 gd2 ["let", "leaves", "used"] sp_let_name)
    (G_leaves_within : FnB P w K mg base k "leaves_within" g3 gd3 ["let", "name", "leaves"] sp_within) (G_put_head : FnB P w K mg base k "put_head" g4 gd4 ["part", "leaves"] sp_put_head) (G_parts : FnB P w K mg base k "parts" g5 gd5 ["tree"] sp_parts) (G_grown_tree : FnB P w K mg base k "grown_tree" g6 gd6 ["levels"] sp_gtree) :
    FnOk P w K mg base CX0 (k + 1) f fd ["tree", "leaves"] sp_renamed := by
  refine F.ok sc_renamed (fun vs H Q E h => ?_) (fun cdv A outer s H vs Q E hr h => ?_)
  · obtain ⟨t, v, d, kvs, τ, W, rfl, _⟩ := h
    rfl
  obtain ⟨t, v, d0, kvs0, τ0, W, rfl, hR, hsz, hd0, hv0, hkl, hW, htW, hdW, htG, hτG, q⟩ := h
  have hu := hu_of hr
  refine ⟨_, (pss_cons (ps_set (i := 2) sc_renamed.nd rfl (Or.inl rfl) (pe_call G_words_used.ok hr (by rfl) G_words_used.gl G_words_used.kp G_words_used.bd .nil pass0 (pa_cons (pv 0) (pa_cons (pv 1) pa_nil))))
    (pss_cons (ps_set (i := 3) sc_renamed.nd rfl (Or.inl rfl) (pe_lst pa_nil : PE _ _ _))
    (pss_cons (ps_set (i := 4) sc_renamed.nd rfl (Or.inl rfl) (pe_lst (pa_cons (pe_tup (pa_cons (pv 0) (pa_cons (pv 1) pa_nil)) : PE _ _ _) pa_nil) : PE _ _ _))
    (pss_cons (ps_while PassesOwn.never (pt_truth (pv 4) (fun _ => rfl)) (pss_cons (ps_set (i := 5) sc_renamed.nd rfl (Or.inl rfl) (pe_lst pa_nil : PE _ _ _))
    (pss_cons (ps_set (i := 6) sc_renamed.nd rfl (Or.inl rfl) (pe_lst pa_nil : PE _ _ _))
    (pss_cons (ps_for PassesOwn.never rfl (pi_list (pv 4)) (pg_tup rfl (pgs_cons (pg_name (i := 7) sc_renamed.nd rfl (Or.inl rfl)) (pgs_cons (pg_name (i := 8) sc_renamed.nd rfl (Or.inr rfl)) pgs_nil))) (pss_one (ps_if (pt_cmpR op_eq (pe_ix (r := rIxT K) ix_tup (pv 7) pe_int (fun _ _ => rfl)) pe_str (nomark _)) (pss_cons (ps_set (i := 9) sc_renamed.nd rfl (Or.inl rfl) (pe_call G_let_name.ok hr (by rfl) G_let_name.gl G_let_name.kp G_let_name.bd .nil pass0 (pa_cons (pv 7) (pa_cons (pv 8) (pa_cons (pv 2) pa_nil)))))
    (pss_cons (ps_dput hu (pv 2) (pv 9) pe_bl rfl)
    (pss_cons (ps_expr (pe_bm PySem.F.plainAttrs_list PySem.F.slot_list_append PySem.F.type_list_append mt_append (pv 5) (pa_cons (pe_tup (pa_cons pe_str (pa_cons (pv 9) (pa_cons (pe_ix (r := rIxT K) ix_tup (pv 7) pe_int (fun _ _ => rfl)) (pa_cons (pe_ix (r := rIxT K) ix_tup (pv 7) pe_int (fun _ _ => rfl)) pa_nil)))) : PE _ _ _) pa_nil)))
    (pss_cons (ps_expr (pe_bm PySem.F.plainAttrs_list PySem.F.slot_list_append PySem.F.type_list_append mt_append (pv 6) (pa_cons (pe_tup (pa_cons (pe_ix (r := rIxT K) ix_tup (pv 7) pe_int (fun _ _ => rfl)) (pa_cons (pv 8) pa_nil)) : PE _ _ _) pa_nil)))
    (pss_one (ps_expr (pe_bm PySem.F.plainAttrs_list PySem.F.slot_list_append PySem.F.type_list_append mt_append (pv 6) (pa_cons (pe_tup (pa_cons (pe_ix (r := rIxT K) ix_tup (pv 7) pe_int (fun _ _ => rfl)) (pa_cons (pe_call G_leaves_within.ok hr (by rfl) G_leaves_within.gl G_leaves_within.kp G_leaves_within.bd .nil pass0 (pa_cons (pv 7) (pa_cons (pv 9) (pa_cons (pv 8) pa_nil)))) pa_nil)) : PE _ _ _) pa_nil)))))))) (pss_cons (ps_expr (pe_bm PySem.F.plainAttrs_list PySem.F.slot_list_append PySem.F.type_list_append mt_append (pv 5) (pa_cons (pe_call G_put_head.ok hr (by rfl) G_put_head.gl G_put_head.kp G_put_head.bd .nil pass0 (pa_cons (pv 7) (pa_cons (pv 8) pa_nil))) pa_nil)))
    (pss_one (ps_expr (pe_bm PySem.F.plainAttrs_list PySem.F.slot_list_extend PySem.F.type_list_extend mt_extend (pv 6) (pa_cons (pe_compB ["inner", "told"] [none, some 8] rfl (pi_tup (pe_call G_parts.ok hr (by rfl) G_parts.gl G_parts.kp G_parts.bd .nil pass0 (pa_cons (pv 7) pa_nil))) (fun _ _ _ _ _ => (pg_name (i := 0) (show List.Nodup (["inner", "told"] : List Str) by decide +kernel) rfl (Or.inl rfl))) (fun _ _ _ _ _ => pts_nil) (fun _ _ _ _ _ => (pe_tup (pa_cons (pv 0) (pa_cons (pv 1) pa_nil)) : PE _ _ _)) rfl) pa_nil))))))))
    (pss_cons (ps_expr (pe_bm PySem.F.plainAttrs_list PySem.F.slot_list_append PySem.F.type_list_append mt_append (pv 3) (pa_cons (pv 5) pa_nil)))
    (pss_one (ps_set (i := 4) sc_renamed.nd rfl (Or.inl rfl) (pv 6))))))))
    (pss_one (ps_ret (pe_call G_grown_tree.ok hr (by rfl) G_grown_tree.gl G_grown_tree.kp G_grown_tree.bd .nil pass0 (pa_cons (pv 3) pa_nil)))))))), ?_⟩
  refine ⟨_, rfl, _, rfl, t, v, d0, kvs0, τ0, W, rfl, hR, by omega, hd0, hv0, by omega, htW, hdW, fun U ks0 H1 g1 hU eU nd0 hw0 ht0 hkW => ?_⟩
  refine ⟨(by show 0 ≤ sizeLine; decide), fun lv hlv => ?_⟩
  have g2 := same_upd (o := .lst []) hlv
  refine ⟨_, rfl, _, rfl, (by show 2 ≤ sizeLine; decide), fun tp htp => ⟨(by show 1 ≤ sizeLine; decide), fun le hle => ?_⟩⟩
  have g3 := same_upd (o := .tup [v, .ref d0]) htp
  have g4 := same_upd (o := .lst [.ref tp]) hle
  have gA := g1.trans (g2.trans (g3.trans g4))
  have hlvH : H lv = none := g1.free hlv
  have nUd : d0 ≠ U := ne_of_none hd0 hU
  have nUlv : U ≠ lv := ne_of_none eU hlv
  have l0 : ks0.length ≤ W.length := nodup_len nd0 hkW
  refine ⟨fun m σ' Hw => ∃ (le : Addr) (lev lvs : List V) (items : List Itm) (Lr : List (List Tr)) (ks : List Str) (s5 s6 s7 s8 s9 : Option V), σ' = [some v, some (.ref d0), some (.ref U), some (.ref lv), some (.ref le), s5, s6, s7, s8, s9] ∧ Same H Hw ∧ Hw le = some (.lst lev) ∧ Paired (ItmRep U Hw) items lev ∧
      Hw U = some (.dK (kvOf ks)) ∧ ks.Nodup ∧ Hw lv = some (.lst lvs) ∧ Paired (LevN lv Hw) Lr.reverse lvs ∧ (∀ q ∈ items, Req τ0 q ∧ InK ks q ∧ GdI GW q ∧ ∀ x ∈ q.t.wrds, x ∈ W) ∧ ks.length + tot items ≤ W.length + t.size ∧ m = tot items ∧ Fit Lr items.length ∧ Lr.length + tot items ≤ t.size ∧
      (∀ hs ∈ Lr, hs.length ≤ 600) ∧ ∀ R, All2 (Done GW τ0) items R → ∃ r, growAll Lr R = [r] ∧ Done GW τ0 ⟨t, τ0, [], []⟩ r,
    ⟨t.size, le, _, [], [⟨t, τ0, [], []⟩], [], ks0, none, none, none, none, none, rfl, gA, upd_same, .cons ⟨tp, v, d0, kvs0, rfl, g4 _ _ upd_same, hR.mono gA.tk, nUd, gA _ _ hd0, hv0.mono gA.tk, by show _ + t.size ≤ 450; omega⟩ .nil, (g2.trans (g3.trans g4)) _ _ eU, nd0, (g3.trans g4) _ _ upd_same, .nil, ?_, ?_, ?_, rfl, ?_, by simp, ?_⟩, ?_⟩
  · intro q hq
    have e := List.mem_singleton.mp hq
    subst e
    refine ⟨fun x hx => ?_, ⟨hw0, ht0⟩, ⟨htG, hτG⟩, htW⟩
    show keyA [] (tOf τ0 x) = keyX τ0 [] x
    show _ = Sum.inr (tOf τ0 x)
    cases tOf τ0 x <;> rfl
  · simp only [tot, List.map_cons, List.map_nil, List.sum_cons, List.sum_nil]
    omega
  · simp [tot]
  · simp [tot]
  · intro R hR'
    cases hR' with
    | cons h1 h2 => cases h2; exact ⟨_, rfl, h1⟩
  rintro m σ' Hw ⟨le, lev, lvs, items, Lr, ks, s5, s6, s7, s8, s9, rfl, gw, ele, pI, eUw, ndk, elv, pL, hall, hbd, rfl, hfit, hcnt, h600, hdn⟩
  have lI : lev.length = items.length := paired_len pI
  have lT := len_tot items
  refine ⟨_, rfl, _, .inl ⟨lev, SqL.of ele, rfl⟩, ?_⟩
  refine ite2 (fun c => ?_) (fun c => ?_)
  · refine ⟨_, fun _ _ h => h, (by show 0 ≤ sizeLine; decide), fun hd hhd => ⟨(by show 0 ≤ sizeLine; decide), fun dp hdp => ?_⟩⟩
    have ga := same_upd (o := .lst []) hhd
    have gb := same_upd (o := .lst []) hdp
    have hdpW : Hw dp = none := ga.free hdp
    have nhd : hd ≠ dp := ne_of_none (upd_same (H := Hw) (a := hd) (o := .lst [])) hdp
    have nUhd : U ≠ hd := ne_of_none eUw hhd
    have nUdp : U ≠ dp := ne_of_none eUw hdpW
    refine ⟨_, rfl, le, rfl, ⟨lev, SqL.of ((ga.trans gb) _ _ ele)⟩, ?_⟩
    refine for_list (xs := lev) (fun i σ' H' => ∃ (ks' : List Str) (hvs dvs : List V) (hs : List Tr) (ds : List Itm) (s7 s8 s9 : Option V), σ' = [some v, some (.ref d0), some (.ref U), some (.ref lv), some (.ref le), some (.ref hd), some (.ref dp), s7, s8, s9] ∧ Sx U Hw H' ∧ H' U = some (.dK (kvOf ks')) ∧
      H' hd = some (.lst hvs) ∧ H' dp = some (.lst dvs) ∧ Paired (Rep H') hs hvs ∧ Paired (ItmRep U H') ds dvs ∧ LvP τ0 W (W.length + t.size) items i ks' hs ds) ?_ ?_ ?_ ?_
    · exact ⟨ks, [], [], [], [], s7, s8, s9, rfl, .of (ga.trans gb), (ga.trans gb) _ _ eUw, gb _ _ upd_same, upd_same, .nil, .nil, ⟨rfl, rfl, ndk, by simp, fun q hq => (hall q hq).2.1, by simpa [tot] using hbd, by simp [tot], fun R hR' => by cases hR'; exact .nil⟩⟩
    · rintro i σ1 H1 _ ⟨ks1, hvs, dvs, hs, ds, s7, s8, s9, rfl, g1, eU1, eh1, ed1, pH1, pD1, B1⟩
      exact SqL.of (g1 _ _ (fun z => by rw [z, eUw] at ele; cases ele) ele)
    · rintro i x σ1 H1 hx ⟨ks1, hvs, dvs, hs, ds, s7, s8, s9, rfl, g1, eU1, eh1, ed1, pH1, pD1, B1⟩
      obtain ⟨qi, eqi, rqi⟩ := paired_get pI hx
      have hmem := List.mem_of_getElem? eqi
      obtain ⟨hReq, _, hGd, hqW⟩ := hall qi hmem
      have hInK := B1.rs qi hmem
      obtain ⟨qt, qτ, qbs, qcs⟩ := qi
      obtain ⟨a, u, d, kvs, rfl, haw, ruw, ndU, edw, hvw, hkq⟩ := rqi
      dsimp only at hqW ruw hvw hkq
      have tkw : ∀ {H' : Hp}, Sx U Hw H' → Tk Hw H' := fun g => g.tk2 eUw
      have ha := tkw g1 _ _ haw
      have ru := ruw.mono (tkw g1)
      have ed := g1 _ _ ndU edw
      have hv := hvw.mono (tkw g1)
      have hi : i < items.length := (List.getElem?_eq_some_iff.mp eqi).1
      have bb := B1.bd
      have bt := B1.tt
      have lh : hvs.length = i := by rw [paired_len pH1, B1.hl]
      have ld : dvs.length = ds.length := paired_len pD1
      have lds := len_tot ds
      have lks : ks1.length ≤ 400 := by omega
      have qpos := size_pos qt
      refine ⟨a, _, rfl, SqT.of ha, rfl, _, _, rfl, _, _, rfl, rfl, ?_⟩
      obtain ⟨ap, phs, pws, rfl, hap, phl, php⟩ := id ru.all
      have h0 : atI (V.str qt.kd.s :: phs ++ pws) 0 = some (.str qt.kd.s) := atI_nat (j := 0) rfl
      refine ⟨_, rfl, ap, _, 0, _, rfl, rfl, SqT.of hap, h0, rfl, _, rfl, ?_⟩
      refine ite2 (fun c => ?_) (fun c => ?_)
      · have z : qt.kd = .lett := Kd.eq_iff.mp (of_decide_eq_true c)
        cases qt with
        | lett n ta tb =>
          obtain ⟨ap', u2, u3, eap, hapw, r2w, r3w⟩ := ruw
          cases eap
          have hap1 := tkw g1 _ _ hapw
          have szl : (Tr.lett n ta tb).size = ta.size + tb.size + 1 := rfl
          have fvW : ∀ x ∈ tb.fv [], x ∈ W := fun x hx => hqW x (by simp only [Tr.wrds, List.mem_cons, List.mem_append]; exact .inr (.inr (fv_wrds tb x hx)))
          refine ⟨_, rfl, _, rfl, _, rfl, n, ta, tb, _, d, U, kvs, qτ, W, ks1, rfl, ru, by omega, ed, hv, by omega, hW, fvW, eU1, by omega, fun mw H2 g2 hmw hgw => ?_⟩
          have hGm : GW mw := hgw.elim (fun e => e ▸ hGd.tr.1) id
          have hOk : OkM ks1 ⟨.lett n ta tb, qτ, qbs, qcs⟩ mw := fun n' a' b' e => by cases e; exact hmw
          have eU2 := g2 _ _ eU1
          refine ⟨_, rfl, _, rfl, U, _, rfl, DPut.k (k := Sum.inr mw) eU2 (small1000 (by rw [kvOf_len]; omega)), ?_⟩
          have s3 : Sx U Hw (upd H2 U (.dK (putK (kvOf ks1) (Sum.inr mw : Key) (.bl true)))) := (g1.same g2).own
          have q3 : Kq U H1 (upd H2 U (.dK (putK (kvOf ks1) (Sum.inr mw : Key) (.bl true)))) := (Kq.of g2).trans (.own eU2)
          have eU3 : (upd H2 U (.dK (putK (kvOf ks1) (Sum.inr mw : Key) (.bl true)))) U = some (.dK (kvOf (addK ks1 mw))) := by rw [upd_same, put_kvOf]
          have eh3 : (upd H2 U (.dK (putK (kvOf ks1) (Sum.inr mw : Key) (.bl true)))) hd = some (.lst hvs) := by rw [upd_ne (Ne.symm nUhd)]; exact g2 _ _ eh1
          have ed3 : (upd H2 U (.dK (putK (kvOf ks1) (Sum.inr mw : Key) (.bl true)))) dp = some (.lst dvs) := by rw [upd_ne (Ne.symm nUdp)]; exact g2 _ _ ed1
          show tSeq _ _ _ _ (upd H2 U (.dK (putK (kvOf ks1) (Sum.inr mw : Key) (.bl true))))
          generalize upd H2 U (.dK (putK (kvOf ks1) (Sum.inr mw : Key) (.bl true))) = H3 at s3 q3 eU3 eh3 ed3 ⊢
          have hap3 := tkw s3 _ _ hapw
          refine ⟨_, rfl, .inl ⟨rfl, _, SqL.of eh3⟩, _, rfl, _, rfl, ap, _, 2, _, rfl, rfl, SqT.of hap3, rfl, _, rfl, ap, _, 3, _, rfl, rfl, SqT.of hap3, rfl, (by show 4 ≤ sizeLine; decide), fun tl htl => ?_⟩
          have g4 := same_upd (o := .tup [.str "let", .str mw, u2, u3]) htl
          refine ⟨hd, hvs, _, rfl, rfl, g4 _ _ eh3, small1000 (by omega), ?_⟩
          have s5 : Sx U Hw (upd (upd H3 tl (.tup [.str "let", .str mw, u2, u3])) hd (.lst (hvs ++ [.ref tl]))) := (s3.same g4).set hhd
          have q5 : Kq U H1 (upd (upd H3 tl (.tup [.str "let", .str mw, u2, u3])) hd (.lst (hvs ++ [.ref tl]))) := q3.trans ((Kq.of g4).trans (.lst (g4 _ _ eh3)))
          have eU5 : (upd (upd H3 tl (.tup [.str "let", .str mw, u2, u3])) hd (.lst (hvs ++ [.ref tl]))) U = some (.dK (kvOf (addK ks1 mw))) := by rw [upd_ne nUhd]; exact g4 _ _ eU3
          have eh5 : (upd (upd H3 tl (.tup [.str "let", .str mw, u2, u3])) hd (.lst (hvs ++ [.ref tl]))) hd = some (.lst (hvs ++ [.ref tl])) := upd_same
          have ed5 : (upd (upd H3 tl (.tup [.str "let", .str mw, u2, u3])) hd (.lst (hvs ++ [.ref tl]))) dp = some (.lst dvs) := by rw [upd_ne (Ne.symm nhd)]; exact g4 _ _ ed3
          have et5 : (upd (upd H3 tl (.tup [.str "let", .str mw, u2, u3])) hd (.lst (hvs ++ [.ref tl]))) tl = some (.tup [.str "let", .str mw, u2, u3]) := Tk.lst (g4 _ _ eh3) _ _ upd_same
          show tSeq _ _ _ _ (upd (upd H3 tl (.tup [.str "let", .str mw, u2, u3])) hd (.lst (hvs ++ [.ref tl])))
          generalize upd (upd H3 tl (.tup [.str "let", .str mw, u2, u3])) hd (.lst (hvs ++ [.ref tl])) = H5 at s5 q5 eU5 eh5 ed5 et5 ⊢
          have hap5 := tkw s5 _ _ hapw
          refine ⟨_, rfl, .inl ⟨rfl, _, SqL.of ed5⟩, _, rfl, ap, _, 2, _, rfl, rfl, SqT.of hap5, rfl, _, rfl, (by show 2 ≤ sizeLine; decide), fun t6 ht6 => ?_⟩
          have g6 := same_upd (o := .tup [u2, .ref d]) ht6
          refine ⟨dp, dvs, _, rfl, rfl, g6 _ _ ed5, small1000 (by omega), ?_⟩
          have s7 : Sx U Hw (upd (upd H5 t6 (.tup [u2, .ref d])) dp (.lst (dvs ++ [.ref t6]))) := (s5.same g6).set hdpW
          have q57 : Kq U H5 (upd (upd H5 t6 (.tup [u2, .ref d])) dp (.lst (dvs ++ [.ref t6]))) := (Kq.of g6).trans (.lst (g6 _ _ ed5))
          have eU7 : (upd (upd H5 t6 (.tup [u2, .ref d])) dp (.lst (dvs ++ [.ref t6]))) U = some (.dK (kvOf (addK ks1 mw))) := by rw [upd_ne nUdp]; exact g6 _ _ eU5
          have eh7 : (upd (upd H5 t6 (.tup [u2, .ref d])) dp (.lst (dvs ++ [.ref t6]))) hd = some (.lst (hvs ++ [.ref tl])) := by rw [upd_ne nhd]; exact g6 _ _ eh5
          have ed7 : (upd (upd H5 t6 (.tup [u2, .ref d])) dp (.lst (dvs ++ [.ref t6]))) dp = some (.lst (dvs ++ [.ref t6])) := upd_same
          have et7 : (upd (upd H5 t6 (.tup [u2, .ref d])) dp (.lst (dvs ++ [.ref t6]))) t6 = some (.tup [u2, .ref d]) := Tk.lst (g6 _ _ ed5) _ _ upd_same
          show tSeq _ _ _ _ (upd (upd H5 t6 (.tup [u2, .ref d])) dp (.lst (dvs ++ [.ref t6])))
          generalize upd (upd H5 t6 (.tup [u2, .ref d])) dp (.lst (dvs ++ [.ref t6])) = H7 at s7 q57 eU7 eh7 ed7 et7 ⊢
          have hap7 := tkw s7 _ _ hapw
          refine ⟨_, rfl, .inl ⟨rfl, _, SqL.of ed7⟩, _, rfl, ap, _, 3, _, rfl, rfl, SqT.of hap7, rfl, _, rfl, _, rfl, _, rfl, n, mw, ta, tb, _, d, kvs, qτ, rfl, ⟨ap, u2, u3, rfl, hap7, r2w.mono (tkw s7), r3w.mono (tkw s7)⟩, s7 _ _ ndU edw, hvw.mono (tkw s7), by omega, fun d' kvs' H8 g8 hd' ed' hv' hkl' => ⟨(by show 2 ≤ sizeLine; decide), fun t9 ht9 => ?_⟩⟩
          have g9 := same_upd (o := .tup [u3, .ref d']) ht9
          have g79 := g8.trans g9
          refine ⟨dp, _, _, rfl, rfl, g79 _ _ ed7, small1000 (by rw [List.length_append]; simp; omega), ?_⟩
          have sE : Sx U Hw (upd (upd H8 t9 (.tup [u3, .ref d'])) dp (.lst (dvs ++ [.ref t6] ++ [.ref t9]))) := (s7.same g79).set hdpW
          have qE : Kq U H7 (upd (upd H8 t9 (.tup [u3, .ref d'])) dp (.lst (dvs ++ [.ref t6] ++ [.ref t9]))) := (Kq.of g79).trans (.lst (g79 _ _ ed7))
          have ndU' : d' ≠ U := fun z => by rw [z, eU7] at hd'; cases hd'
          have edE : (upd (upd H8 t9 (.tup [u3, .ref d'])) dp (.lst (dvs ++ [.ref t6] ++ [.ref t9]))) d' = some (.dK kvs') := by
            have e1 := g9 _ _ ed'
            rw [upd_ne (fun z => by
              subst z
              have := g8 _ _ ed7
              rw [ed'] at this
              cases this)]
            exact e1
          have etE : (upd (upd H8 t9 (.tup [u3, .ref d'])) dp (.lst (dvs ++ [.ref t6] ++ [.ref t9]))) t9 = some (.tup [u3, .ref d']) := Tk.lst (g79 _ _ ed7) _ _ upd_same
          have tkE8 : Tk H8 (upd (upd H8 t9 (.tup [u3, .ref d'])) dp (.lst (dvs ++ [.ref t6] ++ [.ref t9]))) := g9.tk.trans (Tk.lst (g79 _ _ ed7))
          have nx := B1.next eqi hReq hGd hqW hOk (fun _ _ _ _ => hGm) (fun x hx => mem_addK.mpr (.inl hx)) (addK_nodup B1.nd) (len_addK ks1 mw) (ink_kids hInK)
          have q1E := q5.trans (q57.trans qE)
          refine ⟨addK ks1 mw, hvs ++ [.ref tl], dvs ++ [.ref t6] ++ [.ref t9], hs ++ [.lett mw ta tb], _, _, _, _, rfl, sE, by rw [upd_ne nUdp]; exact g79 _ _ eU7, by rw [upd_ne nhd]; exact g79 _ _ eh7, upd_same, ?_, ?_, nx⟩
          · refine paired_append (Paired.mapP pH1 fun _ _ z => z.mono q1E.tk) (.cons ?_ .nil)
            exact ⟨tl, u2, u3, rfl, (q57.trans qE).tk _ _ et5, r2w.mono (tkw sE), r3w.mono (tkw sE)⟩
          · have e2 : ds ++ kidsI ⟨.lett n ta tb, qτ, qbs, qcs⟩ mw = ds ++ [⟨ta, qτ, qbs, qcs⟩] ++ [⟨tb, setT qτ n (.name mw), qbs ++ [n], qcs ++ [mw]⟩] := by simp [kidsI]
            rw [e2]
            refine paired_append (paired_append (Paired.mapP pD1 fun _ _ z => z.kq q1E) (.cons ?_ .nil)) (.cons ?_ .nil)
            · exact ⟨t6, u2, d, kvs, rfl, qE.tk _ _ et7, r2w.mono (tkw sE), ndU, sE _ _ ndU edw, hvw.mono (tkw sE), by show _ + ta.size ≤ 450; omega⟩
            · exact ⟨t9, u3, d', kvs', rfl, etE, r3w.mono (tkw sE), ndU', edE, hv'.mono tkE8, by show _ + tb.size ≤ 450; omega⟩
        | bin o a b => cases o <;> cases z
        | _ => cases z
      · have nz : qt.kd ≠ .lett := fun z => c (decide_eq_true (Kd.eq_iff.mpr z))
        have ehd : headI ⟨qt, qτ, qbs, qcs⟩ "a" = headT qτ qt := by
          cases qt with
          | lett _ _ _ => exact absurd rfl nz
          | _ => rfl
        have ekd : kidsI ⟨qt, qτ, qbs, qcs⟩ "a" = qt.parts.map fun p => (⟨p, qτ, qbs, qcs⟩ : Itm) := by
          cases qt with
          | lett _ _ _ => exact absurd rfl nz
          | _ => rfl
        have nolet : ∀ n a b, qt ≠ .lett n a b := fun n a b e => nz (by rw [e]; rfl)
        have nx := B1.next (m := "a") eqi hReq hGd hqW (fun n a b e => absurd e (nolet n a b)) (fun n a b e => absurd e (nolet n a b)) (fun x hx => hx) B1.nd (Nat.le_succ _) (ink_part nz hInK)
        rw [ehd, ekd] at nx
        refine ⟨_, rfl, .inl ⟨rfl, _, SqL.of eh1⟩, _, rfl, _, rfl, qt, _, d, kvs, qτ, rfl, ru, ed, hv, fun v' H2 g2 r2 => ⟨hd, hvs, v', rfl, rfl, g2 _ _ eh1, small1000 (by omega), ?_⟩⟩
        have s3 : Sx U Hw (upd H2 hd (.lst (hvs ++ [v']))) := (g1.same g2).set hhd
        have q23 : Kq U H2 (upd H2 hd (.lst (hvs ++ [v']))) := .lst (g2 _ _ eh1)
        have eU3 : (upd H2 hd (.lst (hvs ++ [v']))) U = some (.dK (kvOf ks1)) := by rw [upd_ne nUhd]; exact g2 _ _ eU1
        have eh3 : (upd H2 hd (.lst (hvs ++ [v']))) hd = some (.lst (hvs ++ [v'])) := upd_same
        have ed3 : (upd H2 hd (.lst (hvs ++ [v']))) dp = some (.lst dvs) := by rw [upd_ne (Ne.symm nhd)]; exact g2 _ _ ed1
        refine ⟨_, rfl, .inl ⟨rfl, _, SqL.of ed3⟩, _, rfl, qt, _, rfl, ruw.mono (tkw s3), fun pt H4 us g4 ept pus => ⟨pt, rfl, ⟨us, SqT.of ept⟩, fun acc hacc => ?_⟩⟩
        have lus : us.length = qt.parts.length := paired_len pus
        have p3 := parts_le3 qt
        have ed4 := (s3.same g4) _ _ ndU edw
        have hv4 := hvw.mono (tkw (s3.same g4))
        have eU4 := g4 _ _ eU3
        refine comp_tupR (xs := us) (fun j H' => Same H4 H' ∧ ∃ zs, H' acc = some (.lst zs) ∧ Paired (ItmRep U H') ((qt.parts.take j).map fun p => (⟨p, qτ, qbs, qcs⟩ : Itm)) zs) ⟨same_upd hacc, [], upd_same, by rw [List.take_zero]; exact .nil⟩ (fun j H' _ h => SqT.of (h.1 _ _ ept)) ?_ ?_
        · rintro j x Hx hx ⟨gx, zs, ezs, hzs⟩
          obtain ⟨p, ep, rp⟩ := paired_get pus hx
          have hj : j < us.length := (List.getElem?_eq_some_iff.mp hx).1
          have lz := paired_len hzs
          rw [List.length_map, List.length_take] at lz
          have psz := part_size (List.mem_of_getElem? ep)
          refine ⟨.skip (.keep .nil), ?_⟩
          refine ⟨_, rfl, _, rfl, (by show 2 ≤ sizeLine; decide), fun t5 ht5 => ?_⟩
          have g5 := same_upd (o := .tup [x, .ref d]) ht5
          have q5 : Kq U Hx (upd (upd Hx t5 (.tup [x, .ref d])) acc (.lst (zs ++ [.ref t5]))) := (Kq.of g5).trans (.lst (g5 _ _ ezs))
          refine ⟨zs, g5 _ _ ezs, small1000 (by omega), same_set (gx.trans g5) hacc, _, upd_same, ?_⟩
          rw [take_next ep, List.map_append]
          refine paired_append (Paired.mapP hzs fun _ _ z => z.kq q5) (.cons ?_ .nil)
          refine ⟨t5, x, d, kvs, rfl, Tk.lst (g5 _ _ ezs) _ _ upd_same, rp.mono (gx.tk.trans q5.tk), ndU, q5.dk _ _ ndU (gx _ _ ed4), hv4.mono (gx.tk.trans q5.tk), ?_⟩
          show _ + p.size ≤ 450
          omega
        · rintro Hx ⟨gx, zs, ezs, hzs⟩
          rw [lus, List.take_length] at hzs
          have lz := paired_len hzs
          rw [List.length_map] at lz
          have edx := (g4.trans gx) _ _ ed3
          refine ⟨dp, acc, dvs, zs, rfl, rfl, edx, ezs, line1000 (by omega), ?_⟩
          have sE : Sx U Hw (upd Hx dp (.lst (dvs ++ zs))) := (s3.same (g4.trans gx)).set hdpW
          have qE : Kq U Hx (upd Hx dp (.lst (dvs ++ zs))) := .lst edx
          have q1E : Kq U H1 (upd Hx dp (.lst (dvs ++ zs))) := (Kq.of g2).trans (q23.trans ((Kq.of (g4.trans gx)).trans qE))
          refine ⟨ks1, hvs ++ [v'], dvs ++ zs, hs ++ [headT qτ qt], _, _, _, _, rfl, sE, by rw [upd_ne nUdp]; exact (g4.trans gx) _ _ eU3, by rw [upd_ne nhd]; exact (g4.trans gx) _ _ eh3, upd_same, ?_, ?_, nx⟩
          · exact paired_append (Paired.mapP pH1 fun _ _ z => z.mono q1E.tk) (.cons (r2.mono (q23.trans ((Kq.of (g4.trans gx)).trans qE)).tk) .nil)
          · exact paired_append (Paired.mapP pD1 fun _ _ z => z.kq q1E) (Paired.mapP hzs fun _ _ z => z.kq qE)
    · rintro σ1 H1 ⟨ks1, hvs, dvs, hs, ds, s7', s8', s9', rfl, g1, eU1, eh1, ed1, pH1, pD1, B1⟩
      rw [lI] at B1
      have nlU : lv ≠ U := Ne.symm nUlv
      have elv1 := g1 _ _ nlU elv
      have llv : lvs.length = Lr.length := by rw [paired_len pL, List.length_reverse]
      have nhl : hd ≠ lv := Ne.symm (ne_of_none elv hhd)
      have bb := B1.bd
      have bt := B1.tt
      rw [List.drop_length] at bb
      rw [List.take_length] at bt
      have pos : 0 < items.length := by
        rw [← lI]
        cases lev with
        | nil => simp at c
        | cons _ _ => simp
      refine ⟨_, rfl, .inl ⟨rfl, _, SqL.of elv1⟩, _, rfl, lv, lvs, _, rfl, rfl, elv1, small1000 (by omega), ?_⟩
      have gS : Same H H1 := fun b u e => g1 b u (ne_of_none e hU) (gw b u e)
      have kL : Kq U H1 (upd H1 lv (.lst (lvs ++ [.ref hd]))) := .lst elv1
      have tkL : Tk Hw (upd H1 lv (.lst (lvs ++ [.ref hd]))) := (g1.tk2 eUw).trans kL.tk
      refine ⟨_, rfl, tot ds, by omega, dp, dvs, lvs ++ [.ref hd], ds, hs :: Lr, ks1, _, _, _, _, _, rfl, same_set gS hlvH, ?_, Paired.mapP pD1 (fun _ _ z => z.kq kL), by rw [upd_ne nUlv]; exact eU1, B1.nd, upd_same, ?_, B1.it, ?_, rfl, ⟨B1.np, by rw [B1.hl]; exact hfit⟩, ?_, ?_, fun R hR' => hdn (growL hs R) ?_⟩
      · rw [upd_ne (fun z => by
          have : hd ≠ dp := nhd
          rw [z] at ed1 hdpW
          rw [elv] at hdpW
          cases hdpW)]
        exact ed1
      · rw [List.reverse_cons]
        refine paired_append (Paired.mapP pL fun _ _ z => z.mono tkL fun b us n e => ?_) (.cons ⟨hd, hvs, rfl, nhl, by rw [upd_ne nhl]; exact eh1, Paired.mapP pH1 fun _ _ z => z.mono kL.tk⟩ .nil)
        rw [upd_ne n]
        exact g1 _ _ (fun z => by rw [z, eUw] at e; cases e) e
      · have e0 : tot [] = 0 := rfl
        rw [e0] at bb
        omega
      · rw [List.length_cons]
        omega
      · intro hs' hh
        rcases List.mem_cons.mp hh with e | e
        · rw [e, B1.hl]
          omega
        · exact h600 hs' e
      · have := B1.dn R hR'
        rw [List.take_length] at this
        exact this
  · have e0 : lev = [] := by
      cases lev with
      | nil => rfl
      | cons _ _ => simp at c
    have eI : items = [] := by
      subst e0
      cases items with
      | nil => rfl
      | cons _ _ => simp at lI
    subst eI
    obtain ⟨r, hg, hD⟩ := hdn [] .nil
    refine ⟨_, rfl, lv, lvs, Lr, r, rfl, elv, Paired.mapP pL (fun _ _ ⟨l, us, e, _, h, p⟩ => ⟨l, us, e, h, p⟩), hfit, hg, h600, fun v' H' g rv => q r v' H' (gw.trans g) rv hD⟩
end
end K05
set_option Elab.async false
set_option linter.all false
set_option maxRecDepth 100000
set_option maxHeartbeats 4000000
namespace L2
open PySem
theorem atI_in {α : Type} {xs : List α} {i : Int} (h0 : 0 ≤ i) (h1 : i < xs.length) : ∃ v, v ∈ xs ∧ atI xs i = some v := by
  have hl : i.toNat < xs.length := by omega
  have e : ((i.toNat : Nat) : Int) = i := by omega
  refine ⟨xs[i.toNat], List.getElem_mem hl, ?_⟩
  have := atI_nat (xs := xs) (j := i.toNat) (v := xs[i.toNat]) (List.getElem?_eq_getElem hl)
  rwa [e] at this
theorem kept_in {x : Str} (h : inV (.str x) [.str "let", .str "in", .str "if", .str "then", .str "else", .str "say", .str "ask", .str "stop", .str "where", .str "quiet", .str "number"] = true) : x ∈ keptS := by
  have : inV (.str x) (keptS.map V.str) = true := h
  rw [inV_strs] at this
  exact of_decide_eq_true this
instance : DecidablePred GW := fun x => decidable_of_iff (1 ≤ x.length ∧ x.length ≤ 8 ∧ x ∉ keptS ∧ ∀ c ∈ x.cps.toList, 97 ≤ c ∧ c ≤ 122) ⟨fun h => ⟨h.1, h.2.1, h.2.2.1, h.2.2.2⟩, fun h => ⟨h.lo, h.hi, h.kp, h.ab⟩⟩
def GT (ws : List Str) (t : Tr) : Prop := t.good GW ∧ ∀ x ∈ t.wrds, x ∈ ws
theorem GT.bin {ws : List Str} {o : Bin} {a b : Tr} (h : GT ws a) (h' : GT ws b) : GT ws (.bin o a b) := ⟨⟨h.1, h'.1⟩, fun x hx => (List.mem_append.mp hx).elim (h.2 x) (h'.2 x)⟩
theorem GT.ite {ws : List Str} {a b c : Tr} (h : GT ws a) (h' : GT ws b) (h'' : GT ws c) : GT ws (.ite a b c) := ⟨⟨h.1, h'.1, h''.1⟩, fun x hx => (List.mem_append.mp hx).elim (h.2 x) fun hx => (List.mem_append.mp hx).elim (h'.2 x) (h''.2 x)⟩
theorem GT.lett {ws : List Str} {n : Str} {a b : Tr} (hn : n ∈ ws) (hg : GW n) (h : GT ws a) (h' : GT ws b) : GT ws (.lett n a b) := ⟨⟨hg, h.1, h'.1⟩, fun x hx => (List.mem_cons.mp hx).elim (fun e => e ▸ hn) fun hx => (List.mem_append.mp hx).elim (h.2 x) (h'.2 x)⟩
theorem GT.name {ws : List Str} {x : Str} (hx : x ∈ ws) (hg : GW x) : GT ws (.name x) := ⟨hg, fun y hy => by rw [List.mem_singleton.mp (show y ∈ [x] from hy)]; exact hx⟩
theorem dp_leaf {t : Tr} (h : t.size = 1) : t.dp ≤ 2 := by
  have p := size_pos
  cases t with
  | say a => have := p a; simp [Tr.size] at h; omega
  | bin o a b => have := p a; simp [Tr.size] at h; omega
  | ite a b c => have := p a; simp [Tr.size] at h; omega
  | lett x a b => have := p a; simp [Tr.size] at h; omega
  | _ => simp [Tr.dp]
theorem sIx_int {n d : Nat} {v : Int} (h0 : 0 ≤ v) (h1 : v ≤ n) : HT.sIx n d (some v) = v.toNat := by
  have e : ((v.toNat : Nat) : Int) = v := by omega
  rw [← e, HT.sIx_nat, Int.toNat_natCast]
  omega
theorem cutInts {ns : List Int} {lo hi : Option Int} {i j : Nat} (h1 : HT.sIx ns.length 0 lo = i) (h2 : HT.sIx ns.length ns.length hi = j) (h : j ≤ ns.length) : ∃ ms : List Int, cutV (ns.map V.int) lo hi = ms.map V.int ∧ ms.length = j - i := by
  refine ⟨(ns.drop i).take (j - i), ?_, ?_⟩
  · unfold cutV
    rw [List.length_map, h1, h2, ← List.map_drop, ← List.map_take]
  · rw [List.length_take, List.length_drop]
    omega
end L2
namespace K05
open PySem PySem.Spec L2 PyProof.Rows
abbrev s_law_cell_at : Stmt := top 24
theorem sc_law_cell_at : FnScope ["_law_script", "_law_k"] ["_law_script", "_law_k"] (defScope s_law_cell_at) := ⟨rfl, rfl, rfl, by decide +kernel, rfl, by decide +kernel, by decide +kernel⟩
abbrev s_law_word : Stmt := top 25
theorem sc_law_word : FnScope ["_law_cell", "_law_long", "_law_at", "_law_turn", "_law_letters", "_law_word_here", "_law_j", "_law_number"] ["_law_cell", "_law_long", "_law_at", "_law_turn"] (defScope s_law_word) := ⟨rfl, rfl, rfl, by decide +kernel, rfl, by decide +kernel, by decide +kernel⟩
abbrev s_law_words : Stmt := top 26
theorem sc_law_words : FnScope ["_law_cell", "_law_long", "_law_at"] ["_law_cell"] (defScope s_law_words) := ⟨rfl, rfl, rfl, by decide +kernel, rfl, by decide +kernel, by decide +kernel⟩
abbrev s_law_leaf : Stmt := top 27
theorem sc_law_leaf : FnScope ["_law_cell", "_law_words_here", "_law_number", "_law_word_here", "_law_some"] ["_law_cell", "_law_words_here"] (defScope s_law_leaf) := ⟨rfl, rfl, rfl, by decide +kernel, rfl, by decide +kernel, by decide +kernel⟩
abbrev s_law_tree : Stmt := top 28
theorem sc_law_tree : FnScope ["_law_cells", "_law_words_here", "_law_deep", "_law_number", "_law_rest", "_law_at", "_law_sign", "_law_one", "_law_far", "_law_two", "_law_other"] ["_law_cells", "_law_words_here", "_law_deep"] (defScope s_law_tree) := ⟨rfl, rfl, rfl, by decide +kernel, rfl, by decide +kernel, by decide +kernel⟩
section
variable {P : Program} {w : World} {K : PySem.W.Frag} {mg : Str → Option Value} {base : Heap}
def sp_cell_at (K : PySem.W.Frag) : Sp := fun vs H Q _ => ∃ (a : Addr) (ns : List Int) (k : Int), vs = [.ref a, .int k] ∧ SqL K H a (ns.map V.int) ∧ 0 ≤ k ∧ ∀ i : Int, Q (.int i) H
theorem ok_cell_at {k : Nat} {f : Addr} {fd : FuncData} (F : Fun K "_law_cell_at" "_law_cell_at" s_law_cell_at f fd) (z_len : mg "len" = none) : FnOk P w K mg base CX0 (k + 1) f fd ["_law_script", "_law_k"] (sp_cell_at K) := by
  refine F.ok sc_law_cell_at (fun vs H Q E h => ?_) (fun cdv A outer s H vs Q E hr h => ?_)
  · obtain ⟨a, ns, k, rfl, _⟩ := h
    rfl
  obtain ⟨a, ns, k, rfl, hS, h0, q⟩ := h
  refine ⟨_, (pss_cons (ps_if (pt_cmpR op_lt (pv 1) (pe_callB call_len_seq (by rfl) z_len PySem.boot_len (pa_cons (pv 0) pa_nil)) (nomark _)) (pss_one (ps_ret (pe_ix (r := rIxL K) ix_list (pv 0) (pv 1) (fun _ _ => rfl)))) pss_nil)
    (pss_one (ps_ret pe_int))), ?_⟩
  refine ⟨_, rfl, _, rfl, a, _, rfl, .inl hS, _, _, rfl, rfl, _, rfl, ?_⟩
  refine ite2 (fun c => ?_) (fun c => ?_)
  · have c' : k < ((ns.map V.int).length : Int) := of_decide_eq_true c
    obtain ⟨v, hv, e⟩ := atI_in h0 c'
    obtain ⟨i, _, rfl⟩ := List.mem_map.mp hv
    exact ⟨_, rfl, _, rfl, a, _, k, _, rfl, rfl, hS, e, q i⟩
  · exact q 0
def sp_word : Sp := fun vs H Q _ => ∃ (c n at_ tn : Int), vs = [.int c, .int n, .int at_, .int tn] ∧ 1 ≤ n ∧ n ≤ 8 ∧ ∀ (x : Str) (H' : Hp), Same H H' → GW x → Q (.str x) H'
theorem ok_word {k : Nat} {f : Addr} {fd : FuncData} (F : Fun K "_law_word" "_law_word" s_law_word f fd) (z_range : mg "range" = none) : FnOk P w K mg base CX0 (k + 1) f fd ["_law_cell", "_law_long", "_law_at", "_law_turn"] sp_word := by
  refine F.ok sc_law_word (fun vs H Q E h => ?_) (fun cdv A outer s H vs Q E hr h => ?_)
  · obtain ⟨c, n, a, tn, rfl, _⟩ := h
    rfl
  obtain ⟨c, n, at_, tn, rfl, hn0, hn8, q⟩ := h
  refine ⟨_, (pss_cons (ps_set (i := 4) sc_law_word.nd rfl (Or.inl rfl) pe_str)
    (pss_cons (ps_set (i := 5) sc_law_word.nd rfl (Or.inl rfl) pe_str)
    (pss_cons (ps_for PassesOwn.never rfl (pi_range1 (by rfl) z_range (pa_cons (pv 1) pa_nil)) (pg_name (i := 6) sc_law_word.nd rfl (Or.inl rfl)) (pss_cons (ps_set (i := 7) sc_law_word.nd rfl (Or.inl rfl) (pe_op op_fdiv (pe_op op_mod (pe_op op_mul (pe_op op_mod (pv 0) pe_int) (pe_op op_add pe_int (pe_op op_mul (pe_op op_mul pe_int (pv 6)) (pv 6)))) pe_int) pe_int))
    (pss_cons (ps_if (pt_cmpR op_eq (pv 6) (pv 2) (nomark _)) (pss_one (ps_set (i := 7) sc_law_word.nd rfl (Or.inl rfl) (pe_op op_add (pv 7) (pv 3)))) pss_nil)
    (pss_one (ps_set (i := 5) sc_law_word.nd rfl (Or.inl rfl) (pe_op op_add_str (pv 5) (pe_ix ix_str (pv 4) (pe_op op_mod (pv 7) pe_int) (fun _ _ => rfl))))))))
    (pss_cons (ps_if (pt_cmpR (r := rIn K false) op_in_seq (pv 5) (pe_tupR [.str "let", .str "in", .str "if", .str "then", .str "else", .str "say", .str "ask", .str "stop", .str "where", .str "quiet", .str "number"] (by rfl) : PE _ _ _) rfl) (pss_one (ps_ret (pe_op op_add_str pe_str (pe_slice sl_str (pv 5) (po_some pe_int) po_none)))) pss_nil)
    (pss_one (ps_ret (pv 5))))))), ?_⟩
  generalize hL : Str.ofString "zyxwvutsrqponmlkjihgfedcba" = L
  have hLlen : L.length = 26 := by rw [← hL]; decide +kernel
  have hLab : ∀ c ∈ L.cps.toList, 97 ≤ c ∧ c ≤ 122 := by rw [← hL]; decide +kernel
  refine ⟨_, rfl, n, rfl, by omega, by omega, ?_⟩
  refine for_range (n := n.toNat) (fun i σ' H' => ∃ (x : Str) (s6 s7 : Option V), σ' = [some (.int c), some (.int n), some (.int at_), some (.int tn), some (.str L), some (.str x), s6, s7] ∧ H' = H ∧ x.length = i ∧ ∀ c ∈ x.cps.toList, 97 ≤ c ∧ c ≤ 122) ?_ ?_ ?_
  · exact ⟨_, none, none, rfl, rfl, by decide +kernel, by decide +kernel⟩
  · rintro i σ1 H1 hi ⟨x, s6, s7, rfl, rfl, hx, hab⟩
    refine ⟨_, rfl, _, _, rfl, rfl, (show (0 : Int) < 999961 by decide), _, rfl, _, _, rfl, rfl, .inl ⟨(by decide), (by decide)⟩, _, rfl, _, _, rfl, rfl, .inl ⟨(by omega), (by omega)⟩, _, _, rfl, rfl, _, _, rfl, rfl, .inl ⟨(by omega), (by omega)⟩, _, _, rfl, rfl, (show (0 : Int) < 2147483647 by decide), _, _, rfl, rfl, ⟨(show (0 : Int) < 107 by decide), (show (107 : Int) < 1073741824 by decide)⟩, ?_⟩
    refine ⟨_, rfl, _, rfl, rfl, _, rfl, ?_⟩
    have fin : ∀ z : Int, ∃ (ch : Str), ch.length = 1 ∧ atI L.cps.toList (z % 26) = some (ch.cps.getD 0 0) ∧ (97 ≤ ch.cps.getD 0 0 ∧ ch.cps.getD 0 0 ≤ 122) := fun z => by
      have hl : ((L.cps.toList).length : Int) = 26 := by
        rw [Array.length_toList]
        exact_mod_cast hLlen
      obtain ⟨v, hv, e⟩ := atI_in (xs := L.cps.toList) (i := z % 26) (by omega) (by omega)
      exact ⟨⟨#[v]⟩, rfl, e, hLab v hv⟩
    refine ite2 (fun _ => ?_) (fun _ => ?_)
    · refine ⟨_, rfl, _, rfl, _, _, rfl, rfl, ?_⟩
      obtain ⟨ch, l1, e1, e2⟩ := fin _
      refine ⟨_, rfl, _, rfl, _, rfl, _, _, rfl, rfl, (show (0 : Int) < 26 by decide), L, _, _, rfl, rfl, line1000 (by rw [hLlen]; decide), e1, _, _, rfl, rfl, line1000 ?_, ?_⟩
      · show x.length + 1 ≤ 1000
        omega
      · refine ⟨_, _, _, rfl, rfl, ?_, ?_⟩
        · have : (x ++ (⟨#[ch.cps.getD 0 0]⟩ : Str)).length = x.length + 1 := by
            show (x.cps ++ #[ch.cps.getD 0 0]).size = x.cps.size + 1
            simp
          omega
        · intro cc hcc
          have hcc' : cc ∈ (x.cps ++ #[ch.cps.getD 0 0]).toList := hcc
          rw [Array.toList_append] at hcc'
          rcases List.mem_append.mp hcc' with h | h
          · exact hab cc h
          · have : cc = ch.cps.getD 0 0 := by simpa using h
            rw [this]
            exact e2
    · obtain ⟨ch, l1, e1, e2⟩ := fin _
      refine ⟨_, rfl, _, rfl, _, rfl, _, _, rfl, rfl, (show (0 : Int) < 26 by decide), L, _, _, rfl, rfl, line1000 (by rw [hLlen]; decide), e1, _, _, rfl, rfl, line1000 ?_, ?_⟩
      · show x.length + 1 ≤ 1000
        omega
      · refine ⟨_, _, _, rfl, rfl, ?_, ?_⟩
        · have : (x ++ (⟨#[ch.cps.getD 0 0]⟩ : Str)).length = x.length + 1 := by
            show (x.cps ++ #[ch.cps.getD 0 0]).size = x.cps.size + 1
            simp
          omega
        · intro cc hcc
          have hcc' : cc ∈ (x.cps ++ #[ch.cps.getD 0 0]).toList := hcc
          rw [Array.toList_append] at hcc'
          rcases List.mem_append.mp hcc' with h | h
          · exact hab cc h
          · have : cc = ch.cps.getD 0 0 := by simpa using h
            rw [this]
            exact e2
  · rintro σ1 H1 ⟨x, s6, s7, rfl, rfl, hx, hab⟩
    refine ⟨_, rfl, (by show 11 ≤ sizeLine; decide), fun p hp => ⟨p, _, rfl, .inr (SqT.of upd_same), rfl, rfl, _, rfl, ?_⟩⟩
    refine ite2 (fun hin => ?_) (fun hno => ?_)
    · have hkw : GW ("x" ++ Txt.slice x (some 1) none) ∧ ("x" ++ Txt.slice x (some 1) none).length = x.length := by
        have h2 : ∀ y ∈ keptS, GW (("x" : Str) ++ Txt.slice y (some 1) none) ∧ (("x" : Str) ++ Txt.slice y (some 1) none).length = y.length := by decide +kernel
        exact h2 x (kept_in hin)
      refine ⟨_, rfl, _, rfl, x, rfl, line1000 (by omega), fun hle => ⟨_, _, rfl, rfl, line1000 ?_, q _ _ (same_upd hp) hkw.1⟩⟩
      have : (Str.ofString "x").length = 1 := by decide +kernel
      omega
    · refine ⟨_, rfl, q _ _ (same_upd hp) ⟨by omega, by omega, fun z => hno ?_, hab⟩⟩
      show inV (.str x) (keptS.map V.str) = true
      rw [inV_strs]
      exact decide_eq_true z
def sp_words : Sp := fun vs H Q _ => ∃ (c : Int), vs = [.int c] ∧ ∀ (l : Addr) (H' : Hp) (ws : List Str), Same H H' → H l = none → ws.length = 4 → (∀ x ∈ ws, GW x) → H' l = some (.lst (ws.map V.str)) → Q (.ref l) H'
theorem ok_words {k : Nat} {f g : Addr} {fd gd : FuncData} (F : Fun K "_law_words" "_law_words" s_law_words f fd) (z_range : mg "range" = none) (G_law_word : FnB P w K mg base k "_law_word" g gd ["_law_cell", "_law_long", "_law_at", "_law_turn"] sp_word) :
    FnOk P w K mg base CX0 (k + 1) f fd ["_law_cell"] sp_words := by
  refine F.ok sc_law_words (fun vs H Q E h => ?_) (fun cdv A outer s H vs Q E hr h => ?_)
  · obtain ⟨c, rfl, _⟩ := h
    rfl
  obtain ⟨c, rfl, q⟩ := h
  refine ⟨_, (pss_cons (ps_set (i := 1) sc_law_words.nd rfl (Or.inr rfl) (pe_op op_add pe_int (pe_op op_mod (pv 0) pe_int)))
    (pss_cons (ps_set (i := 2) sc_law_words.nd rfl (Or.inr rfl) (pe_op op_mod (pe_op op_fdiv (pv 0) pe_int) (pv 1)))
    (pss_one (ps_ret (pe_compB ["_law_k", "_law_long", "_law_at", "_law_cell"] [none, some 1, some 2, some 0] rfl (pi_range1 (by rfl) z_range (pa_cons pe_int pa_nil)) (fun _ _ _ _ _ => (pg_name (i := 0) (show List.Nodup (["_law_k", "_law_long", "_law_at", "_law_cell"] : List Str) by decide +kernel) rfl (Or.inl rfl))) (fun _ _ _ _ _ => pts_nil) (fun _ _ _ _ _ => (pe_call G_law_word.ok hr (by rfl) G_law_word.gl G_law_word.kp G_law_word.bd .nil pass0 (pa_cons (pe_op op_fdiv (pv 3) pe_int) (pa_cons (pv 1) (pa_cons (pv 2) (pa_cons (pe_op op_mul pe_int (pv 0)) pa_nil)))))) rfl))))), ?_⟩
  refine ⟨_, rfl, _, _, rfl, rfl, (show (0 : Int) < 8 by decide), _, _, rfl, rfl, ?_⟩
  refine ⟨_, rfl, _, _, rfl, rfl, ⟨(show (0 : Int) < 8 by decide), (show (8 : Int) < 1073741824 by decide)⟩, _, rfl, _, _, rfl, rfl, (show (0 : Int) < 1 + c % 8 by omega), ?_⟩
  refine ⟨4, rfl, by decide, by decide, fun acc hacc => ?_⟩
  refine comp_range (n := 4) (fun i H' => Same H H' ∧ ∃ ws : List Str, ws.length = i ∧ (∀ x ∈ ws, GW x) ∧ H' acc = some (.lst (ws.map V.str))) ⟨same_upd hacc, [], rfl, by simp, upd_same⟩ ?_ ?_
  · rintro i H1 hi ⟨g1, ws, hw, hln, e1⟩
    refine ⟨.skip (.keep (.keep (.keep .nil))), ?_⟩
    refine ⟨_, rfl, _, _, rfl, rfl, ⟨(show (0 : Int) < 64 by decide), (show (64 : Int) < 1073741824 by decide)⟩, _, rfl, _, rfl, _, rfl, _, _, rfl, rfl, .inl ⟨by decide, by decide⟩, _, _, _, _, rfl, (by omega), (by omega), fun x H2 g2 hxl => ?_⟩
    refine ⟨_, g2 _ _ e1, small1000 (by rw [List.length_map]; omega), same_set (g1.trans g2) hacc, ws ++ [x], by rw [List.length_append, hw]; rfl, fun y hy => by rcases List.mem_append.mp hy with h | h; exact hln y h; rw [List.mem_singleton.mp h]; exact hxl, ?_⟩
    rw [upd_same, List.map_append]
    rfl
  · rintro H1 ⟨g1, ws, hw, hln, e1⟩
    exact q acc H1 ws g1 hacc hw hln e1
theorem pick {ws : List Str} (h : ws.length = 4) (z : Int) : ∃ x, x ∈ ws ∧ atI (ws.map V.str) (z % 4) = some (.str x) := by
  obtain ⟨v, hv, e⟩ := atI_in (xs := ws.map V.str) (i := z % 4) (by omega) (by rw [List.length_map]; omega)
  obtain ⟨x, hx, rfl⟩ := List.mem_map.mp hv
  exact ⟨x, hx, e⟩
theorem paired_take {α : Type} {F : α → V → Prop} : ∀ {as : List α} {us : List V} (n : Nat), Paired F as us → Paired F (as.take n) (us.take n)
  | _, _, 0, _ => .nil
  | _, _, _ + 1, .nil => .nil
  | _, _, n + 1, .cons r t => .cons r (paired_take n t)
theorem cut_front (xs : List V) (k : Int) (h : 0 ≤ k) : cutV xs none (some k) = xs.take k.toNat := by
  unfold cutV
  have e : ((k.toNat : Nat) : Int) = k := by omega
  rw [HT.sIx_none, ← e, HT.sIx_nat, Int.toNat_natCast]
  simp
def sp_leaf : Sp := fun vs H Q _ => ∃ (c : Int) (l : Addr) (ws : List Str), vs = [.int c, .ref l] ∧ H l = some (.lst (ws.map V.str)) ∧ ws.length = 4 ∧ (∀ x ∈ ws, GW x) ∧ ∀ (t : Tr) (v : V) (H' : Hp), Same H H' → Rep H' t v → t.size = 1 → GT ws t → Q v H'
theorem ok_leaf {k : Nat} {f : Addr} {fd : FuncData} (F : Fun K "_law_leaf" "_law_leaf" s_law_leaf f fd) (z_tuple : mg "tuple" = none) : FnOk P w K mg base CX0 (k + 1) f fd ["_law_cell", "_law_words_here"] sp_leaf := by
  refine F.ok sc_law_leaf (fun vs H Q E h => ?_) (fun cdv A outer s H vs Q E hr h => ?_)
  · obtain ⟨c, l, ws, rfl, _⟩ := h
    rfl
  obtain ⟨c, l, ws, rfl, hl, hw, hgw, q⟩ := h
  refine ⟨_, (Sd.un (pss_consS (ps_setS (i := 2) sc_law_leaf.nd rfl (Or.inl rfl) ⟨pe_op op_mod (pe_op op_mul (pv 0) pe_int) pe_int⟩)
    (pss_consS (ps_setS (i := 3) sc_law_leaf.nd rfl (Or.inl rfl) (pe_ixS (r := rIxL K) ix_list ⟨pv 1⟩ ⟨pe_op op_mod (pe_op op_fdiv (pv 2) pe_int) pe_int⟩ (fun _ _ => rfl)))
    (pss_consS (ps_ifS ⟨pt_cmpR op_eq (pe_op op_mod (pv 2) pe_int) pe_int (nomark _)⟩ (pss_oneS (ps_retS (pe_tupS (pa_consS ⟨pe_str⟩ (pa_consS ⟨pe_op op_mod (pv 0) (pe_op op_pow pe_int pe_int)⟩ ⟨pa_nil⟩))))) ⟨pss_nil⟩)
    (pss_consS (ps_ifS ⟨pt_cmpR op_eq (pe_op op_mod (pv 2) pe_int) pe_int (nomark _)⟩ (pss_oneS (ps_retS (pe_tupS (pa_consS (pe_ixS (r := rIxL K) ix_list (pe_lstS (pa_consS ⟨pe_str⟩ (pa_consS ⟨pe_str⟩ ⟨pa_nil⟩))) ⟨pe_op op_mod (pe_op op_fdiv (pv 2) pe_int) pe_int⟩ (fun _ _ => rfl)) (pa_consS ⟨pv 3⟩ ⟨pa_nil⟩))))) ⟨pss_nil⟩)
    (pss_consS (ps_ifS ⟨pt_cmpR op_eq (pe_op op_mod (pv 2) pe_int) pe_int (nomark _)⟩ (pss_consS (ps_setS (i := 4) sc_law_leaf.nd rfl (Or.inl rfl) (pe_lstS (pa_consS (pe_tupS (pa_consS ⟨pe_str⟩ (pa_consS (pe_ixS (r := rIxL K) ix_list ⟨pv 1⟩ ⟨pe_op op_mod (pe_op op_fdiv (pv 2) pe_int) pe_int⟩ (fun _ _ => rfl)) ⟨pa_nil⟩))) (pa_consS (pe_tupS (pa_consS ⟨pe_str⟩ (pa_consS ⟨pv 3⟩ (pa_consS (pe_tupS ⟨pa_nil⟩) ⟨pa_nil⟩)))) (pa_consS (pe_tupS (pa_consS ⟨pe_str⟩ (pa_consS (pe_ixS (r := rIxL K) ix_list ⟨pv 1⟩ ⟨pe_op op_mod (pe_op op_fdiv (pv 2) pe_int) pe_int⟩ (fun _ _ => rfl)) ⟨pa_nil⟩))) ⟨pa_nil⟩)))))
    (pss_oneS (ps_retS (pe_tupS (pa_consS ⟨pe_str⟩ (pa_consS ⟨pv 3⟩ (pa_consS (pe_callTyS call_tuple_of (by rfl) z_tuple PyProof.Rows.boot_tuple (pa_consS ⟨pe_slice (r := rSlL K) sl_list (pv 4) po_none (po_some (pe_op op_mod (pe_op op_fdiv (pv 2) pe_int) pe_int))⟩ ⟨pa_nil⟩)) ⟨pa_nil⟩))))))) ⟨pss_nil⟩)
    (pss_oneS (ps_retS (pe_tupS (pa_consS ⟨pe_str⟩ (pa_consS ⟨pv 3⟩ ⟨pa_nil⟩))))))))))), ?_⟩
  refine ⟨_, rfl, _, _, rfl, rfl, .inr ⟨by decide, by decide⟩, _, _, rfl, rfl, (show (0 : Int) < 2147483563 by decide), ?_⟩
  dsimp only
  generalize c * 40014 % 2147483563 = N
  obtain ⟨x, hx, ex⟩ := pick hw (N / 7)
  have gx := hgw x hx
  refine ⟨_, rfl, _, rfl, _, _, rfl, rfl, ⟨(show (0 : Int) < 7 by decide), (show (7 : Int) < 1073741824 by decide)⟩, _, _, rfl, rfl, (show (0 : Int) < 4 by decide), l, _, _, _, rfl, rfl, SqL.of hl, ex, ?_⟩
  have d2 : 2 ≤ sizeLine := by decide
  have d3 : 3 ≤ sizeLine := by decide
  have d0 : 0 ≤ sizeLine := by decide
  have d7 : (0 : Int) < 7 := by decide
  refine ⟨_, rfl, _, _, rfl, rfl, d7, rfl, _, rfl, ?_⟩
  refine ite2 (fun _ => ?_) (fun _ => ?_)
  · refine ⟨_, rfl, _, _, rfl, rfl, ⟨by decide, by decide, by decide⟩, _, _, rfl, rfl, (show (0 : Int) < 10 ^ 30 by decide), d2, fun p hp => ?_⟩
    exact q (.num _) _ _ (same_upd hp) ⟨p, rfl, upd_same⟩ rfl ⟨trivial, fun y hy => nomatch hy⟩
  refine ⟨_, rfl, _, _, rfl, rfl, d7, rfl, _, rfl, ?_⟩
  refine ite2 (fun _ => ?_) (fun _ => ?_)
  · obtain ⟨v, hv, ev⟩ := atI_in (xs := [V.str "ask", V.str "stop"]) (i := N / 28 % 2) (by omega) (by show _ < ((2 : Nat) : Int); omega)
    refine ⟨d2, fun p0 hp0 => ⟨_, rfl, _, _, rfl, rfl, ⟨(show (0 : Int) < 28 by decide), (show (28 : Int) < 1073741824 by decide)⟩, _, _, rfl, rfl, (show (0 : Int) < 2 by decide), p0, _, _, _, rfl, rfl, SqL.of upd_same, ev, _, rfl, d2, fun p hp => ?_⟩⟩
    simp only [List.mem_cons, List.not_mem_nil, or_false] at hv
    rcases hv with rfl | rfl
    · exact q (.ask x) _ _ ((same_upd hp0).trans (same_upd hp)) ⟨p, rfl, upd_same⟩ rfl ⟨gx, fun y hy => nomatch hy⟩
    · exact q (.stop x) _ _ ((same_upd hp0).trans (same_upd hp)) ⟨p, rfl, upd_same⟩ rfl ⟨gx, fun y hy => nomatch hy⟩
  refine ⟨_, rfl, _, _, rfl, rfl, d7, rfl, _, rfl, ?_⟩
  refine ite2 (fun _ => ?_) (fun _ => ?_)
  · obtain ⟨y1, hy1, e1⟩ := pick hw (N / 31)
    obtain ⟨y3, hy3, e3⟩ := pick hw (N / 127)
    have d4 : (0 : Int) < 4 := by decide
    refine ⟨_, rfl, _, rfl, _, _, rfl, rfl, ⟨(show (0 : Int) < 31 by decide), (show (31 : Int) < 1073741824 by decide)⟩, _, _, rfl, rfl, d4, l, _, _, _, rfl, rfl, SqL.of hl, e1, d2, fun p1 hp1 => ?_⟩
    have g1 := same_upd (o := .tup [.str "name", .str y1]) hp1
    refine ⟨_, rfl, d0, fun p2 hp2 => ⟨d3, fun p3 hp3 => ?_⟩⟩
    have g2 := same_upd (o := .tup []) hp2
    have g3 := same_upd (o := .tup [.str "gap", .str x, .ref p2]) hp3
    have g13 := g1.trans (g2.trans g3)
    refine ⟨_, rfl, _, rfl, _, _, rfl, rfl, ⟨(show (0 : Int) < 127 by decide), (show (127 : Int) < 1073741824 by decide)⟩, _, _, rfl, rfl, d4, l, _, _, _, rfl, rfl, SqL.of (g13 _ _ hl), e3, d2, fun p4 hp4 => ⟨d3, fun ls hls => ?_⟩⟩
    have g4 := same_upd (o := .tup [.str "name", .str y3]) hp4
    have g5 := same_upd (o := .lst [.ref p1, .ref p3, .ref p4]) hls
    have gA := g13.trans (g4.trans g5)
    have t1 := g5 _ _ (g4 _ _ (g3 _ _ (g2 _ _ (upd_same (H := H) (a := p1) (o := .tup [.str "name", .str y1])))))
    have t2 := g5 _ _ (g4 _ _ (g3 _ _ (upd_same (H := upd H p1 (.tup [.str "name", .str y1])) (a := p2) (o := .tup []))))
    have t3 := g5 _ _ (g4 _ _ (upd_same (H := upd (upd H p1 (.tup [.str "name", .str y1])) p2 (.tup [])) (a := p3) (o := .tup [.str "gap", .str x, .ref p2])))
    have t4 := g5 _ _ (upd_same (H := upd (upd (upd H p1 (.tup [.str "name", .str y1])) p2 (.tup [])) p3 (.tup [.str "gap", .str x, .ref p2])) (a := p4) (o := .tup [.str "name", .str y3]))
    have els : (upd (upd (upd (upd (upd H p1 (.tup [.str "name", .str y1])) p2 (.tup [])) p3 (.tup [.str "gap", .str x, .ref p2])) p4 (.tup [.str "name", .str y3])) ls (.lst [.ref p1, .ref p3, .ref p4])) ls = some (.lst [.ref p1, .ref p3, .ref p4]) := upd_same
    generalize upd (upd (upd (upd (upd H p1 (.tup [.str "name", .str y1])) p2 (.tup [])) p3 (.tup [.str "gap", .str x, .ref p2])) p4 (.tup [.str "name", .str y3])) ls (.lst [.ref p1, .ref p3, .ref p4]) = H1 at gA t1 t2 t3 t4 els ⊢
    clear g1 g2 g3 g4 g5 g13
    generalize hz : N / 511 % 4 = z
    have hz0 : 0 ≤ z := by omega
    refine ⟨_, rfl, _, rfl, _, rfl, _, _, rfl, rfl, ⟨(show (0 : Int) < 511 by decide), (show (511 : Int) < 1073741824 by decide)⟩, _, _, rfl, rfl, d4, z, (by rw [← hz]), ls, _, rfl, SqL.of els, fun p5 hp5 => ⟨p5, _, rfl, .inl ⟨SqL.of upd_same, fun p6 hp6 => ⟨d3, fun p7 hp7 => ?_⟩⟩⟩⟩
    have g6 := same_upd (o := .lst (cutV [.ref p1, .ref p3, .ref p4] none (some z))) hp5
    have g7 := same_upd (o := .tup (cutV [.ref p1, .ref p3, .ref p4] none (some z))) hp6
    have g8 := same_upd (o := .tup [.str "gap", .str x, .ref p6]) hp7
    have gC := (g6.trans (g7.trans g8)).tk
    refine q (.gap x ([Atom.name y1, .gap x, .name y3].take z.toNat)) _ _ (gA.trans (g6.trans (g7.trans g8))) ⟨p7, p6, _, rfl, upd_same, g8 _ _ upd_same, ?_, ?_⟩ rfl ⟨⟨gx, ?_, fun a ha => ?_⟩, fun y hy => ?_⟩
    · exact Nat.le_trans (cutV_length _ _ _) (show 3 ≤ 1000 by decide)
    · have all : ∀ H' : Hp, Tk H1 H' → Paired (AtRep H') ([Atom.name y1, .gap x, .name y3].take z.toNat) (cutV [.ref p1, .ref p3, .ref p4] none (some z)) := fun H' k => by
        rw [cut_front _ _ hz0]
        exact paired_take _ (.cons ⟨p1, rfl, k _ _ t1⟩ (.cons ⟨p3, p2, rfl, k _ _ t3, k _ _ t2⟩ (.cons ⟨p4, rfl, k _ _ t4⟩ .nil)))
      exact all _ gC
    · exact Nat.le_trans (List.length_take_le' _ _) (by simp)
    · have ha' := List.mem_of_mem_take ha
      simp only [List.mem_cons, List.not_mem_nil, or_false] at ha'
      rcases ha' with h | h | h
      · subst h; exact hgw y1 hy1
      · subst h; exact gx
      · subst h; exact hgw y3 hy3
    · obtain ⟨a, ha, hya⟩ := List.mem_flatMap.mp (show y ∈ (([Atom.name y1, .gap x, .name y3].take z.toNat).flatMap Atom.names) from hy)
      have ha' := List.mem_of_mem_take ha
      simp only [List.mem_cons, List.not_mem_nil, or_false] at ha'
      rcases ha' with h | h | h
      · subst h; rw [List.mem_singleton.mp hya]; exact hy1
      · subst h; cases hya
      · subst h; rw [List.mem_singleton.mp hya]; exact hy3
  · refine ⟨_, rfl, d2, fun p hp => ?_⟩
    exact q (.name x) _ _ (same_upd hp) ⟨p, rfl, upd_same⟩ rfl (.name hx gx)
def sp_tree (K : PySem.W.Frag) (n : Nat) : Sp := fun vs H Q _ => ∃ (a l : Addr) (ns : List Int) (ws : List Str) (d : Int), vs = [.ref a, .ref l, .int d] ∧ SqL K H a (ns.map V.int) ∧ ns.length ≤ 63 ∧ H l = some (.lst (ws.map V.str)) ∧ ws.length = 4 ∧ (∀ x ∈ ws, GW x) ∧ 0 ≤ d ∧ d < n ∧
  ∀ (t : Tr) (v : V) (H' : Hp), Same H H' → Rep H' t v → t.size ≤ 3 * ns.length + 1 → (t.dp : Int) ≤ d + 2 → GT ws t → Q v H'
def kds : List Kd := [.say, .add, .sub, .mul, .thn, .ite, .lett, .lett, .lett, .lett]
theorem pickSign (z : Int) : ∃ kd : Kd, kd ∈ kds ∧ atI (kds.map fun k => V.str k.s) (z % 10) = some (.str kd.s) := by
  have hl : ((kds.map fun k => V.str k.s).length : Int) = 10 := rfl
  obtain ⟨v, hv, e⟩ := atI_in (xs := kds.map fun k => V.str k.s) (i := z % 10) (by omega) (by omega)
  obtain ⟨kd, hk, rfl⟩ := List.mem_map.mp hv
  exact ⟨kd, hk, e⟩
theorem ok_tree {k n : Nat} {f g1 : Addr} {fd gd1 : FuncData} (F : Fun K "_law_tree" "_law_tree" s_law_tree f fd) (z_len : mg "len" = none) (G_law_leaf : FnB P w K mg base k "_law_leaf" g1 gd1 ["_law_cell", "_law_words_here"] sp_leaf)
    (G_law_tree : FnB P w K mg base k "_law_tree" f fd ["_law_cells", "_law_words_here", "_law_deep"] (sp_tree K n)) :
    FnOk P w K mg base CX0 (k + 1) f fd ["_law_cells", "_law_words_here", "_law_deep"] (sp_tree K (n + 1)) := by
  refine F.ok sc_law_tree (fun vs H Q E h => ?_) (fun cdv A outer s H vs Q E hr h => ?_)
  · obtain ⟨a, l, ns, ws, d, rfl, _⟩ := h
    rfl
  obtain ⟨a, l, ns, ws, d, rfl, hS, h63, hl, hw, hgw, hd0, hdn, q⟩ := h
  refine ⟨_, (Sd.un (pss_consS (ps_ifS ⟨pt_cmpR op_eq (pe_callB call_len_seq (by rfl) z_len PySem.boot_len (pa_cons (pv 0) pa_nil)) pe_int (nomark _)⟩ (pss_oneS (ps_retS (pe_tupS (pa_consS ⟨pe_str⟩ (pa_consS (pe_ixS (r := rIxL K) ix_list ⟨pv 1⟩ ⟨pe_op op_mod (pv 2) pe_int⟩ (fun _ _ => rfl)) ⟨pa_nil⟩))))) ⟨pss_nil⟩)
    (pss_consS (ps_ifS ⟨(pw_or (pt_cmpR op_eq (pe_callB call_len_seq (by rfl) z_len PySem.boot_len (pa_cons (pv 0) pa_nil)) pe_int (nomark _)) (pw_or1 (pt_cmpR op_eq (pv 2) pe_int (nomark _)))).pt⟩ (pss_oneS (ps_retS ⟨pe_call G_law_leaf.ok hr (by rfl) G_law_leaf.gl G_law_leaf.kp G_law_leaf.bd .nil pass0 (pa_cons (pe_ix (r := rIxL K) ix_list (pv 0) pe_int (fun _ _ => rfl)) (pa_cons (pv 1) pa_nil))⟩)) ⟨pss_nil⟩)
    (pss_consS (ps_setS (i := 3) sc_law_tree.nd rfl (Or.inl rfl) ⟨pe_op op_mod (pe_op op_mul (pe_ix (r := rIxL K) ix_list (pv 0) pe_int (fun _ _ => rfl)) pe_int) pe_int⟩)
    (pss_consS (ps_setS (i := 4) sc_law_tree.nd rfl (Or.inl rfl) ⟨pe_slice (r := rSlL K) sl_list (pv 0) (po_some pe_int) po_none⟩)
    (pss_consS (ps_setS (i := 5) sc_law_tree.nd rfl (Or.inl rfl) ⟨pe_op op_mod (pe_op op_fdiv (pv 3) pe_int) (pe_op op_add (pe_callB call_len_seq (by rfl) z_len PySem.boot_len (pa_cons (pv 4) pa_nil)) pe_int)⟩)
    (pss_consS (ps_setS (i := 6) sc_law_tree.nd rfl (Or.inl rfl) (pe_ixS (r := rIxL K) ix_list ⟨pe_lstR [.str "say", .str "add", .str "sub", .str "mul", .str "then", .str "if", .str "let", .str "let", .str "let", .str "let"] (by rfl)⟩ ⟨pe_op op_mod (pv 3) pe_int⟩ (fun _ _ => rfl)))
    (pss_consS (ps_ifS ⟨pt_cmpR op_eq (pv 6) pe_str (nomark _)⟩ (pss_oneS (ps_retS (pe_tupS (pa_consS ⟨pe_str⟩ (pa_consS ⟨pe_call G_law_tree.ok hr (by rfl) G_law_tree.gl G_law_tree.kp G_law_tree.bd .nil pass0 (pa_cons (pv 4) (pa_cons (pv 1) (pa_cons (pe_op op_sub (pv 2) pe_int) pa_nil)))⟩ ⟨pa_nil⟩))))) ⟨pss_nil⟩)
    (pss_consS (ps_setS (i := 7) sc_law_tree.nd rfl (Or.inl rfl) ⟨pe_call G_law_tree.ok hr (by rfl) G_law_tree.gl G_law_tree.kp G_law_tree.bd .nil pass0 (pa_cons (pe_slice (r := rSlL K) sl_list (pv 4) po_none (po_some (pv 5))) (pa_cons (pv 1) (pa_cons (pe_op op_sub (pv 2) pe_int) pa_nil)))⟩)
    (pss_consS (ps_ifS ⟨pt_cmpR op_eq (pv 6) pe_str (nomark _)⟩ (pss_consS (ps_setS (i := 8) sc_law_tree.nd rfl (Or.inl rfl) ⟨pe_op op_add (pv 5) (pe_op op_mod (pe_op op_fdiv (pv 3) pe_int) (pe_op op_add (pe_op op_sub (pe_callB call_len_seq (by rfl) z_len PySem.boot_len (pa_cons (pv 4) pa_nil)) (pv 5)) pe_int))⟩)
    (pss_consS (ps_setS (i := 9) sc_law_tree.nd rfl (Or.inl rfl) ⟨pe_call G_law_tree.ok hr (by rfl) G_law_tree.gl G_law_tree.kp G_law_tree.bd .nil pass0 (pa_cons (pe_slice (r := rSlL K) sl_list (pv 4) (po_some (pv 5)) (po_some (pv 8))) (pa_cons (pv 1) (pa_cons (pe_op op_sub (pv 2) pe_int) pa_nil)))⟩)
    (pss_oneS (ps_retS (pe_tupS (pa_consS ⟨pe_str⟩ (pa_consS ⟨pv 7⟩ (pa_consS ⟨pv 9⟩ (pa_consS ⟨pe_call G_law_tree.ok hr (by rfl) G_law_tree.gl G_law_tree.kp G_law_tree.bd .nil pass0 (pa_cons (pe_slice (r := rSlL K) sl_list (pv 4) (po_some (pv 8)) po_none) (pa_cons (pv 1) (pa_cons (pe_op op_sub (pv 2) pe_int) pa_nil)))⟩ ⟨pa_nil⟩))))))))) ⟨pss_nil⟩)
    (pss_consS (ps_setS (i := 10) sc_law_tree.nd rfl (Or.inl rfl) ⟨pe_call G_law_tree.ok hr (by rfl) G_law_tree.gl G_law_tree.kp G_law_tree.bd .nil pass0 (pa_cons (pe_slice (r := rSlL K) sl_list (pv 4) (po_some (pv 5)) po_none) (pa_cons (pv 1) (pa_cons (pe_op op_sub (pv 2) pe_int) pa_nil)))⟩)
    (pss_consS (ps_ifS ⟨pt_cmpR op_eq (pv 6) pe_str (nomark _)⟩ (pss_oneS (ps_retS (pe_tupS (pa_consS ⟨pe_str⟩ (pa_consS (pe_ixS (r := rIxL K) ix_list ⟨pv 1⟩ ⟨pe_op op_mod (pe_op op_fdiv (pv 3) pe_int) pe_int⟩ (fun _ _ => rfl)) (pa_consS ⟨pv 7⟩ (pa_consS ⟨pv 10⟩ ⟨pa_nil⟩))))))) ⟨pss_nil⟩)
    (pss_oneS (ps_retS (pe_tupS (pa_consS ⟨pv 6⟩ (pa_consS ⟨pv 7⟩ (pa_consS ⟨pv 10⟩ ⟨pa_nil⟩)))))))))))))))))), ?_⟩
  have d2 : 2 ≤ sizeLine := by decide
  have d3 : 3 ≤ sizeLine := by decide
  have d4 : 4 ≤ sizeLine := by decide
  have d9 : 10 ≤ sizeLine := by decide
  have z4 : (0 : Int) < 4 := by decide
  have hlen : (ns.map V.int).length = ns.length := List.length_map _
  refine ⟨_, rfl, a, _, rfl, .inl hS, rfl, _, rfl, ?_⟩
  refine ite2 (fun _ => ?_) (fun c0 => ?_)
  · obtain ⟨x, hx, ex⟩ := pick hw d
    refine ⟨_, rfl, _, rfl, _, _, rfl, rfl, z4, l, _, _, _, rfl, rfl, SqL.of hl, ex, d2, fun p hp => ?_⟩
    exact q (.name x) _ _ (same_upd hp) ⟨p, rfl, upd_same⟩ (by show 1 ≤ _; omega) (by show ((2 : Nat) : Int) ≤ _; omega) (.name hx (hgw x hx))
  have c0' : ns.length ≠ 0 := fun z => c0 (decide_eq_true (by rw [hlen, z]; rfl))
  obtain ⟨v0, hv0, e0⟩ := atI_in (xs := ns.map V.int) (i := 0) (Int.le_refl 0) (by rw [hlen]; omega)
  obtain ⟨i0, _, rfl⟩ := List.mem_map.mp hv0
  refine ⟨_, rfl, a, _, rfl, .inl hS, rfl, _, rfl, ?_⟩
  refine ite2 (fun _ => ?_) (fun c1 => ⟨_, rfl, rfl, _, rfl, ite2 (fun _ => ?_) (fun c2 => ?_)⟩)
  · exact ⟨_, rfl, a, _, 0, _, rfl, rfl, hS, e0, _, rfl, i0, l, ws, rfl, hl, hw, hgw, fun t v H' g r sz gd => q t v H' g r (by omega) (by have := dp_leaf sz; omega) gd⟩
  · exact ⟨_, rfl, a, _, 0, _, rfl, rfl, hS, e0, _, rfl, i0, l, ws, rfl, hl, hw, hgw, fun t v H' g r sz gd => q t v H' g r (by omega) (by have := dp_leaf sz; omega) gd⟩
  have c2' : d ≠ 0 := fun z => c2 (decide_eq_true (by rw [z]))
  refine ⟨_, rfl, a, _, 0, _, rfl, rfl, hS, e0, _, _, rfl, rfl, .inr ⟨by decide, by decide⟩, _, _, rfl, rfl, (show (0 : Int) < 2147483629 by decide), ?_⟩
  obtain ⟨ms, em, lm⟩ := cutInts (ns := ns) (lo := some 1) (hi := none) (i := 1) (j := ns.length) (sIx_int (by decide) (by omega)) rfl (Nat.le_refl _)
  refine ⟨_, rfl, _, rfl, a, _, rfl, hS, fun pr hpr => ?_⟩
  rw [em]
  have g1 := same_upd (o := .lst (ms.map V.int)) hpr
  have epr : upd H pr (.lst (ms.map V.int)) pr = some (.lst (ms.map V.int)) := upd_same
  have hlm : (ms.map V.int).length = ms.length := List.length_map _
  generalize upd H pr (.lst (ms.map V.int)) = H1 at g1 epr ⊢
  dsimp only
  generalize hN : i0 * 16807 % 2147483629 = N
  have hl1 := g1 _ _ hl
  refine ⟨_, rfl, _, _, rfl, rfl, ⟨(show (0 : Int) < 10 by decide), (show (10 : Int) < 1073741824 by decide)⟩, _, rfl, pr, _, rfl, .inl (SqL.of epr), _, _, rfl, rfl, _, _, rfl, rfl, (by rw [hlm]; omega), ?_⟩
  obtain ⟨at_, hat, hat0, hat1⟩ : ∃ at_ : Int, N / 10 % (((ms.map V.int).length : Int) + 1) = at_ ∧ 0 ≤ at_ ∧ at_ ≤ ms.length :=
    ⟨_, rfl, Int.emod_nonneg _ (by omega), by have := Int.emod_lt_of_pos (N / 10) (show (0 : Int) < ((ms.map V.int).length : Int) + 1 by omega); rw [hlm] at this ⊢; omega⟩
  dsimp only
  rw [hat]
  obtain ⟨kd, hk, ek⟩ := pickSign N
  refine ⟨d9, fun ps hps => ⟨_, rfl, _, _, rfl, rfl, (show (0 : Int) < 10 by decide), ps, _, _, _, rfl, rfl, SqL.of upd_same, ek, ?_⟩⟩
  have g2 := same_upd (o := .lst [.str "say", .str "add", .str "sub", .str "mul", .str "then", .str "if", .str "let", .str "let", .str "let", .str "let"]) hps
  have epr2 := g2 _ _ epr
  have hl2 := g2 _ _ hl1
  have gA := g1.trans g2
  generalize upd H1 ps (.lst [.str "say", .str "add", .str "sub", .str "mul", .str "then", .str "if", .str "let", .str "let", .str "let", .str "let"]) = H2 at g2 epr2 hl2 gA ⊢
  refine ⟨_, rfl, rfl, _, rfl, ?_⟩
  refine ite2 (fun c3 => ?_) (fun c3 => ?_)
  · refine ⟨_, rfl, _, rfl, _, rfl, _, _, rfl, rfl, pr, l, ms, ws, d - 1, rfl, SqL.of epr2, by omega, hl2, hw, hgw, by omega, by omega, fun t v H3 g3 r3 sz3 dp3 gd3 => ⟨d2, fun p hp => ?_⟩⟩
    exact q (.say t) _ _ (gA.trans (g3.trans (same_upd hp))) ⟨p, v, rfl, upd_same, r3.mono (same_upd hp).tk⟩ (by show t.size + 1 ≤ _; omega) (by show ((t.dp + 1 : Nat) : Int) ≤ _; omega) gd3
  obtain ⟨m1, em1, lm1⟩ := cutInts (ns := ms) (lo := none) (hi := some at_) (i := 0) (j := at_.toNat) rfl (sIx_int hat0 hat1) (by omega)
  refine ⟨_, rfl, _, rfl, _, rfl, pr, _, rfl, SqL.of epr2, fun p1 hp1 => ?_⟩
  rw [em1]
  have g3 := same_upd (o := .lst (m1.map V.int)) hp1
  refine ⟨_, rfl, _, rfl, _, _, rfl, rfl, p1, l, m1, ws, d - 1, rfl, SqL.of upd_same, by omega, g3 _ _ hl2, hw, hgw, by omega, by omega, fun t1 v1 H4 g4 r1 sz1 dp1 gd1 => ?_⟩
  have gB := gA.trans (g3.trans g4)
  have epr4 := g4 _ _ (g3 _ _ epr2)
  have hl4 := g4 _ _ (g3 _ _ hl2)
  refine ⟨_, rfl, rfl, _, rfl, ?_⟩
  refine ite2 (fun c4 => ?_) (fun c4 => ?_)
  · refine ⟨_, rfl, _, rfl, _, _, rfl, rfl, ⟨(show (0 : Int) < 1009 by decide), (show (1009 : Int) < 1073741824 by decide)⟩, _, rfl, pr, _, rfl, .inl (SqL.of epr4), _, rfl, _, _, rfl, rfl, _, _, rfl, rfl, _, _, rfl, rfl, (by rw [hlm]; omega), _, _, rfl, rfl, ?_⟩
    obtain ⟨far, hfar, hf0, hf1⟩ : ∃ far : Int, at_ + N / 1009 % (((ms.map V.int).length : Int) - at_ + 1) = far ∧ at_ ≤ far ∧ far ≤ ms.length :=
      ⟨_, rfl, by have := Int.emod_nonneg (N / 1009) (show ((ms.map V.int).length : Int) - at_ + 1 ≠ 0 by rw [hlm]; omega); omega, by have := Int.emod_lt_of_pos (N / 1009) (show (0 : Int) < ((ms.map V.int).length : Int) - at_ + 1 by rw [hlm]; omega); rw [hlm] at this ⊢; omega⟩
    dsimp only
    rw [hfar]
    obtain ⟨m2, em2, lm2⟩ := cutInts (ns := ms) (lo := some at_) (hi := some far) (i := at_.toNat) (j := far.toNat) (sIx_int hat0 hat1) (sIx_int (by omega) hf1) (by omega)
    obtain ⟨m3, em3, lm3⟩ := cutInts (ns := ms) (lo := some far) (hi := none) (i := far.toNat) (j := ms.length) (sIx_int (by omega) hf1) rfl (Nat.le_refl _)
    refine ⟨_, rfl, _, rfl, _, rfl, _, rfl, _, rfl, pr, _, rfl, SqL.of epr4, fun p2 hp2 => ?_⟩
    rw [em2]
    have g5 := same_upd (o := .lst (m2.map V.int)) hp2
    refine ⟨_, rfl, _, rfl, _, _, rfl, rfl, p2, l, m2, ws, d - 1, rfl, SqL.of upd_same, by omega, g5 _ _ hl4, hw, hgw, by omega, by omega, fun t2 v2 H6 g6 r2 sz2 dp2 gd2 => ?_⟩
    have epr6 := g6 _ _ (g5 _ _ epr4)
    have hl6 := g6 _ _ (g5 _ _ hl4)
    refine ⟨_, rfl, _, rfl, _, rfl, _, rfl, _, rfl, pr, _, rfl, SqL.of epr6, fun p3 hp3 => ?_⟩
    rw [em3]
    have g7 := same_upd (o := .lst (m3.map V.int)) hp3
    refine ⟨_, rfl, _, rfl, _, _, rfl, rfl, p3, l, m3, ws, d - 1, rfl, SqL.of upd_same, by omega, g7 _ _ hl6, hw, hgw, by omega, by omega, fun t3 v3 H8 g8 r3 sz3 dp3 gd3 => ⟨d4, fun p hp => ?_⟩⟩
    have gp := same_upd (o := .tup [.str "if", v1, v2, v3]) hp
    exact q (.ite t1 t2 t3) _ _ (gB.trans (g5.trans (g6.trans (g7.trans (g8.trans gp))))) ⟨p, v1, v2, v3, rfl, upd_same, r1.mono (g5.trans (g6.trans (g7.trans (g8.trans gp)))).tk, r2.mono (g7.trans (g8.trans gp)).tk, r3.mono gp.tk⟩ (by show t1.size + t2.size + t3.size + 1 ≤ _; omega) (by show ((max t1.dp (max t2.dp t3.dp) + 1 : Nat) : Int) ≤ _; omega) (.ite gd1 gd2 gd3)
  obtain ⟨m2, em2, lm2⟩ := cutInts (ns := ms) (lo := some at_) (hi := none) (i := at_.toNat) (j := ms.length) (sIx_int hat0 hat1) rfl (Nat.le_refl _)
  refine ⟨_, rfl, _, rfl, _, rfl, pr, _, rfl, SqL.of epr4, fun p2 hp2 => ?_⟩
  rw [em2]
  have g5 := same_upd (o := .lst (m2.map V.int)) hp2
  refine ⟨_, rfl, _, rfl, _, _, rfl, rfl, p2, l, m2, ws, d - 1, rfl, SqL.of upd_same, by omega, g5 _ _ hl4, hw, hgw, by omega, by omega, fun t2 v2 H6 g6 r2 sz2 dp2 gd2 => ?_⟩
  have hl6 := g6 _ _ (g5 _ _ hl4)
  have gC := gB.trans (g5.trans g6)
  have r1' := r1.mono (g5.trans g6).tk
  refine ⟨_, rfl, rfl, _, rfl, ?_⟩
  refine ite2 (fun c5 => ?_) (fun c5 => ?_)
  · obtain ⟨x, hx, ex⟩ := pick hw (N / 5003)
    refine ⟨_, rfl, _, rfl, _, _, rfl, rfl, ⟨(show (0 : Int) < 5003 by decide), (show (5003 : Int) < 1073741824 by decide)⟩, _, _, rfl, rfl, z4, l, _, _, _, rfl, rfl, SqL.of hl6, ex, _, rfl, _, rfl, d4, fun p hp => ?_⟩
    have gp := same_upd (o := .tup [.str "let", .str x, v1, v2]) hp
    exact q (.lett x t1 t2) _ _ (gC.trans gp) ⟨p, v1, v2, rfl, upd_same, r1'.mono gp.tk, r2.mono gp.tk⟩ (by show t1.size + t2.size + 1 ≤ _; omega) (by show ((max t1.dp t2.dp + 1 : Nat) : Int) ≤ _; omega) (.lett hx (hgw x hx) gd1 gd2)
  · refine ⟨_, rfl, _, rfl, _, rfl, d3, fun p hp => ?_⟩
    have gp := same_upd (o := .tup [.str kd.s, v1, v2]) hp
    have n3 : kd ≠ .say := fun z => c3 (decide_eq_true (by rw [z]; rfl))
    have n4 : kd ≠ .ite := fun z => c4 (decide_eq_true (by rw [z]; rfl))
    have n5 : kd ≠ .lett := fun z => c5 (decide_eq_true (by rw [z]; rfl))
    obtain ⟨o, ho⟩ : ∃ o : Bin, o.s = kd.s := by
      cases kd with
      | add => exact ⟨.add, rfl⟩
      | sub => exact ⟨.sub, rfl⟩
      | mul => exact ⟨.mul, rfl⟩
      | thn => exact ⟨.thn, rfl⟩
      | say => exact absurd rfl n3
      | ite => exact absurd rfl n4
      | lett => exact absurd rfl n5
      | _ => exact absurd hk (by decide)
    exact q (.bin o t1 t2) _ _ (gC.trans gp) ⟨p, v1, v2, rfl, by rw [ho]; exact upd_same, r1'.mono gp.tk, r2.mono gp.tk⟩ (by show t1.size + t2.size + 1 ≤ _; omega) (by show ((max t1.dp t2.dp + 1 : Nat) : Int) ≤ _; omega) (.bin gd1 gd2)
theorem none_left {k : Nat} {f : Addr} {fd : FuncData} : FnOk P w K mg base CX0 k f fd ["_law_cells", "_law_words_here", "_law_deep"] (sp_tree K 0) := by
  have no : ∀ vs H Q E, ¬ sp_tree K 0 vs H Q E := fun vs H Q E h => by
    obtain ⟨a, l, ns, ws, d, _, _, _, _, _, _, h1, h2, _⟩ := h
    omega
  exact ⟨fun vs H Q E h => absurd h (no vs H Q E), fun A outer s H args us vs Q E _ _ _ _ h => absurd h (no vs H Q E)⟩
theorem all_tree {k : Nat} {f g1 : Addr} {fd gd1 : FuncData} (F : Fun K "_law_tree" "_law_tree" s_law_tree f fd) (b : Binds K fd ["_law_cells", "_law_words_here", "_law_deep"] []) (m : mg "_law_tree" = some (.ref f)) (z_len : mg "len" = none)
    (G : FnB P w K mg base k "_law_leaf" g1 gd1 ["_law_cell", "_law_words_here"] sp_leaf) : ∀ n : Nat, FnB P w K mg base (k + n) "_law_tree" f fd ["_law_cells", "_law_words_here", "_law_deep"] (sp_tree K n)
  | 0 => ⟨none_left, b, F.kp, m⟩
  | n + 1 => ⟨ok_tree F z_len (G.up (Nat.le_add_right _ _)) (all_tree F b m z_len G n), b, F.kp, m⟩
end
end K05
set_option Elab.async false
set_option linter.all false
set_option maxRecDepth 100000
set_option maxHeartbeats 4000000
namespace L2
open PySem
theorem AtRep.inj {H : Hp} {a b : Atom} {v : V} (h : AtRep H a v) (h' : AtRep H b v) : a = b := by
  cases a <;> cases b
  all_goals first
    | (obtain ⟨c, rfl, hc⟩ := h; obtain ⟨c', e, hc'⟩ := h'; cases e; rw [hc] at hc'; injection hc' with hc'; injection hc' with hc'; injection hc' with h1 h2; injection h2 with h2 _; injection h2 with h2; first | (rw [h2]; done) | (injection h1 with h1; exact absurd h1 (by decide +kernel)))
    | (obtain ⟨c, d, rfl, hc, _⟩ := h; obtain ⟨c', d', e, hc', _⟩ := h'; cases e; rw [hc] at hc'; injection hc' with hc'; injection hc' with hc'; injection hc' with h1 h2; injection h2 with h2 _; injection h2 with h2; rw [h2]; done)
    | (obtain ⟨c, rfl, hc⟩ := h; obtain ⟨c', e, hc'⟩ := h'; cases e; rw [hc] at hc'; injection hc' with hc'; injection hc' with hc'; injection hc' with h1 h2; injection h1 with h1; exact absurd h1 (by decide +kernel))
    | (obtain ⟨c, d, rfl, hc, _⟩ := h; obtain ⟨c', e, hc'⟩ := h'; cases e; rw [hc] at hc'; injection hc' with hc'; injection hc' with hc'; injection hc' with h1 h2; injection h1 with h1; exact absurd h1 (by decide +kernel))
    | (obtain ⟨c, rfl, hc⟩ := h; obtain ⟨c', d', e, hc', _⟩ := h'; cases e; rw [hc] at hc'; injection hc' with hc'; injection hc' with hc'; injection hc' with h1 h2; injection h1 with h1; exact absurd h1 (by decide +kernel))
theorem AtRep.rf {H : Hp} : ∀ {a : Atom} {v : V}, AtRep H a v → ∃ c, v = .ref c
  | .name _, _, ⟨c, e, _⟩ => ⟨c, e⟩
  | .num _, _, ⟨c, e, _⟩ => ⟨c, e⟩
  | .gap _, _, ⟨c, _, e, _⟩ => ⟨c, e⟩
structure DkG (H : Hp) (W : List Str) (τ : Told) (kvs : List (Key × V)) : Prop where
  nm : ∀ p ∈ kvs, ∃ x a, p.1 = (Sum.inr x : Key) ∧ AtRep H a p.2 ∧ a.good GW ∧ ∀ y, a = .name y → y ∈ W
  vl : ∀ x, RelA H (τ x) (valV kvs (Sum.inr x : Key))
theorem DkG.lv {H : Hp} {W : List Str} {τ : Told} {kvs : List (Key × V)} (h : DkG H W τ kvs) : Lv H τ kvs := ⟨fun p hp => let ⟨x, a, e, r, _⟩ := h.nm p hp; ⟨x, a, e, r⟩, h.vl⟩
theorem DkG.mono {H H' : Hp} (k : Tk H H') {W : List Str} {τ : Told} {kvs : List (Key × V)} (h : DkG H W τ kvs) : DkG H' W τ kvs :=
  ⟨fun p hp => let ⟨x, a, e, r, z⟩ := h.nm p hp; ⟨x, a, e, r.mono k, z⟩, fun x => (h.vl x).mono k⟩
theorem DkG.gd {H : Hp} {W : List Str} {τ : Told} {kvs : List (Key × V)} (h : DkG H W τ kvs) : ∀ x a, τ x = some a → a.good GW := fun x a e => by
  obtain ⟨v, ev, r⟩ := h.lv.some e
  obtain ⟨p, hp, _, e2⟩ := val_mem ev
  obtain ⟨_, a', _, r', g, _⟩ := h.nm p hp
  rw [e2] at r'
  rw [r.inj r']
  exact g
theorem DkG.inW {H : Hp} {W : List Str} {τ : Told} {kvs : List (Key × V)} (h : DkG H W τ kvs) : ∀ p ∈ kvs, ∀ y, AtRep H (.name y) p.2 → y ∈ W := fun p hp y r => by
  obtain ⟨_, a', _, r', _, k⟩ := h.nm p hp
  exact k y (r'.inj r)
theorem DkG.refs {H : Hp} {W : List Str} {τ : Told} {kvs : List (Key × V)} (h : DkG H W τ kvs) : ∀ p ∈ kvs, ∃ c, p.2 = V.ref c := fun p hp => by
  obtain ⟨_, a', _, r', _, k⟩ := h.nm p hp
  exact r'.rf
theorem DkG.nil {H : Hp} {W : List Str} : DkG H W noT [] := ⟨(fun p hp => nomatch hp), fun x => True.intro⟩
theorem DkG.put {H : Hp} {W : List Str} {τ : Told} {kvs : List (Key × V)} (h : DkG H W τ kvs) {n : Str} {a : Atom} {v : V} (r : AtRep H a v) (g : a.good GW) (k : ∀ y, a = .name y → y ∈ W) : DkG H W (setT τ n a) (putK kvs (Sum.inr n : Key) v) :=
  ⟨fun p hp => (in_putK hp).elim (fun e => ⟨n, a, by rw [e], by rw [e]; exact r, g, k⟩) (h.nm p), (h.lv.put r).vl⟩
def twoS : List Str := ["a", "no"]
theorem gw_a : GW "a" := by decide +kernel
theorem gw_no : GW "no" := by decide +kernel
def Tr.dep : Tr → Nat
  | .gap _ [] => 1
  | .gap _ (_ :: _) => 2
  | .say a => a.dep + 1
  | .bin _ a b => max a.dep b.dep + 1
  | .ite a b c => max a.dep (max b.dep c.dep) + 1
  | .lett _ a b => max a.dep b.dep + 1
  | _ => 1
theorem dep_dp : ∀ t : Tr, t.dep ≤ t.dp
  | .say a => by have := dep_dp a; simp [Tr.dep, Tr.dp]; omega
  | .bin _ a b => by have := dep_dp a; have := dep_dp b; simp [Tr.dep, Tr.dp]; omega
  | .ite a b c => by have := dep_dp a; have := dep_dp b; have := dep_dp c; simp [Tr.dep, Tr.dp]; omega
  | .lett _ a b => by have := dep_dp a; have := dep_dp b; simp [Tr.dep, Tr.dp]; omega
  | .gap _ [] => by simp [Tr.dep, Tr.dp]
  | .gap _ (_ :: _) => by simp [Tr.dep, Tr.dp]
  | .num _ => by simp [Tr.dep, Tr.dp]
  | .name _ => by simp [Tr.dep, Tr.dp]
  | .ask _ => by simp [Tr.dep, Tr.dp]
  | .stop _ => by simp [Tr.dep, Tr.dp]
theorem look_skip (x : Str) : ∀ (rs : List Str) (i : Nat), (∀ y ∈ rs.take i, y ≠ x) → lookB x rs = (lookB x (rs.drop i)).map (· + i)
  | rs, 0, _ => by simp
  | [], i + 1, _ => by simp [lookB]
  | p :: r, i + 1, h => by
    have h1 := h p (by simp)
    rw [lookB, if_neg h1, List.drop_succ_cons, look_skip x r i fun q hq => h q (by simp [hq]), Option.map_map]
    congr 1
theorem keyX_at {L : Told} {x : Str} {bs : List Str} {i : Nat} (h : ∀ y ∈ bs.reverse.take i, y ≠ x) (e : bs.reverse[i]? = some x) : keyX L bs x = .inl i := by
  obtain ⟨hl, e'⟩ := List.getElem?_eq_some_iff.mp e
  unfold keyX
  rw [look_skip x _ i h, List.drop_eq_getElem_cons hl, e', lookB, if_pos rfl]
  simp
theorem keyX_end {L : Told} {x : Str} {bs : List Str} (h : ∀ y ∈ bs.reverse.take bs.length, y ≠ x) : keyX L bs x = .inr (tOf L x) := by
  unfold keyX
  rw [look_skip x _ _ h, List.drop_of_length_le (by simp)]
  rfl
theorem DRs.snoc {H : Hp} : ∀ {ds : List Dt} {vs : List V} {d : Dt} {v : V}, DRs H ds vs → DR H d v → DRs H (ds ++ [d]) (vs ++ [v])
  | _, _, _, _, .nil, h => .cons h .nil
  | _, _, _, _, .cons r t, h => .cons r (t.snoc h)
theorem in3 (k : Kd) : inV (.str k.s) [.str "num", .str "ask", .str "stop"] = decide (k = .num ∨ k = .ask ∨ k = .stop) := by cases k <;> decide +kernel
theorem dep_pos (t : Tr) : 1 ≤ t.dep := by
  cases t with
  | gap g as => cases as <;> simp [Tr.dep]
  | _ => simp [Tr.dep]
theorem dep_part {t p : Tr} (h : p ∈ t.parts) : p.dep + 1 ≤ t.dep := by
  cases t <;> simp only [Tr.parts, List.mem_cons, List.not_mem_nil, or_false] at h
  · subst h; simp [Tr.dep]
  · rcases h with rfl | rfl <;> simp [Tr.dep] <;> omega
  · rcases h with rfl | rfl | rfl <;> simp [Tr.dep] <;> omega
  · rcases h with rfl | rfl <;> simp [Tr.dep] <;> omega
def Tr.inr (t : Tr) : Prop := t.kd.leaf = false ∧ t.kd ≠ .lett
theorem bareW_in {L : Told} {t : Tr} (h : t.inr) (bs : List Str) : bareW L t bs = .tup (.str t.sign :: t.parts.map fun p => bareW L p bs) := by
  obtain ⟨h1, h2⟩ := h
  cases t with
  | say a => rfl
  | bin o a b => show Dt.tup [.str o.s, _, _] = Dt.tup [.str o.kd.s, _, _]; rw [Bin.kd_s]
  | ite a b c => rfl
  | lett x a b => exact absurd rfl h2
  | _ => cases h1
theorem head_in {t : Tr} (h : t.inr) : t.head = 1 ∧ 1 ≤ t.parts.length ∧ t.parts.length ≤ 3 := by
  obtain ⟨h1, h2⟩ := h
  cases t with
  | say a => exact ⟨rfl, by simp [Tr.parts], by simp [Tr.parts]⟩
  | bin o a b => exact ⟨rfl, by simp [Tr.parts], by simp [Tr.parts]⟩
  | ite a b c => exact ⟨rfl, by simp [Tr.parts], by simp [Tr.parts]⟩
  | lett x a b => exact absurd rfl h2
  | _ => cases h1
theorem cut_head (v : V) (us : List V) (h : 1 ≤ us.length) : cutV (v :: us) none (some 1) = [v] ∧ cutV (v :: us) (some 1) none = us ∧ ¬ (HT.sIx (v :: us).length 0 none = 0 ∧ HT.sIx (v :: us).length (v :: us).length (some 1) = (v :: us).length) ∧ ¬ (HT.sIx (v :: us).length 0 (some 1) = 0 ∧ HT.sIx (v :: us).length (v :: us).length none = (v :: us).length) := by
  have e1 : ∀ d, HT.sIx (v :: us).length d (some ((1 : Nat) : Int)) = 1 := fun d => by
    rw [HT.sIx_nat]
    simp
  have e1' : ∀ d, HT.sIx (v :: us).length d (some (1 : Int)) = 1 := e1
  refine ⟨?_, ?_, ?_, ?_⟩
  · unfold cutV
    rw [HT.sIx_none, e1']
    rfl
  · unfold cutV
    rw [HT.sIx_none, e1']
    simp
  · rw [e1']
    intro h
    have := h.2
    rw [List.length_cons] at this
    omega
  · rw [e1']
    simp
theorem bareW_deep (L : Told) : ∀ (t : Tr) (bs : List Str), (bareW L t bs).deep ≤ t.dp + 4 := by
  have ka : ∀ k : Nat ⊕ Atom, (keyDA k).deep ≤ 4 := fun k => by
    rcases k with k | a
    · simp [keyDA, Dt.deep, Dt.deeps]
    · cases a <;> simp [keyDA, Dt.deep, Dt.deeps]
  have aw : ∀ (bs : List Str) (as : List Atom), Dt.deeps (as.map (bareAW L bs)) ≤ 4 := fun bs as => by
    induction as with
    | nil => simp [Dt.deeps]
    | cons a as ih =>
      have : (bareAW L bs a).deep ≤ 4 := by
        cases a with
        | name x => exact ka _
        | num _ => simp [bareAW, Dt.deep, Dt.deeps]
        | gap _ => simp [bareAW, Dt.deep, Dt.deeps]
      simp [Dt.deeps]
      omega
  intro t
  induction t with
  | num n => intro bs; simp [bareW, Dt.deep, Dt.deeps, Tr.dp]
  | name x => intro bs; have := ka (keyX L bs x); simp [bareW, Tr.dp]; omega
  | ask n => intro bs; simp [bareW, Dt.deep, Dt.deeps, Tr.dp]
  | stop n => intro bs; simp [bareW, Dt.deep, Dt.deeps, Tr.dp]
  | gap g as => intro bs; have := aw bs as; simp [bareW, Dt.deep, Dt.deeps, Tr.dp]; omega
  | say a ih => intro bs; have := ih bs; simp [bareW, Dt.deep, Dt.deeps, Tr.dp]; omega
  | bin o a b ih1 ih2 => intro bs; have := ih1 bs; have := ih2 bs; simp [bareW, Dt.deep, Dt.deeps, Tr.dp]; omega
  | ite a b c ih1 ih2 ih3 => intro bs; have := ih1 bs; have := ih2 bs; have := ih3 bs; simp [bareW, Dt.deep, Dt.deeps, Tr.dp]; omega
  | lett x a b ih1 ih2 => intro bs; have := ih1 bs; have := ih2 (bs ++ [x]); simp [bareW, Dt.deep, Dt.deeps, Tr.dp]; omega
end L2
namespace K05
open PySem PySem.Spec L2 PyProof.Rows
abbrev s_law_leaf_by : Stmt := top 29
theorem sc_law_leaf_by : FnScope ["_law_cell", "_law_names"] ["_law_cell", "_law_names"] (defScope s_law_leaf_by) := ⟨rfl, rfl, rfl, by decide +kernel, rfl, by decide +kernel, by decide +kernel⟩
abbrev s_law_leaves : Stmt := top 30
theorem sc_law_leaves : FnScope ["_law_script", "_law_words_here", "_law_names", "_law_leaves_here", "_law_k", "_law_name"] ["_law_script", "_law_words_here"] (defScope s_law_leaves) := ⟨rfl, rfl, rfl, by decide +kernel, rfl, by decide +kernel, by decide +kernel⟩
abbrev s_law_bare_name : Stmt := top 31
theorem sc_law_bare_name : FnScope ["_law_name", "_law_bound", "_law_leaves_here", "_law_far"] ["_law_name", "_law_bound", "_law_leaves_here"] (defScope s_law_bare_name) := ⟨rfl, rfl, rfl, by decide +kernel, rfl, by decide +kernel, by decide +kernel⟩
abbrev s_law_bare : Stmt := top 32
theorem sc_law_bare : FnScope ["_law_tree_here", "_law_bound", "_law_leaves_here"] ["_law_tree_here", "_law_bound", "_law_leaves_here"] (defScope s_law_bare) := ⟨rfl, rfl, rfl, by decide +kernel, rfl, by decide +kernel, by decide +kernel⟩
section
variable {P : Program} {w : World} {K : PySem.W.Frag} {mg : Str → Option Value} {base : Heap}
def sp_leaf_by : Sp := fun vs H Q _ => ∃ (c : Int) (l : Addr) (ws : List Str), vs = [.int c, .ref l] ∧ H l = some (.lst (ws.map V.str)) ∧ ws.length = 6 ∧ (∀ x ∈ ws, GW x) ∧ ∀ (a : Atom) (v : V) (H' : Hp), Same H H' → AtRep H' a v → a.good GW → (∀ y, a = .name y → y ∈ ws) → Q v H'
theorem ok_leaf_by {k : Nat} {f : Addr} {fd : FuncData} (F : Fun K "_law_leaf_by" "_law_leaf_by" s_law_leaf_by f fd) (z_len : mg "len" = none) : FnOk P w K mg base CX0 (k + 1) f fd ["_law_cell", "_law_names"] sp_leaf_by := by
  refine F.ok sc_law_leaf_by (fun vs H Q E h => ?_) (fun cdv A outer s H vs Q E hr h => ?_)
  · obtain ⟨c, l, ws, rfl, _⟩ := h
    rfl
  obtain ⟨c, l, ws, rfl, hl, hw, hgw, q⟩ := h
  refine ⟨_, (Sd.un (pss_consS (ps_ifS ⟨pt_cmpR op_eq (pe_op op_mod (pv 0) pe_int) pe_int (nomark _)⟩ (pss_oneS (ps_retS (pe_tupS (pa_consS ⟨pe_str⟩ (pa_consS ⟨pe_op op_mod (pe_op op_fdiv (pv 0) pe_int) (pe_op op_pow pe_int pe_int)⟩ ⟨pa_nil⟩))))) ⟨pss_nil⟩)
    (pss_consS (ps_ifS ⟨(pw_and (pt_cmpR op_eq (pe_op op_mod (pv 0) pe_int) pe_int (nomark _)) (pw_and1 (pt_cmpR op_eq (pe_op op_mod (pe_op op_fdiv (pv 0) pe_int) pe_int) pe_int (nomark _)))).pt⟩ (pss_oneS (ps_retS (pe_tupS (pa_consS ⟨pe_str⟩ (pa_consS (pe_ixS (r := rIxL K) ix_list ⟨pv 1⟩ ⟨pe_op op_mod (pe_op op_fdiv (pv 0) pe_int) (pe_callB call_len_seq (by rfl) z_len PySem.boot_len (pa_cons (pv 1) pa_nil))⟩ (fun _ _ => rfl)) (pa_consS (pe_tupS ⟨pa_nil⟩) ⟨pa_nil⟩)))))) ⟨pss_nil⟩)
    (pss_oneS (ps_retS (pe_tupS (pa_consS ⟨pe_str⟩ (pa_consS (pe_ixS (r := rIxL K) ix_list ⟨pv 1⟩ ⟨pe_op op_mod (pe_op op_fdiv (pv 0) pe_int) (pe_callB call_len_seq (by rfl) z_len PySem.boot_len (pa_cons (pv 1) pa_nil))⟩ (fun _ _ => rfl)) ⟨pa_nil⟩)))))))), ?_⟩
  have d2 : 2 ≤ sizeLine := by decide
  have d3 : 3 ≤ sizeLine := by decide
  have d0 : 0 ≤ sizeLine := by decide
  have z3 : (0 : Int) < 3 := by decide
  have v3 : CDiv c 3 := ⟨(show (0 : Int) < 3 by decide), (show (3 : Int) < 1073741824 by decide)⟩
  have v12 : CDiv c 12 := ⟨(show (0 : Int) < 12 by decide), (show (12 : Int) < 1073741824 by decide)⟩
  have hlen : (ws.map V.str).length = 6 := by rw [List.length_map, hw]
  obtain ⟨v, hv, ev⟩ := atI_in (xs := ws.map V.str) (i := c / 12 % ((ws.map V.str).length : Int)) (by rw [hlen]; omega) (by rw [hlen]; omega)
  obtain ⟨x, hx, rfl⟩ := List.mem_map.mp hv
  have zl : (0 : Int) < ((ws.map V.str).length : Int) := by rw [hlen]; decide
  refine ⟨_, rfl, _, _, rfl, rfl, z3, rfl, _, rfl, ?_⟩
  refine ite2 (fun _ => ?_) (fun _ => ?_)
  · refine ⟨_, rfl, _, _, rfl, rfl, v3, _, _, rfl, rfl, ⟨by decide, by decide, by decide⟩, _, _, rfl, rfl, (show (0 : Int) < 10 ^ 30 by decide), d2, fun p hp => ?_⟩
    exact q (.num _) _ _ (same_upd hp) ⟨p, rfl, upd_same⟩ trivial (fun y e => nomatch e)
  refine ⟨_, rfl, _, _, rfl, rfl, z3, rfl, _, rfl, ?_⟩
  have fin : ∀ p, H p = none → Q (.ref p) (upd H p (.tup [.str "name", .str x])) := fun p hp => q (.name x) _ _ (same_upd hp) ⟨p, rfl, upd_same⟩ (hgw x hx) (fun y e => by cases e; exact hx)
  refine ite2 (fun _ => ?_) (fun _ => ?_)
  · refine ⟨_, rfl, _, _, rfl, rfl, v3, _, _, rfl, rfl, (show (0 : Int) < 4 by decide), rfl, _, rfl, ?_⟩
    refine ite2 (fun _ => ?_) (fun _ => ?_)
    · refine ⟨_, rfl, _, rfl, _, _, rfl, rfl, v12, _, rfl, l, _, rfl, .inl (SqL.of hl), _, _, rfl, rfl, zl, l, _, _, _, rfl, rfl, SqL.of hl, ev, d0, fun p0 hp0 => ⟨d3, fun p hp => ?_⟩⟩
      have g1 := same_upd (o := .tup []) hp0
      have g2 := same_upd (o := .tup [.str "gap", .str x, .ref p0]) hp
      exact q (.gap x) _ _ (g1.trans g2) ⟨p, p0, rfl, upd_same, g2 _ _ upd_same⟩ (hgw x hx) (fun y e => nomatch e)
    · exact ⟨_, rfl, _, rfl, _, _, rfl, rfl, v12, _, rfl, l, _, rfl, .inl (SqL.of hl), _, _, rfl, rfl, zl, l, _, _, _, rfl, rfl, SqL.of hl, ev, d2, fun p hp => fin p hp⟩
  · refine iteF ?_
    exact ⟨_, rfl, _, rfl, _, _, rfl, rfl, v12, _, rfl, l, _, rfl, .inl (SqL.of hl), _, _, rfl, rfl, zl, l, _, _, _, rfl, rfl, SqL.of hl, ev, d2, fun p hp => fin p hp⟩
def sp_leaves (K : PySem.W.Frag) : Sp := fun vs H Q _ => ∃ (a l : Addr) (ns : List Int) (ws : List Str), vs = [.ref a, .ref l] ∧ SqL K H a (ns.map V.int) ∧ H l = some (.lst (ws.map V.str)) ∧ ws.length = 4 ∧ (∀ x ∈ ws, GW x) ∧
  ∀ (d : Addr) (kvs : List (Key × V)) (τ : Told) (H' : Hp), Same H H' → H d = none → H' d = some (.dK kvs) → DkG H' (ws ++ twoS) τ kvs → kvs.length ≤ 5 → Q (.ref d) H'
theorem ok_leaves {k : Nat} {f g1 g2 : Addr} {fd gd1 gd2 : FuncData} (F : Fun K "_law_leaves" "_law_leaves" s_law_leaves f fd) (z_range : mg "range" = none) (G_law_cell_at : FnB P w K mg base k "_law_cell_at" g1 gd1 ["_law_script", "_law_k"] (sp_cell_at K)) (G_law_leaf_by : FnB P w K mg base k "_law_leaf_by" g2 gd2 ["_law_cell", "_law_names"] sp_leaf_by) :
    FnOk P w K mg base CX0 (k + 1) f fd ["_law_script", "_law_words_here"] (sp_leaves K) := by
  refine F.ok sc_law_leaves (fun vs H Q E h => ?_) (fun cdv A outer s H vs Q E hr h => ?_)
  · obtain ⟨a, l, ns, ws, rfl, _⟩ := h
    rfl
  obtain ⟨a, l, ns, ws, rfl, hS, hl, hw, hgw, q⟩ := h
  have hu := hu_of hr
  refine ⟨_, (pss_cons (ps_set (i := 2) sc_law_leaves.nd rfl (Or.inl rfl) (pe_op op_cat (pv 1) (pe_lst (pa_cons pe_str (pa_cons pe_str pa_nil)) : PE _ _ _)))
    (pss_cons (ps_set (i := 3) sc_law_leaves.nd rfl (Or.inl rfl) pe_dnewK)
    (pss_cons (ps_for PassesOwn.never rfl (pi_range1 (by rfl) z_range (pa_cons (pe_op op_mod (pe_call G_law_cell_at.ok hr (by rfl) G_law_cell_at.gl G_law_cell_at.kp G_law_cell_at.bd .nil pass0 (pa_cons (pv 0) (pa_cons pe_int pa_nil))) pe_int) pa_nil)) (pg_name (i := 4) sc_law_leaves.nd rfl (Or.inl rfl)) (pss_cons (ps_set (i := 5) sc_law_leaves.nd rfl (Or.inl rfl) (pe_ix (r := rIxL K) ix_list (pv 2) (pe_op op_mod (pe_op op_fdiv (pe_call G_law_cell_at.ok hr (by rfl) G_law_cell_at.gl G_law_cell_at.kp G_law_cell_at.bd .nil pass0 (pa_cons (pv 0) (pa_cons pe_int pa_nil))) (pe_op op_mul pe_int (pe_op op_add (pv 4) pe_int))) pe_int) (fun _ _ => rfl)))
    (pss_one (ps_dput hu (pv 3) (pv 5) (pe_call G_law_leaf_by.ok hr (by rfl) G_law_leaf_by.gl G_law_leaf_by.kp G_law_leaf_by.bd .nil pass0 (pa_cons (pe_op op_add (pe_op op_fdiv (pe_call G_law_cell_at.ok hr (by rfl) G_law_cell_at.gl G_law_cell_at.kp G_law_cell_at.bd .nil pass0 (pa_cons (pv 0) (pa_cons pe_int pa_nil))) (pe_op op_add (pv 4) pe_int)) (pe_op op_mul (pv 4) (pe_call G_law_cell_at.ok hr (by rfl) G_law_cell_at.gl G_law_cell_at.kp G_law_cell_at.bd .nil pass0 (pa_cons (pv 0) (pa_cons pe_int pa_nil))))) (pa_cons (pv 2) pa_nil))) rfl))))
    (pss_one (ps_ret (pv 3)))))), ?_⟩
  have hlen : (ws.map V.str).length = 4 := by rw [List.length_map, hw]
  refine ⟨_, rfl, (by show 2 ≤ sizeLine; decide), fun p0 hp0 => ?_⟩
  have g0 := same_upd (o := .lst [.str "a", .str "no"]) hp0
  refine ⟨l, p0, _, _, rfl, rfl, g0 _ _ hl, upd_same, line1000 (by rw [hlen]; decide), fun pn hpn => ?_⟩
  have em : ws.map V.str ++ [.str "a", .str "no"] = (ws ++ twoS).map V.str := by rw [List.map_append]; rfl
  rw [em]
  have g1 := same_upd (o := .lst ((ws ++ twoS).map V.str)) hpn
  refine fun d hd => ?_
  have g2 := same_upd (o := .dK []) hd
  have gA := g0.trans (g1.trans g2)
  have hdH : H d = none := (g0.trans g1).free hd
  have l6 : (ws ++ twoS).length = 6 := by rw [List.length_append, hw]; rfl
  have hg6 : ∀ x ∈ ws ++ twoS, GW x := fun x hx => by
    rcases List.mem_append.mp hx with h | h
    · exact hgw x h
    · simp only [twoS, List.mem_cons, List.not_mem_nil, or_false] at h
      rcases h with rfl | rfl
      · exact gw_a
      · exact gw_no
  refine ⟨_, rfl, a, ns, 1, rfl, gA.seq hS, by decide, fun c1 => ⟨_, _, rfl, rfl, (show (0 : Int) < 5 by decide), _, rfl, by omega, by omega, ?_⟩⟩
  refine for_range (n := (c1 % 5).toNat) (fun i σ' H' => ∃ (kvs : List (Key × V)) (τ : Told) (s4 s5 : Option V), σ' = [some (.ref a), some (.ref l), some (.ref pn), some (.ref d), s4, s5] ∧ Same H H' ∧ H' pn = some (.lst ((ws ++ twoS).map V.str)) ∧ H' d = some (.dK kvs) ∧ DkG H' (ws ++ twoS) τ kvs ∧ kvs.length ≤ i) ?_ ?_ ?_
  · exact ⟨[], noT, none, none, rfl, gA, g2 _ _ upd_same, upd_same, .nil, Nat.le_refl _⟩
  · rintro i σ1 H1 hi ⟨kvs, τ, s4, s5, rfl, g3, en3, ed3, D3, hk3⟩
    have hi5 : i < 5 := by omega
    refine ⟨_, rfl, _, rfl, a, ns, 1, rfl, g3.seq hS, by decide, fun c2 => ?_⟩
    have hlm : ((ws ++ twoS).map V.str).length = 6 := by rw [List.length_map, l6]
    obtain ⟨v, hv, ev⟩ := atI_in (xs := (ws ++ twoS).map V.str) (i := c2 / (5 * (0 + (i : Int) + 1)) % 6) (by omega) (by rw [hlm]; omega)
    obtain ⟨x, hx, rfl⟩ := List.mem_map.mp hv
    refine ⟨_, rfl, _, _, rfl, rfl, _, _, rfl, rfl, .inl ⟨by decide, by decide⟩, _, _, rfl, rfl, ⟨(show (0 : Int) < 5 * (0 + (i : Int) + 1) by omega), (show 5 * (0 + (i : Int) + 1) < 1073741824 by omega)⟩, _, _, rfl, rfl, (show (0 : Int) < 6 by decide), pn, _, _, _, rfl, rfl, SqL.of en3, ev, ?_⟩
    refine ⟨_, rfl, a, ns, 2, rfl, g3.seq hS, by decide, fun c3 => ⟨_, rfl, _, _, rfl, rfl, _, _, rfl, rfl, ⟨(show (0 : Int) < 0 + (i : Int) + 1 by omega), (show 0 + (i : Int) + 1 < 1073741824 by omega)⟩, _, rfl, _, rfl, a, ns, 3, rfl, g3.seq hS, by decide, fun c4 => ⟨_, _, rfl, rfl, .inl ⟨(show -(2 ^ 64) < 0 + (i : Int) by omega), (show 0 + (i : Int) < 2 ^ 64 by omega)⟩, _, _, rfl, rfl, _, rfl, _, pn, ws ++ twoS, rfl, en3, l6, hg6, fun at_ v' H2 g4 r4 gd4 nm4 => ?_⟩⟩⟩
    have ed4 := g4 _ _ ed3
    refine ⟨_, rfl, _, rfl, d, _, rfl, DPut.k (k := Sum.inr x) ed4 (small1000 (by omega)), ?_⟩
    have tkd := Tk.dk (o := .dK (putK kvs (Sum.inr x : Key) v')) ed4
    refine ⟨_, setT τ x at_, _, _, rfl, same_set (g3.trans g4) hdH, ?_, upd_same, ((D3.mono g4.tk).put r4 gd4 nm4).mono tkd, Nat.le_trans (len_putK _ _ _) (by omega)⟩
    rw [upd_ne (fun z => by
      rw [z, ed3] at en3
      cases en3)]
    exact g4 _ _ en3
  · rintro σ1 H1 ⟨kvs, τ, s4, s5, rfl, g3, en3, ed3, D3, hk3⟩
    exact ⟨_, rfl, q d kvs τ H1 g3 hdH ed3 D3 (by omega)⟩
def sp_bare_name : Sp := fun vs H Q _ => ∃ (x : Str) (b d : Addr) (bs : List Str) (kvs : List (Key × V)) (τ : Told), vs = [.str x, .ref b, .ref d] ∧ H b = some (.tup (bs.map V.str)) ∧ bs.length ≤ 900 ∧ H d = some (.dK kvs) ∧ Lv H τ kvs ∧ ∀ v H', Same H H' → DR H' (keyDA (keyX τ bs x)) v → Q v H'
theorem ok_bare_name {k : Nat} {f : Addr} {fd : FuncData} (F : Fun K "_law_bare_name" "_law_bare_name" s_law_bare_name f fd) (z_len : mg "len" = none) (z_range : mg "range" = none) : FnOk P w K mg base CX0 (k + 1) f fd ["_law_name", "_law_bound", "_law_leaves_here"] sp_bare_name := by
  refine F.ok sc_law_bare_name (fun vs H Q E h => ?_) (fun cdv A outer s H vs Q E hr h => ?_)
  · obtain ⟨x, b, d, bs, kvs, τ, rfl, _⟩ := h
    rfl
  obtain ⟨x, b, d, bs, kvs, τ, rfl, hb, hz, hd, hv, q⟩ := h
  have hu := hu_of hr
  refine ⟨_, (pss_cons (ps_for PassesOwn.never rfl (pi_range1 (by rfl) z_range (pa_cons (pe_callB call_len_seq (by rfl) z_len PySem.boot_len (pa_cons (pv 1) pa_nil)) pa_nil)) (pg_name (i := 3) sc_law_bare_name.nd rfl (Or.inl rfl)) (pss_one (ps_if (pt_cmpR op_eq (pe_ix (r := rIxT K) ix_tup (pv 1) (pe_op op_sub (pe_op op_sub (pe_callB call_len_seq (by rfl) z_len PySem.boot_len (pa_cons (pv 1) pa_nil)) pe_int) (pv 3)) (fun _ _ => rfl)) (pv 0) (nomark _)) (pss_one (ps_ret (pe_tup (pa_cons pe_str (pa_cons (pv 3) pa_nil)) : PE _ _ _))) pss_nil)))
    (pss_cons (ps_if (pw_and (pt_cmpR (op_inD hu) (pv 0) (pv 2) rfl) (pw_and1 (pt_cmpR op_ne (pe_ix (r := rIxT K) ix_tup (pe_dget hu (pv 2) (pv 0) (fun _ _ => rfl)) pe_int (fun _ _ => rfl)) pe_str (nomark _)))).pt (pss_one (ps_ret (pe_dget hu (pv 2) (pv 0) (fun _ _ => rfl)))) pss_nil)
    (pss_cons (ps_if (pt_cmpR (op_inD hu) (pv 0) (pv 2) rfl) (pss_one (ps_ret (pe_tup (pa_cons pe_str (pa_cons (pe_ix (r := rIxT K) ix_tup (pe_dget hu (pv 2) (pv 0) (fun _ _ => rfl)) pe_int (fun _ _ => rfl)) pa_nil)) : PE _ _ _))) pss_nil)
    (pss_one (ps_ret (pe_tup (pa_cons pe_str (pa_cons (pv 0) pa_nil)) : PE _ _ _)))))), ?_⟩
  have hlen : (bs.map V.str).length = bs.length := List.length_map _
  have d2 : 2 ≤ sizeLine := by decide
  refine ⟨_, rfl, b, _, rfl, .inr (SqT.of hb), _, rfl, by omega, by rw [hlen]; omega, ?_⟩
  rw [hlen, Int.toNat_natCast]
  refine for_range (n := bs.length) (fun i σ' H' => ∃ s2, σ' = [some (.str x), some (.ref b), some (.ref d), s2] ∧ H' = H ∧ ∀ y ∈ bs.reverse.take i, y ≠ x) ?_ ?_ ?_
  · exact ⟨none, rfl, rfl, by simp⟩
  · rintro i σ1 H1 hi ⟨s2, rfl, rfl, hall⟩
    have hr' : bs.reverse[i]? = some (bs[bs.length - 1 - i]'(by omega)) := by
      rw [List.getElem?_reverse hi]
      simp
    generalize bs[bs.length - 1 - i]'(by omega) = y at hr'
    have e : atI (bs.map V.str) (((bs.map V.str).length : Int) - 1 - (0 + (i : Int))) = some (.str y) := by
      have : (((bs.map V.str).length : Int) - 1 - (0 + (i : Int))) = ((bs.length - 1 - i : Nat) : Int) := by rw [hlen]; omega
      rw [this]
      refine atI_nat ?_
      rw [List.getElem?_reverse hi] at hr'
      rw [List.getElem?_map, hr']
      rfl
    refine ⟨_, rfl, _, rfl, b, _, rfl, .inr (SqT.of hb), _, _, rfl, rfl, _, rfl, _, _, rfl, rfl, b, _, _, _, rfl, rfl, SqT.of hb, e, _, rfl, rfl, _, rfl, ?_⟩
    refine ite2 (fun d => ?_) (fun d => ?_)
    · have d' : y = x := V.str.inj (of_decide_eq_true d)
      subst d'
      refine ⟨_, rfl, d2, fun p hp => q _ _ (same_upd hp) ?_⟩
      rw [keyX_at hall hr']
      have e0 : (0 + (i : Int)) = ((i : Nat) : Int) := by omega
      refine .tup upd_same (.cons (.str _) (.cons ?_ .nil))
      rw [e0]
      exact .int _
    · have d' : y ≠ x := fun z => d (by rw [z]; exact decide_eq_true rfl)
      refine ⟨_, rfl, rfl, fun z hz' => ?_⟩
      rw [take_next hr', List.mem_append, List.mem_singleton] at hz'
      rcases hz' with h | h
      · exact hall z h
      · rw [h]; exact d'
  · rintro σ1 H1 ⟨s2, rfl, rfl, hall⟩
    rw [keyX_end hall] at q
    have gd : DGet H1 d (.str x) (valV kvs (Sum.inr x : Key)) := DGet.k (k := Sum.inr x) hd
    refine ⟨_, rfl, _, rfl, d, _, rfl, gd, _, rfl, ?_⟩
    refine ite2 (fun cc => ?_) (fun cc => ?_)
    · obtain ⟨v', ev⟩ := Option.isSome_iff_exists.mp cc
      obtain ⟨a1, e1, r1⟩ := hv.get ev
      have et : tOf τ x = a1 := by unfold tOf; rw [e1]; rfl
      rw [et] at q
      rw [ev] at gd
      cases a1 with
      | name y =>
        obtain ⟨c, rfl, hc⟩ := r1
        refine ⟨_, rfl, _, rfl, d, _, rfl, gd, c, _, 0, _, rfl, rfl, SqT.of hc, rfl, rfl, _, rfl, ite2 (fun c9 => absurd c9 (by decide +kernel)) (fun _ => ?_)⟩
        refine ⟨_, rfl, _, rfl, d, _, rfl, gd, _, rfl, ite2 (fun _ => ?_) (fun c9 => absurd rfl c9)⟩
        refine ⟨_, rfl, _, rfl, d, _, rfl, gd, c, _, 1, _, rfl, rfl, SqT.of hc, rfl, d2, fun p hp => q _ _ (same_upd hp) (.tup upd_same (.cons (.str _) (.cons (.str _) .nil)))⟩
      | num y =>
        obtain ⟨c, rfl, hc⟩ := r1
        refine ⟨_, rfl, _, rfl, d, _, rfl, gd, c, _, 0, _, rfl, rfl, SqT.of hc, rfl, rfl, _, rfl, ite2 (fun _ => ?_) (fun c9 => absurd (by decide +kernel) c9)⟩
        exact ⟨_, rfl, _, rfl, d, _, rfl, gd, q _ _ (.refl _) (.tup hc (.cons (.str _) (.cons (.int _) .nil)))⟩
      | gap y =>
        obtain ⟨c, c2, rfl, hc, hc2⟩ := r1
        refine ⟨_, rfl, _, rfl, d, _, rfl, gd, c, _, 0, _, rfl, rfl, SqT.of hc, rfl, rfl, _, rfl, ite2 (fun _ => ?_) (fun c9 => absurd (by decide +kernel) c9)⟩
        exact ⟨_, rfl, _, rfl, d, _, rfl, gd, q _ _ (.refl _) (.tup hc (.cons (.str _) (.cons (.str _) (.cons (.tup hc2 .nil) .nil))))⟩
    · have ev : valV kvs (Sum.inr x : Key) = none := by
        cases h : valV kvs (Sum.inr x : Key) with
        | none => rfl
        | some _ => rw [h] at cc; exact absurd rfl cc
      have et : tOf τ x = .name x := by unfold tOf; rw [hv.none_ ev]; rfl
      rw [et] at q
      refine iteF ?_
      refine ⟨_, rfl, _, rfl, d, _, rfl, gd, _, rfl, ite2 (fun c2 => absurd c2 cc) (fun _ => ?_)⟩
      exact ⟨_, rfl, d2, fun p hp => q _ _ (same_upd hp) (.tup upd_same (.cons (.str _) (.cons (.str _) .nil)))⟩
def sp_bare (n : Nat) : Sp := fun vs H Q _ => ∃ (t : Tr) (v : V) (b d : Addr) (bs : List Str) (kvs : List (Key × V)) (τ : Told), vs = [v, .ref b, .ref d] ∧ Rep H t v ∧ t.dep ≤ n ∧ H b = some (.tup (bs.map V.str)) ∧ bs.length + t.dep ≤ 900 ∧ H d = some (.dK kvs) ∧ Lv H τ kvs ∧ ∀ v' H', Same H H' → DR H' (bareW τ t bs) v' → Q v' H'
theorem ok_bare {k n : Nat} {f g1 : Addr} {fd gd1 : FuncData} (F : Fun K "_law_bare" "_law_bare" s_law_bare f fd) (z_tuple : mg "tuple" = none) (G_law_bare_name : FnB P w K mg base k "_law_bare_name" g1 gd1 ["_law_name", "_law_bound", "_law_leaves_here"] sp_bare_name)
    (G_law_bare : FnB P w K mg base k "_law_bare" f fd ["_law_tree_here", "_law_bound", "_law_leaves_here"] (sp_bare n)) : FnOk P w K mg base CX0 (k + 1) f fd ["_law_tree_here", "_law_bound", "_law_leaves_here"] (sp_bare (n + 1)) := by
  refine F.ok sc_law_bare (fun vs H Q E h => ?_) (fun cdv A outer s H vs Q E hr h => ?_)
  · obtain ⟨t, v, b, d, bs, kvs, τ, rfl, _⟩ := h
    rfl
  obtain ⟨t, v, b, d, bs, kvs, τ, rfl, hR, hn, hb, hz, hd, hv, q⟩ := h
  refine ⟨_, (Sd.un (pss_consS (ps_ifS ⟨pt_cmpR op_eq (pe_ix (r := rIxT K) ix_tup (pv 0) pe_int (fun _ _ => rfl)) pe_str (nomark _)⟩ (pss_oneS (ps_retS ⟨pe_call G_law_bare_name.ok hr (by rfl) G_law_bare_name.gl G_law_bare_name.kp G_law_bare_name.bd .nil pass0 (pa_cons (pe_ix (r := rIxT K) ix_tup (pv 0) pe_int (fun _ _ => rfl)) (pa_cons (pv 1) (pa_cons (pv 2) pa_nil)))⟩)) ⟨pss_nil⟩)
    (pss_consS (ps_ifS ⟨pt_cmpR op_eq (pe_ix (r := rIxT K) ix_tup (pv 0) pe_int (fun _ _ => rfl)) pe_str (nomark _)⟩ (pss_oneS (ps_retS (pe_tupS (pa_consS ⟨pe_str⟩ (pa_consS (pe_ixS (r := rIxT K) ix_tup ⟨pv 0⟩ ⟨pe_int⟩ (fun _ _ => rfl)) (pa_consS (pe_callTyS call_tuple_of (by rfl) z_tuple PyProof.Rows.boot_tuple (pa_consS ⟨pe_compB ["_law_atom", "_law_bound", "_law_leaves_here"] [none, some 1, some 2] rfl (pi_tup (pe_ix (r := rIxT K) ix_tup (pv 0) pe_int (fun _ _ => rfl))) (fun _ _ _ _ _ => (pg_name (i := 0) (show List.Nodup (["_law_atom", "_law_bound", "_law_leaves_here"] : List Str) by decide +kernel) rfl (Or.inl rfl))) (fun _ _ _ _ _ => pts_nil) (fun _ _ _ _ _ => (pe_call G_law_bare.ok hr (by rfl) G_law_bare.gl G_law_bare.kp G_law_bare.bd .nil pass0 (pa_cons (pv 0) (pa_cons (pv 1) (pa_cons (pv 2) pa_nil))))) rfl⟩ ⟨pa_nil⟩)) ⟨pa_nil⟩)))))) ⟨pss_nil⟩)
    (pss_consS (ps_ifS ⟨pt_cmpR op_eq (pe_ix (r := rIxT K) ix_tup (pv 0) pe_int (fun _ _ => rfl)) pe_str (nomark _)⟩ (pss_oneS (ps_retS (pe_tupS (pa_consS ⟨pe_str⟩ (pa_consS ⟨pe_call G_law_bare.ok hr (by rfl) G_law_bare.gl G_law_bare.kp G_law_bare.bd .nil pass0 (pa_cons (pe_ix (r := rIxT K) ix_tup (pv 0) pe_int (fun _ _ => rfl)) (pa_cons (pv 1) (pa_cons (pv 2) pa_nil)))⟩ (pa_consS ⟨pe_call G_law_bare.ok hr (by rfl) G_law_bare.gl G_law_bare.kp G_law_bare.bd .nil pass0 (pa_cons (pe_ix (r := rIxT K) ix_tup (pv 0) pe_int (fun _ _ => rfl)) (pa_cons (pe_op op_catV (pv 1) (pe_tup (pa_cons (pe_ix (r := rIxT K) ix_tup (pv 0) pe_int (fun _ _ => rfl)) pa_nil) : PE _ _ _)) (pa_cons (pv 2) pa_nil)))⟩ ⟨pa_nil⟩)))))) ⟨pss_nil⟩)
    (pss_consS (ps_ifS ⟨pt_cmpR (r := rIn K false) op_in_seq (pe_ix (r := rIxT K) ix_tup (pv 0) pe_int (fun _ _ => rfl)) (pe_tupR [.str "num", .str "ask", .str "stop"] (by rfl) : PE _ _ _) rfl⟩ (pss_oneS (ps_retS ⟨pv 0⟩)) ⟨pss_nil⟩)
    (pss_oneS (ps_retS ⟨pe_op op_catV (pe_slice sl_tupW (pv 0) po_none (po_some pe_int)) (pe_callTy call_tuple_of (by rfl) z_tuple PyProof.Rows.boot_tuple (pa_cons (pe_compB ["_law_part", "_law_bound", "_law_leaves_here"] [none, some 1, some 2] rfl (pi_tup (pe_slice sl_tupW (pv 0) (po_some pe_int) po_none)) (fun _ _ _ _ _ => (pg_name (i := 0) (show List.Nodup (["_law_part", "_law_bound", "_law_leaves_here"] : List Str) by decide +kernel) rfl (Or.inl rfl))) (fun _ _ _ _ _ => pts_nil) (fun _ _ _ _ _ => (pe_call G_law_bare.ok hr (by rfl) G_law_bare.gl G_law_bare.kp G_law_bare.bd .nil pass0 (pa_cons (pv 0) (pa_cons (pv 1) (pa_cons (pv 2) pa_nil))))) rfl) pa_nil))⟩))))))), ?_⟩
  have d3 : 3 ≤ sizeLine := by decide
  obtain ⟨a, hs, us, rfl, ha, hl, hp⟩ := hR.all
  have h0 : atI (V.str t.kd.s :: hs ++ us) 0 = some (.str t.kd.s) := atI_nat (j := 0) rfl
  refine ⟨_, rfl, a, _, 0, _, rfl, rfl, SqT.of ha, h0, rfl, _, rfl, ?_⟩
  refine ite2 (fun c => ?_) (fun c1 => ?_)
  · have z : t.kd = .name := Kd.eq_iff.mp (of_decide_eq_true c)
    cases t with
    | name x =>
      obtain ⟨a', e, ha'⟩ := hR
      cases e
      exact ⟨_, rfl, a, _, 1, _, rfl, rfl, SqT.of ha', rfl, _, rfl, _, rfl, x, b, d, bs, kvs, τ, rfl, hb, by omega, hd, hv, fun v' H' g r => q v' H' g r⟩
    | bin o a b => cases o <;> cases z
    | _ => cases z
  refine ⟨_, rfl, a, _, 0, _, rfl, rfl, SqT.of ha, h0, rfl, _, rfl, ?_⟩
  refine ite2 (fun c => ?_) (fun c2 => ?_)
  · have z : t.kd = .gap := Kd.eq_iff.mp (of_decide_eq_true c)
    cases t with
    | gap g as =>
      obtain ⟨a', b', ws, e, ha', hb', hz', hp'⟩ := hR
      cases e
      refine ⟨_, rfl, a, _, 1, _, rfl, rfl, SqT.of ha', rfl, _, rfl, a, _, 2, _, rfl, rfl, SqT.of ha', rfl, b', rfl, ⟨_, SqT.of hb'⟩, fun acc hacc => ?_⟩
      refine comp_tupR (xs := ws) (fun i H' => Same H H' ∧ ∃ zs, H' acc = some (.lst zs) ∧ DRs H' ((as.take i).map (bareAW τ bs)) zs) ⟨same_upd hacc, [], upd_same, by rw [List.take_zero]; exact .nil⟩ (fun i H' _ h => SqT.of (h.1 _ _ hb')) ?_ ?_
      · rintro j x Hx hx ⟨gx, zs, ezs, hzs⟩
        obtain ⟨m, em, rm⟩ := paired_get hp' hx
        have hj : j < ws.length := (List.getElem?_eq_some_iff.mp hx).1
        have lz := hzs.length
        have hd1 : m.tr.dep = 1 := by cases m <;> rfl
        have hd2 : (Tr.gap g as).dep = 2 := by
          cases as with
          | nil => cases em
          | cons _ _ => rfl
        refine ⟨.skip (.keep (.keep .nil)), ?_⟩
        refine ⟨_, rfl, _, rfl, _, rfl, m.tr, x, b, d, bs, kvs, τ, rfl, (rm.mono gx.tk).tr, by omega, gx _ _ hb, by omega, gx _ _ hd, hv.mono gx.tk, fun v' H2 g2 dr => ?_⟩
        have kset := Tk.lst (o := .lst (zs ++ [v'])) (g2 _ _ ezs)
        refine ⟨zs, g2 _ _ ezs, small1000 (by rw [← lz, List.length_map, List.length_take]; omega), same_set (gx.trans g2) hacc, _, upd_same, ?_⟩
        rw [take_next em, List.map_append]
        refine ((hzs.mono g2.tk).mono kset).snoc ?_
        rw [bareAW_tr]
        exact dr.mono kset
      · rintro H1 ⟨g1, zs, ezs, hzs⟩
        rw [← hp'.length, List.take_length] at hzs
        refine ⟨acc, _, rfl, .inl ⟨SqL.of ezs, fun p1 hp1 => ⟨d3, fun p2 hp2 => ?_⟩⟩⟩
        have g2 := same_upd (o := .tup zs) hp1
        have g3 := same_upd (o := .tup [.str "gap", .str g, .ref p1]) hp2
        refine q _ _ (g1.trans (g2.trans g3)) (.tup upd_same (.cons (.str _) (.cons (.str _) (.cons (.tup (g3 _ _ upd_same) (hzs.mono (g2.trans g3).tk)) .nil))))
    | bin o a b => cases o <;> cases z
    | _ => cases z
  refine ⟨_, rfl, a, _, 0, _, rfl, rfl, SqT.of ha, h0, rfl, _, rfl, ?_⟩
  refine ite2 (fun c => ?_) (fun c3 => ?_)
  · have z : t.kd = .lett := Kd.eq_iff.mp (of_decide_eq_true c)
    cases t with
    | lett x s t =>
      obtain ⟨a', u1, w1, e, ha', r1, r2⟩ := hR
      cases e
      have hdd : (Tr.lett x s t).dep = max s.dep t.dep + 1 := rfl
      refine ⟨_, rfl, a, _, 2, _, rfl, rfl, SqT.of ha', rfl, _, rfl, _, rfl, s, u1, b, d, bs, kvs, τ, rfl, r1, by omega, hb, by omega, hd, hv, fun v1 H1 g1 dr1 => ?_⟩
      have hb1 := g1 _ _ hb
      have ha1 := g1 _ _ ha'
      refine ⟨_, rfl, a, _, 3, _, rfl, rfl, SqT.of ha1, rfl, _, rfl, _, rfl, a, _, 1, _, rfl, rfl, SqT.of ha1, rfl, (by show 1 ≤ sizeLine; decide), fun p hp' => ?_⟩
      have g2 := same_upd (o := .tup [.str x]) hp'
      refine ⟨b, p, _, [.str x], rfl, rfl, g2 _ _ hb1, upd_same, line1000 (by rw [List.length_map]; show bs.length + 1 ≤ 1000; omega), fun p2 H3 g3 e3 => ?_⟩
      have gA := g1.trans (g2.trans g3)
      refine ⟨_, rfl, t, w1, p2, d, bs ++ [x], kvs, τ, rfl, r2.mono gA.tk, by omega, by rw [e3]; simp, by simp; omega, gA _ _ hd, hv.mono gA.tk, fun v2 H4 g4 dr2 => ⟨d3, fun p3 hp3 => ?_⟩⟩
      have g5 := same_upd (o := .tup [.str "let", v1, v2]) hp3
      exact q _ _ (gA.trans (g4.trans g5)) (.tup upd_same (.cons (.str _) (.cons (dr1.mono (g2.trans (g3.trans (g4.trans g5))).tk) (.cons (dr2.mono g5.tk) .nil))))
    | bin o a b => cases o <;> cases z
    | _ => cases z
  refine ⟨_, rfl, a, _, 0, _, rfl, rfl, SqT.of ha, h0, d3, fun pc hpc => ⟨pc, _, rfl, .inr (SqT.of upd_same), rfl, rfl, _, rfl, ?_⟩⟩
  have gc := same_upd (o := .tup [.str "num", .str "ask", .str "stop"]) hpc
  show if inV (.str t.kd.s) [.str "num", .str "ask", .str "stop"] = true then _ else _
  rw [in3]
  refine ite2 (fun c => ?_) (fun c4 => ?_)
  · refine ⟨_, rfl, q _ _ gc ?_⟩
    have z := of_decide_eq_true c
    cases t with
    | num n => obtain ⟨a', e, h⟩ := hR.mono gc.tk; cases e; exact .tup h (.cons (.str _) (.cons (.int _) .nil))
    | ask n => obtain ⟨a', e, h⟩ := hR.mono gc.tk; cases e; exact .tup h (.cons (.str _) (.cons (.str _) .nil))
    | stop n => obtain ⟨a', e, h⟩ := hR.mono gc.tk; cases e; exact .tup h (.cons (.str _) (.cons (.str _) .nil))
    | bin o a b => exfalso; cases o <;> (rcases z with z | z | z <;> cases z)
    | _ => exfalso; rcases z with z | z | z <;> cases z
  · have n1 : t.kd ≠ .name := fun z => c1 (by rw [z]; exact decide_eq_true rfl)
    have n2 : t.kd ≠ .gap := fun z => c2 (by rw [z]; exact decide_eq_true rfl)
    have n3 : t.kd ≠ .lett := fun z => c3 (by rw [z]; exact decide_eq_true rfl)
    have n4 : ¬ (t.kd = .num ∨ t.kd = .ask ∨ t.kd = .stop) := fun z => c4 (decide_eq_true z)
    have hin : t.inr := ⟨by
      cases hk : t.kd with
      | num => exact absurd (.inl hk) n4
      | ask => exact absurd (.inr (.inl hk)) n4
      | stop => exact absurd (.inr (.inr hk)) n4
      | name => exact absurd hk n1
      | gap => exact absurd hk n2
      | _ => rfl, n3⟩
    obtain ⟨hh, hp1, hp3⟩ := head_in hin
    have hs0 : hs = [] := by
      have : hs.length = 0 := by omega
      exact List.eq_nil_of_length_eq_zero this
    subst hs0
    have lus := hp.length
    have hac := gc _ _ ha
    generalize upd H pc (.tup [.str "num", .str "ask", .str "stop"]) = H1 at gc hac ⊢
    have hac' : H1 a = some (.tup (.str t.sign :: us)) := hac
    obtain ⟨k1, k2, k3, k4⟩ := cut_head (.str t.sign) us (by omega)
    refine ⟨_, rfl, 1, rfl, a, _, rfl, hac', fun p1 H2 g2 e2 => ?_⟩
    rw [k1] at e2
    refine ⟨_, rfl, 1, rfl, a, _, rfl, g2 _ _ hac', fun p2 H3 g3 e3 => ⟨p2, rfl, ⟨_, SqT.of e3⟩, fun acc hacc => ?_⟩⟩
    rw [k2] at e3
    have gA := gc.trans (g2.trans g3)
    have hb3 := gA _ _ hb
    have hp3' : Paired (Rep H3) t.parts us := Paired.mapP hp fun _ _ z => z.mono gA.tk
    refine comp_tupR (xs := us) (fun i H' => Same H3 H' ∧ ∃ zs, H' acc = some (.lst zs) ∧ DRs H' ((t.parts.take i).map fun p => bareW τ p bs) zs) ⟨same_upd hacc, [], upd_same, by rw [List.take_zero]; exact .nil⟩ (fun i H' _ h => SqT.of (h.1 _ _ e3)) ?_ ?_
    · rintro j x Hx hx ⟨gx, zs, ezs, hzs⟩
      obtain ⟨m, em, rm⟩ := paired_get hp3' hx
      have hj : j < us.length := (List.getElem?_eq_some_iff.mp hx).1
      have lz := hzs.length
      have hdp := dep_part (List.mem_of_getElem? em)
      refine ⟨.skip (.keep (.keep .nil)), ?_⟩
      refine ⟨_, rfl, _, rfl, _, rfl, m, x, b, d, bs, kvs, τ, rfl, rm.mono gx.tk, by omega, gx _ _ hb3, by omega, gx _ _ (gA _ _ hd), (hv.mono gA.tk).mono gx.tk, fun v' H4 g4 dr => ?_⟩
      have kset := Tk.lst (o := .lst (zs ++ [v'])) (g4 _ _ ezs)
      refine ⟨zs, g4 _ _ ezs, small1000 (by rw [← lz, List.length_map, List.length_take]; omega), same_set (gx.trans g4) hacc, _, upd_same, ?_⟩
      rw [take_next em, List.map_append]
      exact ((hzs.mono g4.tk).mono kset).snoc (dr.mono kset)
    · rintro H4 ⟨g4, zs, ezs, hzs⟩
      rw [← lus, List.take_length] at hzs
      have lz := hzs.length
      rw [List.length_map] at lz
      refine ⟨acc, _, rfl, .inl ⟨SqL.of ezs, fun p4 hp4 => ?_⟩⟩
      have g5 := same_upd (o := .tup zs) hp4
      refine ⟨p1, p4, _, zs, rfl, rfl, g5 _ _ (g4 _ _ (g3 _ _ e2)), upd_same, line1000 (by simp; omega), fun r H5 g6 e6 => ?_⟩
      refine q _ _ (gA.trans (g4.trans (g5.trans g6))) ?_
      rw [bareW_in hin]
      exact .tup e6 (.cons (.str _) (hzs.mono (g5.trans g6).tk))
theorem none_bare {k : Nat} {f : Addr} {fd : FuncData} : FnOk P w K mg base CX0 k f fd ["_law_tree_here", "_law_bound", "_law_leaves_here"] (sp_bare 0) := by
  have no : ∀ vs H Q E, ¬ sp_bare 0 vs H Q E := fun vs H Q E h => by
    obtain ⟨t, v, b, d, bs, kvs, τ, _, _, h1, _⟩ := h
    have := dep_pos t
    omega
  exact ⟨fun vs H Q E h => absurd h (no vs H Q E), fun A outer s H args us vs Q E _ _ _ _ h => absurd h (no vs H Q E)⟩
theorem all_bare {k : Nat} {f g1 : Addr} {fd gd1 : FuncData} (F : Fun K "_law_bare" "_law_bare" s_law_bare f fd) (b : Binds K fd ["_law_tree_here", "_law_bound", "_law_leaves_here"] []) (m : mg "_law_bare" = some (.ref f)) (z_tuple : mg "tuple" = none)
    (G : FnB P w K mg base k "_law_bare_name" g1 gd1 ["_law_name", "_law_bound", "_law_leaves_here"] sp_bare_name) : ∀ n : Nat, FnB P w K mg base (k + n) "_law_bare" f fd ["_law_tree_here", "_law_bound", "_law_leaves_here"] (sp_bare n)
  | 0 => ⟨none_bare, b, F.kp, m⟩
  | n + 1 => ⟨ok_bare F z_tuple (G.up (Nat.le_add_right _ _)) (all_bare F b m z_tuple G n), b, F.kp, m⟩
end
end K05
set_option Elab.async false
set_option linter.all false
set_option maxRecDepth 100000
set_option maxHeartbeats 4000000
namespace L2
open PySem
theorem ab_dict {ks : List (Option Expr)} {vs : List Expr} {p : Pos} {m : Str} {env : Env} {w : Sem Value} : attributeBase (.Dict ks vs p) m env w = w := rfl
section
variable {X : Cx} {pos apos cpos : Pos} {o e f k v : Expr} {ks : List (Option Expr)} {vs : List Expr} {td ty tx tk tv : TE} {trs : List (TE × TE)}
theorem pps_nilS : Sd (PPs X pos [] [] []) := ⟨pps_nil⟩
theorem pps_consS (hk : Sd (PE X k tk)) (hv : Sd (PE X v tv)) (hr : Sd (PPs X pos ks vs trs)) : Sd (PPs X pos (some k :: ks) (v :: vs) ((tk, tv) :: trs)) := ⟨pps_cons hk.un hv.un hr.un⟩
theorem pe_dispS (h : Sd (PPs X pos ks vs trs)) (hall : ks.all (·.isSome) = true) (hl : ks.length = vs.length) (h0 : ks ≠ []) (h15 : ks.length ≤ 15) : Sd (PE X (.Dict ks vs pos) (tDisp trs)) := ⟨pe_disp h.un hall hl h0 h15⟩
theorem pe_dget2S (hu : X.A.units + 1 < cLine) (ho : Sd (PE X o td)) (he : Sd (PE X e ty)) (hf : Sd (PE X f tx)) (m : M2 X o "get" apos e f cpos) : Sd (PE X (.Call (.Attribute o "get" apos) [e, f] [] cpos) (tDGet2 td ty tx)) := ⟨pe_dget2 hu ho.un he.un hf.un m⟩
end
theorem abc_occ : ∀ c, 97 ≤ c → c ≤ 122 → (Builtin.Str.occurrences "abcdefghijklmnopqrstuvwxyz" ⟨#[c]⟩ 0 (Str.ofString "abcdefghijklmnopqrstuvwxyz").length 1).isEmpty = false := by
  have h : ∀ i < 26, (Builtin.Str.occurrences "abcdefghijklmnopqrstuvwxyz" ⟨#[97 + i]⟩ 0 (Str.ofString "abcdefghijklmnopqrstuvwxyz").length 1).isEmpty = false := by decide +kernel
  intro c h1 h2
  have := h (c - 97) (by omega)
  rwa [show 97 + (c - 97) = c by omega] at this
def many : Kd → Nat
  | .num => 2 | .name => 2 | .ask => 2 | .stop => 2 | .say => 2 | .gap => 3 | .ite => 4 | .lett => 4
  | _ => 3
def manyKV : List (Key × V) := [(.inr "num", .int 2), (.inr "name", .int 2), (.inr "ask", .int 2), (.inr "stop", .int 2), (.inr "say", .int 2), (.inr "gap", .int 3), (.inr "if", .int 4), (.inr "let", .int 4)]
theorem many_get (k : Kd) : (valV (mergeK [] manyKV) (Sum.inr k.s : Key)).getD (.int 3) = .int ((many k : Nat) : Int) := by cases k <;> decide +kernel
theorem many_len (t : Tr) : t.head + t.parts.length = many t.kd := by
  cases t with
  | bin o a b => cases o <;> rfl
  | _ => rfl
theorem in5 (k : Kd) : inV (.str k.s) [.str "name", .str "ask", .str "stop", .str "let", .str "gap"] = decide (k = .name ∨ k = .ask ∨ k = .stop ∨ k = .lett ∨ k = .gap) := by cases k <;> decide +kernel
def insT : Tr → List Tr
  | .gap _ as => as.map Atom.tr
  | t => t.parts
theorem ins_dep {t p : Tr} (h : p ∈ insT t) : p.dep + 1 ≤ t.dep := by
  cases t with
  | gap g as =>
    obtain ⟨a, ha, rfl⟩ := List.mem_map.mp h
    cases as with
    | nil => cases ha
    | cons b bs => cases a <;> simp [Atom.tr, Tr.dep]
  | say a => exact dep_part h
  | bin o a b => exact dep_part h
  | ite a b c => exact dep_part h
  | lett x a b => exact dep_part h
  | _ => cases h
theorem ins_good {t p : Tr} (g : t.good GW) (h : p ∈ insT t) : p.good GW := by
  cases t with
  | gap g' as =>
    obtain ⟨a, ha, rfl⟩ := List.mem_map.mp h
    exact Atom.good_tr (g.2.2 a ha)
  | say a => simp [insT, Tr.parts] at h; subst h; exact g
  | bin o a b => simp [insT, Tr.parts] at h; rcases h with rfl | rfl; exact g.1; exact g.2
  | ite a b c => simp [insT, Tr.parts] at h; rcases h with rfl | rfl | rfl; exact g.1; exact g.2.1; exact g.2.2
  | lett x a b => simp [insT, Tr.parts] at h; rcases h with rfl | rfl; exact g.2.1; exact g.2.2
  | _ => cases h
def Five (k : Kd) : Prop := k = .name ∨ k = .ask ∨ k = .stop ∨ k = .lett ∨ k = .gap
theorem atoms_tr {H : Hp} : ∀ {as : List Atom} {us : List V}, Paired (AtRep H) as us → Paired (Rep H) (as.map Atom.tr) us
  | _, _, .nil => .nil
  | _, _, .cons r t => .cons r.tr (atoms_tr t)
theorem rep5 {H : Hp} {t : Tr} {v : V} (hR : Rep H t v) (hg : t.good GW) (h5 : Five t.kd) : ∃ a x rest, v = .ref a ∧ H a = some (.tup (.str t.kd.s :: .str x :: rest)) ∧ GW x ∧
    ((t.kd ≠ .gap ∧ Paired (Rep H) (insT t) rest) ∨ (t.kd = .gap ∧ ∃ b us, rest = [.ref b] ∧ H b = some (.tup us) ∧ Paired (Rep H) (insT t) us)) := by
  cases t with
  | name x => obtain ⟨a, e, ha⟩ := hR; exact ⟨a, x, [], e, ha, hg, .inl ⟨nofun, .nil⟩⟩
  | ask x => obtain ⟨a, e, ha⟩ := hR; exact ⟨a, x, [], e, ha, hg, .inl ⟨nofun, .nil⟩⟩
  | stop x => obtain ⟨a, e, ha⟩ := hR; exact ⟨a, x, [], e, ha, hg, .inl ⟨nofun, .nil⟩⟩
  | lett x s t => obtain ⟨a, u, w, e, ha, r, r'⟩ := hR; exact ⟨a, x, [u, w], e, ha, hg.1, .inl ⟨nofun, .cons r (.cons r' .nil)⟩⟩
  | gap g as => obtain ⟨a, b, us, e, ha, hb, _, p⟩ := hR; exact ⟨a, g, [.ref b], e, ha, hg.1, .inr ⟨rfl, b, us, rfl, hb, atoms_tr p⟩⟩
  | bin o a b => exfalso; cases o <;> (rcases h5 with h | h | h | h | h <;> cases h)
  | _ => exfalso; rcases h5 with h | h | h | h | h <;> cases h
theorem rep0 {H : Hp} {t : Tr} {v : V} (hR : Rep H t v) (h5 : ¬ Five t.kd) (hn : t.kd ≠ .num) : t.kd ≠ .gap ∧ ∃ a us, v = .ref a ∧ H a = some (.tup (.str t.kd.s :: us)) ∧ 1 ≤ us.length ∧ Paired (Rep H) (insT t) us := by
  cases t with
  | num n => exact absurd rfl hn
  | say s => obtain ⟨a, u, e, ha, r⟩ := hR; exact ⟨nofun, a, [u], e, ha, by simp, .cons r .nil⟩
  | bin o s t => obtain ⟨a, u, w, e, ha, r, r'⟩ := hR; exact ⟨by cases o <;> nofun, a, [u, w], e, by show _ = some (HO.tup [V.str o.kd.s, u, w]); rw [Bin.kd_s]; exact ha, by simp, .cons r (.cons r' .nil)⟩
  | ite s t u => obtain ⟨a, u1, u2, u3, e, ha, r1, r2, r3⟩ := hR; exact ⟨nofun, a, [u1, u2, u3], e, ha, by simp, .cons r1 (.cons r2 (.cons r3 .nil))⟩
  | name x => exact absurd (.inl rfl) h5
  | ask x => exact absurd (.inr (.inl rfl)) h5
  | stop x => exact absurd (.inr (.inr (.inl rfl))) h5
  | lett x s t => exact absurd (.inr (.inr (.inr (.inl rfl)))) h5
  | gap g as => exact absurd (.inr (.inr (.inr (.inr rfl)))) h5
theorem cut1 (v : V) (us : List V) : cutV (v :: us) (some 1) none = us := by
  have e1 : HT.sIx (v :: us).length 0 (some ((1 : Nat) : Int)) = 1 := by rw [HT.sIx_nat]; simp
  have e1' : HT.sIx (v :: us).length 0 (some (1 : Int)) = 1 := e1
  unfold cutV
  rw [HT.sIx_none, e1']
  simp
theorem cut2 (v w : V) (us : List V) : cutV (v :: w :: us) (some 2) none = us := by
  have e1 : HT.sIx (v :: w :: us).length 0 (some ((2 : Nat) : Int)) = 2 := by rw [HT.sIx_nat]; simp
  have e1' : HT.sIx (v :: w :: us).length 0 (some (2 : Int)) = 2 := e1
  unfold cutV
  rw [HT.sIx_none, e1']
  simp
theorem nowhole1 (v : V) (us : List V) (n : Nat) : ¬ (HT.sIx (v :: us).length 0 (some (1 : Int)) = 0 ∧ n = n) := by
  have e1 : HT.sIx (v :: us).length 0 (some ((1 : Nat) : Int)) = 1 := by rw [HT.sIx_nat]; simp
  have e1' : HT.sIx (v :: us).length 0 (some (1 : Int)) = 1 := e1
  rw [e1']
  simp
theorem nowhole2 (v w : V) (us : List V) : ¬ HT.sIx (v :: w :: us).length 0 (some (2 : Int)) = 0 := by
  have e1 : HT.sIx (v :: w :: us).length 0 (some ((2 : Nat) : Int)) = 2 := by rw [HT.sIx_nat]; simp
  have e1' : HT.sIx (v :: w :: us).length 0 (some (2 : Int)) = 2 := e1
  rw [e1']
  simp
end L2
namespace K05
open PySem PySem.Spec L2 PyProof.Rows
abbrev s_law_word_good : Stmt := top 33
theorem sc_law_word_good : FnScope ["_law_word_here"] ["_law_word_here"] (defScope s_law_word_good) := ⟨rfl, rfl, rfl, by decide +kernel, rfl, by decide +kernel, by decide +kernel⟩
section
variable {P : Program} {w : World} {K : PySem.W.Frag} {mg : Str → Option Value} {base : Heap}
def sp_word_good : Sp := fun vs H Q _ => ∃ x : Str, vs = [.str x] ∧ GW x ∧ ∀ H', Same H H' → Q (.bl true) H'
theorem ok_word_good {k : Nat} {f : Addr} {fd : FuncData} (F : Fun K "_law_word_good" "_law_word_good" s_law_word_good f fd) (z_isinstance : mg "isinstance" = none) (z_str : mg "str" = none) (z_len : mg "len" = none) : FnOk P w K mg base CX0 (k + 1) f fd ["_law_word_here"] sp_word_good := by
  refine F.ok sc_law_word_good (fun vs H Q E h => ?_) (fun cdv A outer s H vs Q E hr h => ?_)
  · obtain ⟨x, rfl, _⟩ := h
    rfl
  obtain ⟨x, rfl, gx, q⟩ := h
  have hu0 := Nat.lt_of_succ_lt (hu_of hr)
  refine ⟨_, (pss_cons (ps_if (pw_or (pt_not (pt_val (pe_callB call_isi (by rfl) z_isinstance PyProof.Rows.boot_isinstance (pa_cons (pv 0) (pa_cons (pe_bltn (v := .ty _) (by rfl) z_str PyProof.Rows.boot_str (by rfl)) pa_nil))))) (pw_or (pt_cmpR op_lt (pe_callB call_len_str (by rfl) z_len PySem.boot_len (pa_cons (pv 0) pa_nil)) pe_int (nomark _)) (pw_or1 (pt_cmpR op_gt (pe_callB call_len_str (by rfl) z_len PySem.boot_len (pa_cons (pv 0) pa_nil)) pe_int (nomark _))))).pt (pss_one (ps_ret pe_bl)) pss_nil)
    (pss_cons (ps_if (pt_cmpR (r := rIn K false) op_in_seq (pv 0) (pe_tupR [.str "let", .str "in", .str "if", .str "then", .str "else", .str "say", .str "ask", .str "stop", .str "where", .str "quiet", .str "number"] (by rfl) : PE _ _ _) rfl) (pss_one (ps_ret pe_bl)) pss_nil)
    (pss_one (ps_ret (pe_cmpR (op_eqLE hu0) (pe_compB ["_law_sign"] [none] rfl (pi_str (pv 0)) (fun _ _ _ _ _ => (pg_name (i := 0) (show List.Nodup (["_law_sign"] : List Str) by decide +kernel) rfl (Or.inl rfl))) (fun _ _ _ _ _ => (pts_one (pt_cmpR op_notin_str (pv 0) pe_str rfl))) (fun _ _ _ _ _ => (pv 0)) rfl) (pe_lst pa_nil : PE _ _ _) (nomark _)))))), ?_⟩
  have lx := gx.lo
  have hx := gx.hi
  refine ⟨_, rfl, .str x, "str", _, true, rfl, .str x, rfl, _, rfl, iteF ?_⟩
  refine ⟨_, rfl, x, rfl, line1000 (by omega), _, _, rfl, rfl, _, rfl, ite2 (fun c => ?_) (fun _ => ?_)⟩
  · have : (x.length : Int) < 1 := of_decide_eq_true c
    omega
  refine ⟨_, rfl, x, rfl, line1000 (by omega), _, _, rfl, rfl, _, rfl, ite2 (fun c => ?_) (fun _ => ?_)⟩
  · have : (8 : Int) < (x.length : Int) := of_decide_eq_true c
    omega
  refine ⟨_, rfl, (by show 11 ≤ sizeLine; decide), fun p hp => ⟨p, _, rfl, .inr (SqT.of upd_same), rfl, rfl, _, rfl, ite2 (fun hin => absurd (kept_in hin) gx.kp) (fun _ => ?_)⟩⟩
  have g1 := same_upd (o := .tup [.str "let", .str "in", .str "if", .str "then", .str "else", .str "say", .str "ask", .str "stop", .str "where", .str "quiet", .str "number"]) hp
  generalize upd H p (.tup [.str "let", .str "in", .str "if", .str "then", .str "else", .str "say", .str "ask", .str "stop", .str "where", .str "quiet", .str "number"]) = H1 at g1 ⊢
  refine ⟨_, rfl, x, rfl, fun acc hacc => ?_⟩
  refine comp_strR (x := x) (fun i H' => Same H1 H' ∧ H' acc = some (.lst [])) ⟨same_upd hacc, upd_same⟩ ?_ ?_
  · rintro i c H2 hc ⟨g2, e2⟩
    have hcm := gx.ab c (by
      have := List.mem_of_getElem? (l := x.cps.toList) (i := i) (a := c) (by rw [Array.getElem?_toList]; exact hc)
      exact this)
    refine ⟨.skip .nil, ?_⟩
    refine ⟨_, rfl, _, _, rfl, rfl, _, rfl, ?_⟩
    rw [abc_occ c hcm.1 hcm.2]
    exact iteF ⟨g2, e2⟩
  · rintro H2 ⟨g2, e2⟩
    refine ⟨(by show 0 ≤ sizeLine; decide), fun p2 hp2 => ?_⟩
    have g3 := same_upd (o := .lst []) hp2
    exact ⟨acc, p2, _, rfl, rfl, g3 _ _ e2, upd_same, q _ (g1.trans (g2.trans g3))⟩
end
end K05
set_option Elab.async false
set_option linter.all false
set_option maxRecDepth 100000
set_option maxHeartbeats 4000000
namespace K05
open PySem PySem.Spec L2 PyProof.Rows
abbrev s_law_tree_good : Stmt := top 34
theorem sc_law_tree_good : FnScope ["_law_found", "_law_many", "_law_inner", "_law_part"] ["_law_found"] (defScope s_law_tree_good) := ⟨rfl, rfl, rfl, by decide +kernel, rfl, by decide +kernel, by decide +kernel⟩
section
variable {P : Program} {w : World} {K : PySem.W.Frag} {mg : Str → Option Value} {base : Heap}
def sp_tgood (n : Nat) : Sp := fun vs H Q _ => ∃ (t : Tr) (v : V), vs = [v] ∧ Rep H t v ∧ t.dep ≤ n ∧ t.good GW ∧ ∀ H', Same H H' → Q (.bl true) H'
theorem ok_tgood {k n : Nat} {f g1 : Addr} {fd gd1 : FuncData} (F : Fun K "_law_tree_good" "_law_tree_good" s_law_tree_good f fd) (z_isinstance : mg "isinstance" = none) (z_str : mg "str" = none) (z_len : mg "len" = none) (z_tuple : mg "tuple" = none) (z_int : mg "int" = none) (z_bool : mg "bool" = none)
    (G_law_word_good : FnB P w K mg base k "_law_word_good" g1 gd1 ["_law_word_here"] sp_word_good) (G_law_tree_good : FnB P w K mg base k "_law_tree_good" f fd ["_law_found"] (sp_tgood n)) : FnOk P w K mg base CX0 (k + 1) f fd ["_law_found"] (sp_tgood (n + 1)) := by
  refine F.ok sc_law_tree_good (fun vs H Q E h => ?_) (fun cdv A outer s H vs Q E hr h => ?_)
  · obtain ⟨t, v, rfl, _⟩ := h
    rfl
  obtain ⟨t, v, rfl, hR, hn, hg, q⟩ := h
  have hu := hu_of hr
  refine ⟨_, (Sd.un (pss_consS (ps_ifS ⟨(pw_or (pt_not (pt_val (pe_callB call_isi (by rfl) z_isinstance PyProof.Rows.boot_isinstance (pa_cons (pv 0) (pa_cons (pe_bltn (v := .ty _) (by rfl) z_tuple PyProof.Rows.boot_tuple (by rfl)) pa_nil))))) (pw_or (pt_cmpR op_lt (pe_callB call_len_seq (by rfl) z_len PySem.boot_len (pa_cons (pv 0) pa_nil)) pe_int (nomark _)) (pw_or1 (pt_not (pt_val (pe_callB call_isi (by rfl) z_isinstance PyProof.Rows.boot_isinstance (pa_cons (pe_ix (r := rIxT K) ix_tup (pv 0) pe_int (fun _ _ => rfl)) (pa_cons (pe_bltn (v := .ty _) (by rfl) z_str PyProof.Rows.boot_str (by rfl)) pa_nil)))))))).pt⟩ (pss_oneS (ps_retS ⟨pe_bl⟩)) ⟨pss_nil⟩)
    (pss_consS (ps_setS (i := 1) sc_law_tree_good.nd rfl (Or.inl rfl) (pe_dget2S hu (pe_dispS (pps_consS ⟨pe_str⟩ ⟨pe_int⟩ (pps_consS ⟨pe_str⟩ ⟨pe_int⟩ (pps_consS ⟨pe_str⟩ ⟨pe_int⟩ (pps_consS ⟨pe_str⟩ ⟨pe_int⟩ (pps_consS ⟨pe_str⟩ ⟨pe_int⟩ (pps_consS ⟨pe_str⟩ ⟨pe_int⟩ (pps_consS ⟨pe_str⟩ ⟨pe_int⟩ (pps_consS ⟨pe_str⟩ ⟨pe_int⟩ pps_nilS)))))))) rfl rfl (by simp) (by decide)) (pe_ixS (r := rIxT K) ix_tup ⟨pv 0⟩ ⟨pe_int⟩ (fun _ _ => rfl)) ⟨pe_int⟩ ⟨ab_dict, rfl, rfl, rfl⟩))
    (pss_consS (ps_ifS ⟨pt_cmpR op_ne (pe_callB call_len_seq (by rfl) z_len PySem.boot_len (pa_cons (pv 0) pa_nil)) (pv 1) (nomark _)⟩ (pss_oneS (ps_retS ⟨pe_bl⟩)) ⟨pss_nil⟩)
    (pss_consS (ps_ifS ⟨pt_cmpR op_eq (pe_ix (r := rIxT K) ix_tup (pv 0) pe_int (fun _ _ => rfl)) pe_str (nomark _)⟩ (pss_oneS (ps_retS ⟨pe_and (pe_callB call_isi (by rfl) z_isinstance PyProof.Rows.boot_isinstance (pa_cons (pe_ix (r := rIxT K) ix_tup (pv 0) pe_int (fun _ _ => rfl)) (pa_cons (pe_bltn (v := .ty _) (by rfl) z_int PyProof.Rows.boot_int (by rfl)) pa_nil))) (pe_one (pe_not (pe_callB call_isi (by rfl) z_isinstance PyProof.Rows.boot_isinstance (pa_cons (pe_ix (r := rIxT K) ix_tup (pv 0) pe_int (fun _ _ => rfl)) (pa_cons (pe_bltn (v := .ty _) (by rfl) z_bool PyProof.Rows.boot_bool (by rfl)) pa_nil)))))⟩)) ⟨pss_nil⟩)
    (pss_consS (ps_setS (i := 2) sc_law_tree_good.nd rfl (Or.inl rfl) ⟨pe_slice sl_tupV (pv 0) (po_some pe_int) po_none⟩)
    (pss_consS (ps_ifS ⟨pt_cmpR (r := rIn K false) op_in_seq (pe_ix (r := rIxT K) ix_tup (pv 0) pe_int (fun _ _ => rfl)) (pe_tupR [.str "name", .str "ask", .str "stop", .str "let", .str "gap"] (by rfl) : PE _ _ _) rfl⟩ (pss_consS (ps_ifS ⟨pt_not (pt_val (pe_call G_law_word_good.ok hr (by rfl) G_law_word_good.gl G_law_word_good.kp G_law_word_good.bd .nil pass0 (pa_cons (pe_ix (r := rIxT K) ix_tup (pv 0) pe_int (fun _ _ => rfl)) pa_nil)))⟩ (pss_oneS (ps_retS ⟨pe_bl⟩)) ⟨pss_nil⟩)
    (pss_oneS (ps_setS (i := 2) sc_law_tree_good.nd rfl (Or.inl rfl) ⟨pe_slice sl_tupV (pv 0) (po_some pe_int) po_none⟩))) ⟨pss_nil⟩)
    (pss_consS (ps_ifS ⟨pt_cmpR op_eq (pe_ix (r := rIxT K) ix_tup (pv 0) pe_int (fun _ _ => rfl)) pe_str (nomark _)⟩ (pss_consS (ps_ifS ⟨pt_not (pt_val (pe_callB call_isi (by rfl) z_isinstance PyProof.Rows.boot_isinstance (pa_cons (pe_ix (r := rIxT K) ix_tup (pv 0) pe_int (fun _ _ => rfl)) (pa_cons (pe_bltn (v := .ty _) (by rfl) z_tuple PyProof.Rows.boot_tuple (by rfl)) pa_nil))))⟩ (pss_oneS (ps_retS ⟨pe_bl⟩)) ⟨pss_nil⟩)
    (pss_oneS (ps_setS (i := 2) sc_law_tree_good.nd rfl (Or.inl rfl) (pe_ixS (r := rIxT K) ix_tup ⟨pv 0⟩ ⟨pe_int⟩ (fun _ _ => rfl))))) ⟨pss_nil⟩)
    (pss_consS ⟨ps_for PassesOwn.never rfl (pi_tup (pv 2)) (pg_name (i := 3) sc_law_tree_good.nd rfl (Or.inl rfl)) (pss_one (ps_if (pt_not (pt_val (pe_call G_law_tree_good.ok hr (by rfl) G_law_tree_good.gl G_law_tree_good.kp G_law_tree_good.bd .nil pass0 (pa_cons (pv 3) pa_nil)))) (pss_one (ps_ret pe_bl)) pss_nil))⟩
    (pss_oneS (ps_retS ⟨pe_bl⟩))))))))))), ?_⟩
  obtain ⟨a, hs, us, rfl, ha, hl, hp⟩ := id hR.all
  have h0 : atI (V.str t.kd.s :: hs ++ us) 0 = some (.str t.kd.s) := atI_nat (j := 0) rfl
  have lus := paired_len hp
  have hlen : (V.str t.sign :: hs ++ us).length = many t.kd := by
    rw [← many_len t, List.length_append, List.length_cons]
    omega
  have hm2 : 2 ≤ many t.kd := by cases t.kd <;> decide
  have hm4 : many t.kd ≤ 4 := by cases t.kd <;> decide
  refine ⟨_, rfl, .ref a, "tuple", _, true, rfl, .tup ha, rfl, _, rfl, iteF ?_⟩
  refine ⟨_, rfl, a, _, rfl, .inr (SqT.of ha), _, _, rfl, rfl, _, rfl, ite2 (fun c => ?_) (fun _ => ?_)⟩
  · have : ((V.str t.sign :: hs ++ us).length : Int) < 2 := of_decide_eq_true c
    rw [hlen] at this
    omega
  refine ⟨_, rfl, a, _, 0, _, rfl, rfl, SqT.of ha, h0, .str t.kd.s, "str", _, true, rfl, .str _, rfl, _, rfl, iteF ?_⟩
  refine fun pd hpd => ⟨upd_same, manyKV, rfl, by decide, ?_⟩
  have e0 : upd (upd H pd (.dK [])) pd (.dK (mergeK [] manyKV)) = upd H pd (.dK (mergeK [] manyKV)) := upd_upd
  rw [e0]
  have g1 := same_upd (o := .dK (mergeK [] manyKV)) hpd
  have ha1 := g1 _ _ ha
  refine ⟨pd, rfl, .inl ⟨_, .inl upd_same⟩, _, rfl, a, _, 0, _, rfl, rfl, SqT.of ha1, h0, _, DGet.k (k := Sum.inr t.kd.s) upd_same, ?_⟩
  rw [many_get]
  generalize upd H pd (.dK (mergeK [] manyKV)) = H1 at g1 ha1 ⊢
  refine ⟨_, rfl, a, _, rfl, .inr (SqT.of ha1), _, rfl, rfl, _, rfl, ite2 (fun c => ?_) (fun _ => ?_)⟩
  · rw [hlen] at c
    simp at c
  refine ⟨_, rfl, a, _, 0, _, rfl, rfl, SqT.of ha1, h0, rfl, _, rfl, ite2 (fun c => ?_) (fun cn => ?_)⟩
  · have z : t.kd = .num := Kd.eq_iff.mp (of_decide_eq_true c)
    cases t with
    | num i =>
      obtain ⟨a', e, ha'⟩ := hR.mono g1.tk
      cases e
      refine ⟨_, rfl, a, _, 1, _, rfl, rfl, SqT.of ha', rfl, .int i, "int", _, true, rfl, .int i, rfl, _, rfl, ?_⟩
      refine iteT ⟨_, rfl, a, _, 1, _, rfl, rfl, SqT.of ha', rfl, .int i, "bool", _, false, rfl, .int i, rfl, _, rfl, q _ g1⟩
    | bin o a b => cases o <;> cases z
    | _ => cases z
  have nnum : t.kd ≠ .num := fun z => cn (decide_eq_true (Kd.eq_iff.mpr z))
  have r1 := hR.mono g1.tk
  refine ⟨_, rfl, 1, rfl, a, _, rfl, ha1, (fun z => nowhole1 _ _ 0 ⟨z.1, rfl⟩), fun p1 H2 g2 e2 => ?_⟩
  have e2' : H2 p1 = some (.tup (hs ++ us)) := by rw [e2]; exact congrArg (fun x => some (HO.tup x)) (cut1 _ _)
  have ga2 := g1.trans g2
  have ha2 := g2 _ _ ha1
  have r2 := r1.mono g2.tk
  apply viaS (fun σ' H' => ∃ (pI : Addr) (inn : List V), σ' = [some (.ref a), some (.int ((many t.kd : Nat) : Int)), some (.ref pI), none] ∧ Same H H' ∧ Rep H' t (.ref a) ∧ H' pI = some (.tup inn) ∧ (t.kd ≠ .gap → Paired (Rep H') (insT t) inn))
  · intro rest
    refine ⟨_, rfl, a, _, 0, _, rfl, rfl, SqT.of ha2, h0, (by show 5 ≤ sizeLine; decide), fun pc hpc => ⟨pc, _, rfl, .inr (SqT.of upd_same), rfl, rfl, _, rfl, ?_⟩⟩
    have gc := same_upd (o := .tup [.str "name", .str "ask", .str "stop", .str "let", .str "gap"]) hpc
    show if inV (.str t.kd.s) [.str "name", .str "ask", .str "stop", .str "let", .str "gap"] = true then _ else _
    rw [in5]
    have ga3 := ga2.trans gc
    have r3 := r2.mono gc.tk
    have ep3 := gc _ _ e2'
    have ha3 := gc _ _ ha2
    generalize upd H2 pc (.tup [.str "name", .str "ask", .str "stop", .str "let", .str "gap"]) = H3 at ga3 r3 ep3 ha3 ⊢
    refine ite2 (fun c5 => ?_) (fun c5 => ?_)
    · have h5 : Five t.kd := (show (t.kd = .name ∨ t.kd = .ask ∨ t.kd = .stop ∨ t.kd = .lett ∨ t.kd = .gap) from of_decide_eq_true c5)
      obtain ⟨a', x, rst, e, h3, gx, hh⟩ := rep5 r3 hg h5
      cases e
      refine ⟨_, rfl, a, _, 1, _, rfl, rfl, SqT.of h3, atI_nat (j := 1) rfl, x, rfl, gx, fun H4 g4 => ⟨_, rfl, iteF ?_⟩⟩
      have h4 := g4 _ _ h3
      refine ⟨_, rfl, 2, rfl, a, _, rfl, h4, (fun z => nowhole2 _ _ _ z.1), fun p5 H5 g5 e5 => ?_⟩
      rw [cut2] at e5
      refine rest _ _ ⟨p5, rst, rfl, ga3.trans (g4.trans g5), r3.mono (g4.trans g5).tk, e5, fun ng => ?_⟩
      rcases hh with ⟨_, p⟩ | ⟨z, _⟩
      · exact Paired.mapP p fun _ _ z => z.mono (g4.trans g5).tk
      · exact absurd z ng
    · have h5 : ¬ Five t.kd := fun z => c5 (decide_eq_true (show (t.kd = .name ∨ t.kd = .ask ∨ t.kd = .stop ∨ t.kd = .lett ∨ t.kd = .gap) from z))
      obtain ⟨ng, a', us', e, h3, _, hp3⟩ := rep0 r3 h5 nnum
      cases e
      refine rest _ _ ⟨p1, hs ++ us, rfl, ga3, r3, ep3, fun _ => ?_⟩
      have : hs ++ us = us' := by
        have hA : H3 a = some (.tup (.str t.sign :: hs ++ us)) := ha3
        rw [hA] at h3
        injection h3 with h3
        injection h3 with h3
        injection h3
      rw [this]
      exact hp3
  · rintro σ' H5 ⟨pI, inn, rfl, g5, r5, e5, hin5⟩
    apply viaS (fun σ' H' => ∃ (pI : Addr) (inn : List V), σ' = [some (.ref a), some (.int ((many t.kd : Nat) : Int)), some (.ref pI), none] ∧ Same H H' ∧ H' pI = some (.tup inn) ∧ Paired (Rep H') (insT t) inn)
    · intro rest
      obtain ⟨a5, hs5, us5, ee, ha5, _, _⟩ := r5.all
      cases ee
      refine ⟨_, rfl, a, _, 0, _, rfl, rfl, SqT.of ha5, atI_nat (j := 0) rfl, rfl, _, rfl, ite2 (fun c => ?_) (fun c => ?_)⟩
      · have z : t.kd = .gap := Kd.eq_iff.mp (of_decide_eq_true c)
        obtain ⟨a', x, rst, e, h6, gx, hh⟩ := rep5 r5 hg (.inr (.inr (.inr (.inr z))))
        cases e
        rcases hh with ⟨n, _⟩ | ⟨_, b, us6, rfl, hb, p6⟩
        · exact absurd z n
        · exact ⟨_, rfl, a, _, 2, _, rfl, rfl, SqT.of h6, rfl, .ref b, "tuple", _, true, rfl, .tup hb, rfl, _, rfl, iteF ⟨_, rfl, a, _, 2, _, rfl, rfl, SqT.of h6, rfl, rest _ _ ⟨b, us6, rfl, g5, hb, p6⟩⟩⟩
      · exact rest _ _ ⟨pI, inn, rfl, g5, e5, hin5 fun z => c (decide_eq_true (Kd.eq_iff.mpr z))⟩
    · rintro σ' H6 ⟨pI, inn, rfl, g6, e6, p6⟩
      refine ⟨_, rfl, pI, rfl, ⟨inn, SqT.of e6⟩, ?_⟩
      refine for_tup (xs := inn) (fun i σ' H' => ∃ s3, σ' = [some (.ref a), some (.int ((many t.kd : Nat) : Int)), some (.ref pI), s3] ∧ Same H6 H') ⟨none, rfl, .refl _⟩ ?_ ?_ ?_
      · rintro i σ1 H7 _ ⟨s3, rfl, g7⟩
        exact SqT.of (g7 _ _ e6)
      · rintro i x σ1 H7 hx ⟨s3, rfl, g7⟩
        obtain ⟨p, ep, rp⟩ := paired_get p6 hx
        have pm := List.mem_of_getElem? ep
        have hd := ins_dep pm
        exact ⟨_, rfl, p, x, rfl, rp.mono g7.tk, by omega, ins_good hg pm, fun H8 g8 => ⟨_, rfl, iteF ⟨_, rfl, g7.trans g8⟩⟩⟩
      · rintro σ1 H7 ⟨s3, rfl, g7⟩
        exact q _ (g6.trans g7)
theorem none_tgood {k : Nat} {f : Addr} {fd : FuncData} : FnOk P w K mg base CX0 k f fd ["_law_found"] (sp_tgood 0) := by
  have no : ∀ vs H Q E, ¬ sp_tgood 0 vs H Q E := fun vs H Q E h => by
    obtain ⟨t, v, _, _, h1, _⟩ := h
    have := dep_pos t
    omega
  exact ⟨fun vs H Q E h => absurd h (no vs H Q E), fun A outer s H args us vs Q E _ _ _ _ h => absurd h (no vs H Q E)⟩
theorem all_tgood {k : Nat} {f g1 : Addr} {fd gd1 : FuncData} (F : Fun K "_law_tree_good" "_law_tree_good" s_law_tree_good f fd) (b : Binds K fd ["_law_found"] []) (m : mg "_law_tree_good" = some (.ref f)) (z_isinstance : mg "isinstance" = none) (z_str : mg "str" = none) (z_len : mg "len" = none) (z_tuple : mg "tuple" = none) (z_int : mg "int" = none) (z_bool : mg "bool" = none)
    (G : FnB P w K mg base k "_law_word_good" g1 gd1 ["_law_word_here"] sp_word_good) : ∀ n : Nat, FnB P w K mg base (k + n) "_law_tree_good" f fd ["_law_found"] (sp_tgood n)
  | 0 => ⟨none_tgood, b, F.kp, m⟩
  | n + 1 => ⟨ok_tgood F z_isinstance z_str z_len z_tuple z_int z_bool (G.up (Nat.le_add_right _ _)) (all_tgood F b m z_isinstance z_str z_len z_tuple z_int z_bool G n), b, F.kp, m⟩
end
end K05
set_option Elab.async false
set_option linter.all false
set_option maxRecDepth 100000
set_option maxHeartbeats 4000000
namespace L2
open PySem
theorem gw_one : ∀ c, 97 ≤ c → c ≤ 122 → GW ⟨#[c]⟩ ∧ GW (("a" : Str) ++ (⟨#[c]⟩ : Str)) := by
  have h : ∀ i < 26, GW ⟨#[97 + i]⟩ ∧ GW (("a" : Str) ++ (⟨#[97 + i]⟩ : Str)) := by decide +kernel
  intro c h1 h2
  have := h (c - 97) (by omega)
  rwa [show 97 + (c - 97) = c by omega] at this
theorem gw_zz : GW "zz" := by decide +kernel
def abcL : Str := "abcdefghijklmnopqrstuvwxyz"
theorem abcL_len : abcL.length = 26 := by decide +kernel
theorem abcL_ab : ∀ c ∈ abcL.cps.toList, 97 ≤ c ∧ c ≤ 122 := by decide +kernel
theorem abcL_sl : ∀ i < 27, (∀ c ∈ (Txt.slice abcL none (some ((i : Nat) : Int))).cps.toList, 97 ≤ c ∧ c ≤ 122) ∧ (Txt.slice abcL none (some ((i : Nat) : Int))).cps.size ≤ 26 := by decide +kernel
end L2
namespace K05
open PySem PySem.Spec L2 PyProof.Rows
abbrev s_law_crowded : Stmt := top 35
theorem sc_law_crowded : FnScope ["_law_cell", "_law_letters", "_law_own", "_law_body", "_law_name"] ["_law_cell"] (defScope s_law_crowded) := ⟨rfl, rfl, rfl, by decide +kernel, rfl, by decide +kernel, by decide +kernel⟩
section
variable {P : Program} {w : World} {K : PySem.W.Frag} {mg : Str → Option Value} {base : Heap}
def sp_crowded : Sp := fun vs H Q _ => ∃ c : Int, vs = [.int c] ∧ ∀ (p d : Addr) (u : V) (kvs : List (Key × V)) (τ : Told) (t : Tr) (W : List Str) (H' : Hp), Same H H' → H' p = some (.tup [u, .ref d]) → Rep H' t u → H d = none → H' d = some (.dK kvs) → DkG H' W τ kvs → kvs.length ≤ 5 → t.good GW → (∀ x ∈ t.wrds, x ∈ W) → W.length ≤ 60 → t.size ≤ 200 → t.dp ≤ 60 → Q (.ref p) H'
theorem ok_crowded {k : Nat} {f : Addr} {fd : FuncData} (F : Fun K "_law_crowded" "_law_crowded" s_law_crowded f fd) (z_list : mg "list" = none) : FnOk P w K mg base CX0 (k + 1) f fd ["_law_cell"] sp_crowded := by
  refine F.ok sc_law_crowded (fun vs H Q E h => ?_) (fun cdv A outer s H vs Q E hr h => ?_)
  · obtain ⟨c, rfl, _⟩ := h
    rfl
  obtain ⟨c, rfl, q⟩ := h
  refine ⟨_, (Sd.un (pss_consS (ps_setS (i := 1) sc_law_crowded.nd rfl (Or.inl rfl) ⟨pe_str⟩)
    (pss_consS (ps_setS (i := 2) sc_law_crowded.nd rfl (Or.inl rfl) ⟨pe_ix ix_str (pv 1) (pe_op op_mod (pv 0) pe_int) (fun _ _ => rfl)⟩)
    (pss_consS (ps_setS (i := 3) sc_law_crowded.nd rfl (Or.inl rfl) (pe_tupS (pa_consS ⟨pe_str⟩ (pa_consS ⟨pe_str⟩ ⟨pa_nil⟩))))
    (pss_consS ⟨ps_for PassesOwn.never rfl (pi_list (pe_op op_cat (pe_callTy (call_listS rfl) (by rfl) z_list PyProof.Rows.boot_list (pa_cons (pv 1) pa_nil)) (pe_compB ["_law_letter"] [none] rfl (pi_str (pe_slice sl_str (pv 1) po_none (po_some (pe_op op_mod (pe_op op_fdiv (pv 0) pe_int) pe_int)))) (fun _ _ _ _ _ => (pg_name (i := 0) (show List.Nodup (["_law_letter"] : List Str) by decide +kernel) rfl (Or.inl rfl))) (fun _ _ _ _ _ => pts_nil) (fun _ _ _ _ _ => (pe_op op_add_str pe_str (pv 0))) rfl))) (pg_name (i := 4) sc_law_crowded.nd rfl (Or.inl rfl)) (pss_one (ps_set (i := 3) sc_law_crowded.nd rfl (Or.inl rfl) (pe_tup (pa_cons pe_str (pa_cons (pv 3) (pa_cons (pe_tup (pa_cons pe_str (pa_cons (pv 4) pa_nil)) : PE _ _ _) pa_nil))) : PE _ _ _)))⟩
    (pss_oneS (ps_retS (pe_tupS (pa_consS (pe_tupS (pa_consS ⟨pe_str⟩ (pa_consS ⟨pv 2⟩ (pa_consS (pe_tupS (pa_consS ⟨pe_str⟩ (pa_consS ⟨pv 2⟩ ⟨pa_nil⟩))) (pa_consS ⟨pv 3⟩ ⟨pa_nil⟩))))) (pa_consS (pe_dispS (pps_consS ⟨pe_str⟩ (pe_tupS (pa_consS ⟨pe_str⟩ (pa_consS ⟨pv 2⟩ ⟨pa_nil⟩))) (pps_consS ⟨pe_str⟩ (pe_tupS (pa_consS ⟨pe_str⟩ (pa_consS ⟨pe_op op_mod (pe_op op_fdiv (pv 0) pe_int) (pe_op op_pow pe_int pe_int)⟩ ⟨pa_nil⟩))) pps_nilS)) rfl rfl (by simp) (by decide)) ⟨pa_nil⟩)))))))))), ?_⟩
  have d2 : 2 ≤ sizeLine := by decide
  have d3 : 3 ≤ sizeLine := by decide
  have d4 : 4 ≤ sizeLine := by decide
  have hl26 : ((abcL.cps.toList).length : Int) = 26 := by
    rw [Array.length_toList]
    exact_mod_cast abcL_len
  obtain ⟨oc, hoc, eoc⟩ := atI_in (xs := abcL.cps.toList) (i := c % 26) (by omega) (by omega)
  have gown := gw_one oc (abcL_ab oc hoc).1 (abcL_ab oc hoc).2
  refine ⟨_, rfl, _, rfl, _, _, rfl, rfl, (show (0 : Int) < 26 by decide), abcL, _, _, rfl, rfl, line1000 (by rw [abcL_len]; decide), eoc, ?_⟩
  refine ⟨d2, fun p0 hp0 => ?_⟩
  have g0 := same_upd (o := .tup [.str "name", .str "zz"]) hp0
  have ez : (upd H p0 (.tup [.str "name", .str "zz"])) p0 = some (.tup [.str "name", .str "zz"]) := upd_same
  generalize upd H p0 (.tup [.str "name", .str "zz"]) = H1 at g0 ez ⊢
  obtain ⟨i, hi, ei⟩ : ∃ i : Nat, i < 27 ∧ c / 26 % 27 = (i : Int) := ⟨(c / 26 % 27).toNat, by omega, by omega⟩
  obtain ⟨hsab, hssz⟩ := abcL_sl i hi
  refine ⟨_, rfl, abcL, rfl, line1000 (by show abcL.length ≤ 1000; rw [abcL_len]; decide), fun l1 hl1 => ?_⟩
  have g1 := same_upd (o := .lst ((signsS abcL).map V.str)) hl1
  refine ⟨_, rfl, _, rfl, _, _, rfl, rfl, ⟨(show (0 : Int) < 26 by decide), (show (26 : Int) < 1073741824 by decide)⟩, _, _, rfl, rfl, (show (0 : Int) < 27 by decide), (i : Int), (by show V.int _ = _; rw [ei]), abcL, rfl, line1000 (by rw [abcL_len]; decide), fun hle => ⟨_, rfl, fun acc hacc => ?_⟩⟩
  have e1 : (upd H1 l1 (.lst ((signsS abcL).map V.str))) l1 = some (.lst ((signsS abcL).map V.str)) := upd_same
  have lab : (signsS abcL).length = 26 := by unfold signsS; rw [List.length_map, Array.length_toList]; exact abcL_len
  have gab : ∀ x ∈ signsS abcL, GW x := fun x hx => by
    obtain ⟨cc, hcc, rfl⟩ := List.mem_map.mp hx
    exact (gw_one cc (abcL_ab cc hcc).1 (abcL_ab cc hcc).2).1
  have own_in : (⟨#[oc]⟩ : Str) ∈ signsS abcL := List.mem_map.mpr ⟨oc, hoc, rfl⟩
  generalize upd H1 l1 (.lst ((signsS abcL).map V.str)) = H2 at g1 e1 hacc ⊢
  generalize Txt.slice abcL none (some ((i : Nat) : Int)) = SL at hsab hssz ⊢
  refine comp_strR (x := SL) (fun j H' => Same H2 H' ∧ ∃ ys : List Str, H' acc = some (.lst (ys.map V.str)) ∧ ys.length = j ∧ ∀ y ∈ ys, GW y) ⟨same_upd hacc, [], upd_same, rfl, by simp⟩ ?_ ?_
  · rintro j cc H3 hcc ⟨g3, ys, e3, l3, gy3⟩
    have hcm := hsab cc (List.mem_of_getElem? (i := j) (by rw [Array.getElem?_toList]; exact hcc))
    have hj : j < SL.cps.size := (Array.getElem?_eq_some_iff.mp hcc).1
    refine ⟨.skip .nil, ?_⟩
    refine ⟨_, rfl, _, _, rfl, rfl, line1000 (by show 1 + 1 ≤ 1000; decide), ys.map V.str, e3, small1000 (by rw [List.length_map]; omega), same_set g3 hacc, ys ++ [("a" : Str) ++ (⟨#[cc]⟩ : Str)], ?_, by rw [List.length_append, l3]; rfl, fun y hy => ?_⟩
    · rw [upd_same, List.map_append]; rfl
    · rcases List.mem_append.mp hy with h | h
      · exact gy3 y h
      · rw [List.mem_singleton.mp h]; exact (gw_one cc hcm.1 hcm.2).2
  · rintro H3 ⟨g3, ys, e3, l3, gy3⟩
    have ly : ys.length ≤ 26 := by omega
    refine ⟨l1, acc, _, _, rfl, rfl, g3 _ _ e1, e3, line1000 (by rw [List.length_map, List.length_map]; omega), fun pn hpn => ⟨pn, rfl, ⟨_, SqL.of upd_same⟩, ?_⟩⟩
    have em : (signsS abcL).map V.str ++ ys.map V.str = (signsS abcL ++ ys).map V.str := by rw [List.map_append]
    rw [em]
    have g4 := same_upd (o := .lst ((signsS abcL ++ ys).map V.str)) hpn
    have en : (upd H3 pn (.lst ((signsS abcL ++ ys).map V.str))) pn = some (.lst ((signsS abcL ++ ys).map V.str)) := upd_same
    have gz := g1.trans (g3.trans g4)
    generalize upd H3 pn (.lst ((signsS abcL ++ ys).map V.str)) = H4 at g4 en gz ⊢
    obtain ⟨ns, hns⟩ : ∃ ns, ns = signsS abcL ++ ys := ⟨_, rfl⟩
    rw [← hns] at en
    have lns : ns.length ≤ 52 := by rw [hns, List.length_append]; omega
    have gns : ∀ x ∈ ns, GW x := fun x hx => by
      rw [hns] at hx
      rcases List.mem_append.mp hx with h | h
      · exact gab x h
      · exact gy3 x h
    have own_ns : (⟨#[oc]⟩ : Str) ∈ ns := by rw [hns]; exact List.mem_append.mpr (.inl own_in)
    refine for_list (xs := ns.map V.str) (fun j σ' H' => ∃ (u : V) (t : Tr) (s4 : Option V), σ' = [some (.int c), some (.str abcL), some (.str ⟨#[oc]⟩), some u, s4] ∧ Same H4 H' ∧ Rep H' t u ∧ GT (("zz" : Str) :: ns) t ∧ t.size = 2 * j + 1 ∧ t.dp ≤ j + 2) ?_ ?_ ?_ ?_
    · exact ⟨_, .name "zz", none, rfl, .refl _, ⟨p0, rfl, gz _ _ ez⟩, .name (by simp) gw_zz, rfl, Nat.le_refl _⟩
    · rintro j σ1 H5 _ ⟨u, t, s4, rfl, g5, _⟩
      exact SqL.of (g5 _ _ en)
    · rintro j x σ1 H5 hx ⟨u, t, s4, rfl, g5, r5, gt5, sz5, dp5⟩
      rw [List.getElem?_map] at hx
      obtain ⟨y, hy, rfl⟩ := Option.map_eq_some_iff.mp hx
      have hym := List.mem_of_getElem? hy
      refine ⟨_, rfl, _, rfl, d2, fun p1 hp1 => ⟨d3, fun p2 hp2 => ?_⟩⟩
      have h1 := same_upd (o := .tup [.str "name", .str y]) hp1
      have h2 := same_upd (o := .tup [.str "add", u, .ref p1]) hp2
      refine ⟨_, .bin .add t (.name y), _, rfl, g5.trans (h1.trans h2), ⟨p2, u, .ref p1, rfl, upd_same, r5.mono (h1.trans h2).tk, p1, rfl, h2 _ _ upd_same⟩, .bin gt5 (.name (List.mem_cons_of_mem _ hym) (gns y hym)), ?_, ?_⟩
      · show t.size + 1 + 1 = _; omega
      · show max t.dp 2 + 1 ≤ _; omega
    · rintro σ1 H5 ⟨u, t, s4, rfl, g5, r5, gt5, sz5, dp5⟩
      rw [List.length_map] at sz5 dp5
      refine ⟨_, rfl, _, rfl, d2, fun p1 hp1 => ⟨_, rfl, d4, fun p2 hp2 => ?_⟩⟩
      have h1 := same_upd (o := .tup [.str "name", .str ⟨#[oc]⟩]) hp1
      have h2 := same_upd (o := .tup [.str "let", .str ⟨#[oc]⟩, .ref p1, u]) hp2
      refine fun pd hpd => ?_
      have h3 := same_upd (o := .dK []) hpd
      refine ⟨_, rfl, d2, fun p3 hp3 => ?_⟩
      have h4 := same_upd (o := .tup [.str "name", .str ⟨#[oc]⟩]) hp3
      refine ⟨_, rfl, _, _, rfl, rfl, ⟨(show (0 : Int) < 1000 by decide), (show (1000 : Int) < 1073741824 by decide)⟩, _, _, rfl, rfl, ⟨by decide, by decide, by decide⟩, _, _, rfl, rfl, (show (0 : Int) < 10 ^ 30 by decide), d2, fun p4 hp4 => ?_⟩
      have h5 := same_upd (o := .tup [.str "num", .int (c / 1000 % 10 ^ 30)]) hp4
      have ed := (h4.trans h5) _ _ (upd_same (H := _) (a := pd) (o := .dK []))
      refine ⟨ed, [(Sum.inr "zz", .ref p3), (Sum.inr "b", .ref p4)], rfl, (by show 2 ≤ 15; decide), d2, fun p5 hp5 => ?_⟩
      have tkd := Tk.dk (o := .dK (mergeK [] [((Sum.inr "zz" : Key), V.ref p3), (Sum.inr "b", .ref p4)])) ed
      have h6 := same_upd (o := .tup [.ref p2, .ref pd]) hp5
      have kAll := h1.tk.trans (h2.tk.trans (h3.tk.trans (h4.tk.trans (h5.tk.trans (tkd.trans h6.tk)))))
      have sH : Same H H5 := g0.trans (gz.trans g5)
      have hpdH : H pd = none := (sH.trans (h1.trans h2)).free hpd
      have e3' := tkd _ _ ((h5 _ _ (upd_same (a := p3) (o := HO.tup [.str "name", .str ⟨#[oc]⟩]))))
      have e4' := tkd _ _ (upd_same (a := p4) (o := HO.tup [.str "num", .int (c / 1000 % 10 ^ 30)]))
      refine q p5 pd (.ref p2) (mergeK [] [((Sum.inr "zz" : Key), V.ref p3), (Sum.inr "b", .ref p4)]) (setT (setT noT "zz" (.name ⟨#[oc]⟩)) "b" (.num (c / 1000 % 10 ^ 30))) (.lett ⟨#[oc]⟩ (.name ⟨#[oc]⟩) t) (("zz" : Str) :: ns) _ ?_ upd_same ?_ hpdH ?_ ?_ ?_ ⟨gown.1, gown.1, gt5.1⟩ ?_ ?_ ?_ ?_
      · refine Same.trans ?_ h6
        refine same_set (sH.trans (h1.trans (h2.trans (h3.trans (h4.trans h5))))) hpdH
      · exact ⟨p2, .ref p1, u, rfl, h6 _ _ (tkd _ _ (h5 _ _ (h4 _ _ (h3 _ _ upd_same)))), ⟨p1, rfl, h6 _ _ (tkd _ _ (h5 _ _ (h4 _ _ (h3 _ _ (h2 _ _ upd_same)))))⟩, r5.mono kAll⟩
      · exact h6 _ _ upd_same
      · have a3 : AtRep (upd (upd (upd (upd (upd (upd (upd H5 p1 (.tup [.str "name", .str ⟨#[oc]⟩])) p2 (.tup [.str "let", .str ⟨#[oc]⟩, .ref p1, u])) pd (.dK [])) p3 (.tup [.str "name", .str ⟨#[oc]⟩])) p4 (.tup [.str "num", .int (c / 1000 % 10 ^ 30)])) pd (.dK (mergeK [] [((Sum.inr "zz" : Key), V.ref p3), (Sum.inr "b", .ref p4)]))) p5 (.tup [.ref p2, .ref pd])) (.name ⟨#[oc]⟩) (.ref p3) := ⟨p3, rfl, h6 _ _ e3'⟩
        have a4 : AtRep (upd (upd (upd (upd (upd (upd (upd H5 p1 (.tup [.str "name", .str ⟨#[oc]⟩])) p2 (.tup [.str "let", .str ⟨#[oc]⟩, .ref p1, u])) pd (.dK [])) p3 (.tup [.str "name", .str ⟨#[oc]⟩])) p4 (.tup [.str "num", .int (c / 1000 % 10 ^ 30)])) pd (.dK (mergeK [] [((Sum.inr "zz" : Key), V.ref p3), (Sum.inr "b", .ref p4)]))) p5 (.tup [.ref p2, .ref pd])) (.num (c / 1000 % 10 ^ 30)) (.ref p4) := ⟨p4, rfl, h6 _ _ e4'⟩
        exact ((DkG.nil (W := ("zz" : Str) :: ns)).put (n := "zz") a3 gown.1 (fun y e => by cases e; exact List.mem_cons_of_mem _ own_ns)).put (n := "b") a4 trivial (fun y e => nomatch e)
      · have h0 := len_putK [] (Sum.inr "zz" : Key) (.ref p3)
        have h9 := len_putK (putK [] (Sum.inr "zz" : Key) (.ref p3)) (Sum.inr "b" : Key) (.ref p4)
        show (putK (putK [] (Sum.inr "zz" : Key) (.ref p3)) (Sum.inr "b" : Key) (.ref p4)).length ≤ 5
        rw [List.length_nil] at h0
        omega
      · intro x hx
        rcases List.mem_cons.mp (show x ∈ (⟨#[oc]⟩ : Str) :: ([⟨#[oc]⟩] ++ t.wrds) from hx) with h | h
        · rw [h]; exact List.mem_cons_of_mem _ own_ns
        · rcases List.mem_append.mp h with h | h
          · rw [List.mem_singleton.mp h]; exact List.mem_cons_of_mem _ own_ns
          · exact gt5.2 x h
      · rw [List.length_cons]; omega
      · show 1 + t.size + 1 ≤ 200; omega
      · show max 2 t.dp + 1 ≤ 60; omega
end
end K05
set_option Elab.async false
set_option linter.all false
set_option maxRecDepth 100000
set_option maxHeartbeats 4000000
namespace L2
open PySem
theorem keyDA_tup (k : Nat ⊕ Atom) : ∃ ds, keyDA k = .tup ds := by
  rcases k with k | a
  · exact ⟨_, rfl⟩
  · cases a <;> exact ⟨_, rfl⟩
theorem bareW_tup (L : Told) (t : Tr) (bs : List Str) : ∃ ds, bareW L t bs = .tup ds := by
  cases t with
  | name x => exact keyDA_tup _
  | _ => exact ⟨_, rfl⟩
structure TDk (H : Hp) (t : Tr) (u : V) (d : Addr) (kvs : List (Key × V)) (τ : Told) (W : List Str) : Prop where
  rp : Rep H t u
  dk : H d = some (.dK kvs)
  dg : DkG H W τ kvs
  kl : kvs.length ≤ 6
  gd : t.good GW
  wr : ∀ x ∈ t.wrds, x ∈ W
  wl : W.length ≤ 60
  sz : t.size ≤ 200
  dp : t.dp ≤ 60
theorem TDk.mono {H H' : Hp} {t : Tr} {u : V} {d : Addr} {kvs : List (Key × V)} {τ : Told} {W : List Str} (h : TDk H t u d kvs τ W) (g : Same H H') : TDk H' t u d kvs τ W :=
  ⟨h.rp.mono g.tk, g _ _ h.dk, h.dg.mono g.tk, h.kl, h.gd, h.wr, h.wl, h.sz, h.dp⟩
end L2
namespace K05
open PySem PySem.Spec L2 PyProof.Rows
abbrev s_law : Stmt := top 36
theorem sc_law : FnScope ["_law_script", "_law_words_here", "_law_tree_here", "_law_leaves_here", "_law_handed", "_law_found", "_law_due", "_law_other"] ["_law_script"] (defScope s_law) := ⟨rfl, rfl, rfl, by decide +kernel, rfl, by decide +kernel, by decide +kernel⟩
section
variable {P : Program} {w : World} {K : PySem.W.Frag} {mg : Str → Option Value} {base : Heap}
def sp_law (K : PySem.W.Frag) : Sp := fun vs H Q _ => ∃ (a : Addr) (ns : List Int), vs = [.ref a] ∧ SqL K H a (ns.map V.int) ∧ ns.length ≤ 63 ∧ ∀ H', Q (.bl true) H'
theorem ok_law {k : Nat} {f g1 g2 g3 g4 g5 g6 g7 g8 : Addr} {fd gd1 gd2 gd3 gd4 gd5 gd6 gd7 gd8 : FuncData} (F : Fun K "law" "law" s_law f fd) (z_dict : mg "dict" = none)
    (G_law_words : FnB P w K mg base k "_law_words" g1 gd1 ["_law_cell"] sp_words) (G_law_cell_at : FnB P w K mg base k "_law_cell_at" g2 gd2 ["_law_script", "_law_k"] (sp_cell_at K))
    (G_law_tree : FnB P w K mg base k "_law_tree" g3 gd3 ["_law_cells", "_law_words_here", "_law_deep"] (sp_tree K 13)) (G_law_leaves : FnB P w K mg base k "_law_leaves" g4 gd4 ["_law_script", "_law_words_here"] (sp_leaves K))
    (G_law_crowded : FnB P w K mg base k "_law_crowded" g5 gd5 ["_law_cell"] sp_crowded) (G_renamed : FnB P w K mg base k "renamed" g6 gd6 ["tree", "leaves"] sp_renamed)
    (G_law_tree_good : FnB P w K mg base k "_law_tree_good" g7 gd7 ["_law_found"] (sp_tgood 60)) (G_law_bare : FnB P w K mg base k "_law_bare" g8 gd8 ["_law_tree_here", "_law_bound", "_law_leaves_here"] (sp_bare 60)) :
    FnOk P w K mg base CX0 (k + 1) f fd ["_law_script"] (sp_law K) := by
  refine F.ok sc_law (fun vs H Q E h => ?_) (fun cdv A outer s H vs Q E hr h => ?_)
  · obtain ⟨a, ns, rfl, _⟩ := h
    rfl
  obtain ⟨a, ns, rfl, hS, h63, q⟩ := h
  have hu := hu_of hr
  have hu0 := Nat.lt_of_succ_lt hu
  have hu5 := hu150 hr
  refine ⟨_, (Sd.un (pss_consS (ps_setS (i := 1) sc_law.nd rfl (Or.inl rfl) ⟨pe_call G_law_words.ok hr (by rfl) G_law_words.gl G_law_words.kp G_law_words.bd .nil pass0 (pa_cons (pe_call G_law_cell_at.ok hr (by rfl) G_law_cell_at.gl G_law_cell_at.kp G_law_cell_at.bd .nil pass0 (pa_cons (pv 0) (pa_cons pe_int pa_nil))) pa_nil)⟩)
    (pss_consS (ps_setS (i := 2) sc_law.nd rfl (Or.inl rfl) ⟨pe_call G_law_tree.ok hr (by rfl) G_law_tree.gl G_law_tree.kp G_law_tree.bd .nil pass0 (pa_cons (pe_slice (r := rSlL K) sl_list (pv 0) (po_some pe_int) (po_some pe_int)) (pa_cons (pv 1) (pa_cons pe_int pa_nil)))⟩)
    (pss_consS (ps_setS (i := 3) sc_law.nd rfl (Or.inl rfl) ⟨pe_call G_law_leaves.ok hr (by rfl) G_law_leaves.gl G_law_leaves.kp G_law_leaves.bd .nil pass0 (pa_cons (pv 0) (pa_cons (pv 1) pa_nil))⟩)
    (pss_consS (ps_ifS ⟨pt_cmpR op_eq (pe_op op_mod (pe_call G_law_cell_at.ok hr (by rfl) G_law_cell_at.gl G_law_cell_at.kp G_law_cell_at.bd .nil pass0 (pa_cons (pv 0) (pa_cons pe_int pa_nil))) pe_int) pe_int (nomark _)⟩ (pss_oneS ⟨ps_asg (pe_call G_law_crowded.ok hr (by rfl) G_law_crowded.gl G_law_crowded.kp G_law_crowded.bd .nil pass0 (pa_cons (pe_op op_fdiv (pe_call G_law_cell_at.ok hr (by rfl) G_law_cell_at.gl G_law_cell_at.kp G_law_cell_at.bd .nil pass0 (pa_cons (pv 0) (pa_cons pe_int pa_nil))) pe_int) pa_nil)) (pg_tup rfl (pgs_cons (pg_name (i := 2) sc_law.nd rfl (Or.inl rfl)) (pgs_cons (pg_name (i := 3) sc_law.nd rfl (Or.inl rfl)) pgs_nil)))⟩) ⟨pss_nil⟩)
    (pss_consS (ps_ifS ⟨pt_cmpR op_eq (pe_op op_mod (pe_call G_law_cell_at.ok hr (by rfl) G_law_cell_at.gl G_law_cell_at.kp G_law_cell_at.bd .nil pass0 (pa_cons (pv 0) (pa_cons pe_int pa_nil))) pe_int) pe_int (nomark _)⟩ (pss_oneS (ps_setS (i := 3) sc_law.nd rfl (Or.inl rfl) ⟨pe_dnewK⟩)) ⟨pss_nil⟩)
    (pss_consS (ps_setS (i := 4) sc_law.nd rfl (Or.inl rfl) (pe_callTyS call_dictD (by rfl) z_dict PyProof.Rows.boot_dict (pa_consS ⟨pv 3⟩ ⟨pa_nil⟩)))
    (pss_consS (ps_setS (i := 5) sc_law.nd rfl (Or.inl rfl) ⟨pe_call G_renamed.ok hr (by rfl) G_renamed.gl G_renamed.kp G_renamed.bd .nil pass0 (pa_cons (pv 2) (pa_cons (pv 4) pa_nil))⟩)
    (pss_consS (ps_ifS ⟨(pw_or (pt_cmpR (op_neC hu0) (pv 4) (pv 3) (nomark _)) (pw_or1 (pt_not (pt_val (pe_call G_law_tree_good.ok hr (by rfl) G_law_tree_good.gl G_law_tree_good.kp G_law_tree_good.bd .nil pass0 (pa_cons (pv 5) pa_nil)))))).pt⟩ (pss_oneS (ps_retS ⟨pe_bl⟩)) ⟨pss_nil⟩)
    (pss_consS (ps_setS (i := 6) sc_law.nd rfl (Or.inl rfl) ⟨pe_call G_law_bare.ok hr (by rfl) G_law_bare.gl G_law_bare.kp G_law_bare.bd .nil pass0 (pa_cons (pv 2) (pa_cons (pe_tup pa_nil : PE _ _ _) (pa_cons (pv 3) pa_nil)))⟩)
    (pss_consS (ps_ifS ⟨pt_cmpR (op_neD hu5) (pe_call G_law_bare.ok hr (by rfl) G_law_bare.gl G_law_bare.kp G_law_bare.bd .nil pass0 (pa_cons (pv 5) (pa_cons (pe_tup pa_nil : PE _ _ _) (pa_cons pe_dnewK pa_nil)))) (pv 6) (nomark _)⟩ (pss_oneS (ps_retS ⟨pe_bl⟩)) ⟨pss_nil⟩)
    (pss_consS ⟨ps_dput hu (pv 4) pe_str (pe_tup (pa_cons pe_str (pa_cons pe_int pa_nil)) : PE _ _ _) rfl⟩
    (pss_consS (ps_setS (i := 7) sc_law.nd rfl (Or.inl rfl) ⟨pe_call G_renamed.ok hr (by rfl) G_renamed.gl G_renamed.kp G_renamed.bd .nil pass0 (pa_cons (pv 2) (pa_cons (pv 4) pa_nil))⟩)
    (pss_consS (ps_ifS ⟨(pw_or (pt_not (pt_val (pe_call G_law_tree_good.ok hr (by rfl) G_law_tree_good.gl G_law_tree_good.kp G_law_tree_good.bd .nil pass0 (pa_cons (pv 7) pa_nil)))) (pw_or1 (pt_cmpR (op_neD hu5) (pe_call G_law_bare.ok hr (by rfl) G_law_bare.gl G_law_bare.kp G_law_bare.bd .nil pass0 (pa_cons (pv 7) (pa_cons (pe_tup pa_nil : PE _ _ _) (pa_cons pe_dnewK pa_nil)))) (pe_call G_law_bare.ok hr (by rfl) G_law_bare.gl G_law_bare.kp G_law_bare.bd .nil pass0 (pa_cons (pv 2) (pa_cons (pe_tup pa_nil : PE _ _ _) (pa_cons (pv 4) pa_nil)))) (nomark _)))).pt⟩ (pss_oneS (ps_retS ⟨pe_bl⟩)) ⟨pss_nil⟩)
    (pss_oneS (ps_retS ⟨pe_cmpR (op_eqD hu5) (pe_call G_law_bare.ok hr (by rfl) G_law_bare.gl G_law_bare.kp G_law_bare.bd .nil pass0 (pa_cons (pe_call G_renamed.ok hr (by rfl) G_renamed.gl G_renamed.kp G_renamed.bd .nil pass0 (pa_cons (pv 2) (pa_cons (pv 3) pa_nil))) (pa_cons (pe_tup pa_nil : PE _ _ _) (pa_cons pe_dnewK pa_nil)))) (pv 6) (nomark _)⟩)))))))))))))))), ?_⟩
  have d0 : 0 ≤ sizeLine := by decide
  have d2 : 2 ≤ sizeLine := by decide
  refine ⟨_, rfl, a, ns, 0, rfl, hS, Int.le_refl 0, fun i => ⟨i, rfl, fun l H1 ws g1 hl hw hgw el => ?_⟩⟩
  obtain ⟨ms, em, lm⟩ : ∃ ms : List Int, cutV (ns.map V.int) (some 5) (some 61) = ms.map V.int ∧ ms.length ≤ 56 := by
    have e61 : ∃ j, HT.sIx ns.length ns.length (some 61) = j ∧ j ≤ ns.length ∧ j ≤ 61 := ⟨_, rfl, by
      have : HT.sIx ns.length ns.length (some ((61 : Nat) : Int)) = min 61 ns.length := HT.sIx_nat _ _ _
      rw [show ((61 : Nat) : Int) = 61 from rfl] at this
      rw [this]; omega⟩
    have e5 : ∃ j, HT.sIx ns.length 0 (some 5) = j ∧ (5 ≤ j ∨ j = ns.length) := ⟨_, rfl, by
      have : HT.sIx ns.length 0 (some ((5 : Nat) : Int)) = min 5 ns.length := HT.sIx_nat _ _ _
      rw [show ((5 : Nat) : Int) = 5 from rfl] at this
      rw [this]; omega⟩
    obtain ⟨j, hj, hj1, hj2⟩ := e61
    obtain ⟨i5, h5, h5'⟩ := e5
    obtain ⟨ms, e, l⟩ := cutInts (ns := ns) (lo := some 5) (hi := some 61) h5 hj hj1
    exact ⟨ms, e, by omega⟩
  refine ⟨_, rfl, _, rfl, _, rfl, a, _, rfl, g1.seq hS, fun pc hpc => ?_⟩
  rw [em]
  have g2 := same_upd (o := .lst (ms.map V.int)) hpc
  refine ⟨_, rfl, pc, l, ms, ws, 12, rfl, SqL.of upd_same, by omega, g2 _ _ el, hw, hgw, by decide, by decide, fun t0 u0 H2 g3 r0 sz0 dp0 gt0 => ?_⟩
  have gA := g1.trans (g2.trans g3)
  refine ⟨_, rfl, _, rfl, a, l, ns, ws, rfl, gA.seq hS, (g2.trans g3) _ _ el, hw, hgw, fun d1 kvs1 τ1 H3 g4 hd1 ed1 dg1 kl1 => ?_⟩
  have gB := gA.trans g4
  have T0 : TDk H3 t0 u0 d1 kvs1 τ1 (ws ++ twoS) := ⟨r0.mono g4.tk, ed1, dg1, by omega, gt0.1, fun x hx => List.mem_append.mpr (.inl (gt0.2 x hx)), by rw [List.length_append, hw]; decide, by omega, by omega⟩
  have hd1H : H d1 = none := gA.free hd1
  apply viaS (fun σ' H' => ∃ (u : V) (t : Tr) (d : Addr) (kvs : List (Key × V)) (τ : Told) (W : List Str), σ' = [some (.ref a), some (.ref l), some u, some (.ref d), none, none, none, none] ∧ Same H H' ∧ H d = none ∧ TDk H' t u d kvs τ W)
  · intro rest
    refine ⟨_, rfl, a, ns, 3, rfl, gB.seq hS, by decide, fun c3 => ⟨_, _, rfl, rfl, (show (0 : Int) < 16 by decide), rfl, _, rfl, ite2 (fun _ => ?_) (fun _ => rest _ _ ⟨u0, t0, d1, kvs1, τ1, _, rfl, gB, hd1H, T0⟩)⟩⟩
    refine ⟨_, rfl, a, ns, 3, rfl, gB.seq hS, by decide, fun c4 => ⟨_, _, rfl, rfl, ⟨(show (0 : Int) < 16 by decide), (show (16 : Int) < 1073741824 by decide)⟩, _, rfl, fun p d u kvs τ t W H' g ep rp hd ed dg kl gd wr wl sz dp => ?_⟩⟩
    refine ⟨p, _, rfl, SqT.of ep, rfl, _, _, rfl, _, _, rfl, rfl, rest _ _ ⟨u, t, d, kvs, τ, W, rfl, gB.trans g, gB.free hd, rp, ed, dg, by omega, gd, wr, wl, sz, dp⟩⟩
  rintro σ' H4 ⟨u, t, d, kvs, τ, W, rfl, gC, hdH, T⟩
  apply viaS (fun σ' H' => ∃ (d : Addr) (kvs : List (Key × V)) (τ : Told), σ' = [some (.ref a), some (.ref l), some u, some (.ref d), none, none, none, none] ∧ Same H H' ∧ H d = none ∧ TDk H' t u d kvs τ W)
  · intro rest
    refine ⟨_, rfl, a, ns, 4, rfl, gC.seq hS, by decide, fun c3 => ⟨_, _, rfl, rfl, (show (0 : Int) < 16 by decide), rfl, _, rfl, ite2 (fun _ => ?_) (fun _ => rest _ _ ⟨d, kvs, τ, rfl, gC, hdH, T⟩)⟩⟩
    refine fun pd hpd => ?_
    have gd := same_upd (o := .dK []) hpd
    exact rest _ _ ⟨pd, [], noT, rfl, gC.trans gd, gC.free hpd, (T.mono gd).rp, upd_same, .nil, by simp, T.gd, T.wr, T.wl, T.sz, T.dp⟩
  clear T kvs hdH τ d
  rintro σ' H5 ⟨d, kvs, τ, rfl, gD, hdH, T⟩
  have tdp := T.dp
  have tdep := dep_dp t
  have tsz := T.sz
  have twl := T.wl
  have tkl := T.kl
  refine ⟨_, rfl, d, kvs, rfl, T.dk, fun hd hhd => ?_⟩
  have g6 := same_upd (o := .dK kvs) hhd
  have T6 := T.mono g6
  have eh6 : (upd H5 hd (.dK kvs)) hd = some (.dK kvs) := upd_same
  have hhH : H hd = none := gD.free hhd
  have ndh : d ≠ hd := ne_of_none T.dk hhd
  have gE := gD.trans g6
  generalize upd H5 hd (.dK kvs) = H6 at g6 T6 eh6 gE ⊢
  refine ⟨_, rfl, _, rfl, t, u, hd, kvs, τ, W, rfl, T6.rp, by omega, eh6, T6.dg.lv, by omega, by omega, T6.wr, T6.dg.inW, T6.gd, T6.dg.gd, fun r v1 H7 g7 r1 D1 => ?_⟩
  have T7 := T6.mono g7
  have eh7 := g7 _ _ eh6
  have rd1 : r.dep ≤ 60 := Nat.le_trans (dep_dp r) (Nat.le_trans D1.dp tdp)
  have b1 : bareW noT r [] = bareW τ t [] := D1.br
  refine ⟨_, rfl, _, rfl, hd, d, kvs, rfl, rfl, eh7, T7.dk, T7.dg.refs, _, rfl, iteF ?_⟩
  refine ⟨_, rfl, r, v1, rfl, r1, rd1, D1.gd, fun H8 g8 => ⟨_, rfl, iteF ?_⟩⟩
  have T8 := T7.mono g8
  refine ⟨_, rfl, d0, fun pt hpt => ?_⟩
  have g9 := same_upd (o := .tup []) hpt
  have T9 := T8.mono g9
  have ep9 : (upd H8 pt (.tup [])) pt = some (.tup []) := upd_same
  have r9 := r1.mono (g8.trans g9).tk
  have eh9 := (g8.trans g9) _ _ eh7
  have gF := gE.trans (g7.trans (g8.trans g9))
  generalize upd H8 pt (.tup []) = H9 at g9 T9 ep9 r9 eh9 gF ⊢
  refine ⟨_, rfl, t, u, pt, d, [], kvs, τ, rfl, T9.rp, by omega, ep9, by simp; omega, T9.dk, T9.dg.lv, fun v6 H10 g10 dr6 => ?_⟩
  obtain ⟨ds, eds⟩ := bareW_tup τ t []
  have hdeep : (Dt.tup ds).deep ≤ 150 := by
    have := bareW_deep τ t []
    rw [eds] at this
    omega
  have bt : Dt.beqs ds ds = true := Dt.beqs_iff.mpr rfl
  rw [eds] at b1 dr6
  have T10 := T9.mono g10
  have r10 := r9.mono g10.tk
  have eh10 := g10 _ _ eh9
  refine ⟨_, rfl, d0, fun pt2 hpt2 => fun pd2 hpd2 => ?_⟩
  have h1 := same_upd (o := .tup []) hpt2
  have h2 := same_upd (o := .dK []) hpd2
  have h12 := h1.trans h2
  refine ⟨r, v1, pt2, pd2, [], [], noT, rfl, r10.mono h12.tk, rd1, h2 _ _ upd_same, by simp; omega, upd_same, (DkG.nil (W := [])).lv, fun v8 H11 g11 dr8 => ?_⟩
  rw [b1] at dr8
  have gk := h12.trans g11
  refine ⟨_, rfl, ds, ds, dr8, dr6.mono gk.tk, hdeep, _, rfl, ite2 (fun c => absurd c (by simp [bt])) (fun _ => ?_)⟩
  have T11 := T10.mono gk
  have eh11 := gk _ _ eh10
  have dr11 := dr6.mono gk.tk
  have gG := gF.trans (g10.trans gk)
  clear h1 h2 h12 hpt2 hpd2 T10 r10 eh10 T9 r9 eh9 ep9
  refine ⟨d2, fun tp htp => ⟨_, rfl, hd, _, rfl, DPut.k (k := Sum.inr "a") ((same_upd htp) _ _ eh11) (small1000 (by omega)), ?_⟩⟩
  have h1 := same_upd (o := .tup [.str "num", .int 7]) htp
  have e1 := h1 _ _ eh11
  have tk1 := Tk.dk (o := .dK (putK kvs (Sum.inr "a" : Key) (.ref tp))) e1
  have tkA := h1.tk.trans tk1
  have edA : (upd (upd H11 tp (.tup [.str "num", .int 7])) hd (.dK (putK kvs (Sum.inr "a" : Key) (.ref tp)))) d = some (.dK kvs) := by rw [upd_ne ndh]; exact h1 _ _ T11.dk
  have ehA : (upd (upd H11 tp (.tup [.str "num", .int 7])) hd (.dK (putK kvs (Sum.inr "a" : Key) (.ref tp)))) hd = some (.dK (putK kvs (Sum.inr "a" : Key) (.ref tp))) := upd_same
  have dgA := ((T11.dg.mono h1.tk).put (n := "a") (a := .num 7) (v := .ref tp) ⟨tp, rfl, upd_same⟩ trivial (fun y e => nomatch e)).mono tk1
  have TA : TDk (upd (upd H11 tp (.tup [.str "num", .int 7])) hd (.dK (putK kvs (Sum.inr "a" : Key) (.ref tp)))) t u d kvs τ W := ⟨T11.rp.mono tkA, edA, T11.dg.mono tkA, T.kl, T.gd, T.wr, T.wl, T.sz, T.dp⟩
  have drA := dr11.mono tkA
  have klA : (putK kvs (Sum.inr "a" : Key) (.ref tp)).length ≤ 7 := Nat.le_trans (len_putK _ _ _) (by omega)
  show tSeq _ _ _ _ (upd (upd H11 tp (.tup [.str "num", .int 7])) hd (.dK (putK kvs (Sum.inr "a" : Key) (.ref tp))))
  generalize upd (upd H11 tp (.tup [.str "num", .int 7])) hd (.dK (putK kvs (Sum.inr "a" : Key) (.ref tp))) = HA at edA ehA dgA TA drA ⊢
  clear h1 e1 tk1 tkA
  refine ⟨_, rfl, _, rfl, t, u, hd, _, setT τ "a" (.num 7), W, rfl, TA.rp, by omega, ehA, dgA.lv, by omega, by omega, TA.wr, dgA.inW, TA.gd, dgA.gd, fun r2 v2 HB gB2 rr2 D2 => ?_⟩
  have rd2 : r2.dep ≤ 60 := Nat.le_trans (dep_dp r2) (Nat.le_trans D2.dp tdp)
  have b2 : bareW noT r2 [] = bareW (setT τ "a" (.num 7)) t [] := D2.br
  obtain ⟨es, ees⟩ := bareW_tup (setT τ "a" (.num 7)) t []
  have edeep : (Dt.tup es).deep ≤ 150 := by
    have := bareW_deep (setT τ "a" (.num 7)) t []
    rw [ees] at this
    omega
  have bt2 : Dt.beqs es es = true := Dt.beqs_iff.mpr rfl
  rw [ees] at b2
  have TB := TA.mono gB2
  refine ⟨_, rfl, r2, v2, rfl, rr2, rd2, D2.gd, fun HC gC2 => ⟨_, rfl, iteF ?_⟩⟩
  have TC := TB.mono gC2
  have gBC := gB2.trans gC2
  refine ⟨_, rfl, d0, fun pt3 hpt3 => fun pd3 hpd3 => ?_⟩
  have k1 := same_upd (o := .tup []) hpt3
  have k2 := same_upd (o := .dK []) hpd3
  have k12 := k1.trans k2
  refine ⟨r2, v2, pt3, pd3, [], [], noT, rfl, rr2.mono (gC2.trans k12).tk, rd2, k2 _ _ upd_same, by simp; omega, upd_same, (DkG.nil (W := [])).lv, fun w1 HD gD2 drD => ?_⟩
  rw [b2] at drD
  have kD := k12.trans gD2
  have TD' := TC.mono kD
  refine ⟨_, rfl, d0, fun pt4 hpt4 => ?_⟩
  have k3 := same_upd (o := .tup []) hpt4
  have kA := gBC.trans (kD.trans k3)
  refine ⟨_, rfl, t, u, pt4, hd, [], _, setT τ "a" (.num 7), rfl, (TD'.mono k3).rp, by omega, upd_same, by simp; omega, kA _ _ ehA, dgA.lv.mono kA.tk, fun w2 HE gE2 drE => ?_⟩
  rw [ees] at drE
  refine ⟨es, es, drD.mono (k3.trans gE2).tk, drE, edeep, _, rfl, ite2 (fun c => absurd c (by simp [bt2])) (fun _ => ?_)⟩
  have TE' := (TD'.mono k3).mono gE2
  have drF := drA.mono (kA.trans gE2).tk
  refine ⟨_, rfl, _, rfl, t, u, d, kvs, τ, W, rfl, TE'.rp, by omega, TE'.dk, TE'.dg.lv, by omega, by omega, TE'.wr, TE'.dg.inW, TE'.gd, TE'.dg.gd, fun r3 v3 HF gF2 rr3 D3 => ?_⟩
  have rd3 : r3.dep ≤ 60 := Nat.le_trans (dep_dp r3) (Nat.le_trans D3.dp tdp)
  have b3 : bareW noT r3 [] = bareW τ t [] := D3.br
  rw [eds] at b3
  refine ⟨d0, fun pt5 hpt5 => fun pd5 hpd5 => ?_⟩
  have m1 := same_upd (o := .tup []) hpt5
  have m2 := same_upd (o := .dK []) hpd5
  have m12 := m1.trans m2
  refine ⟨r3, v3, pt5, pd5, [], [], noT, rfl, rr3.mono m12.tk, rd3, m2 _ _ upd_same, by simp; omega, upd_same, (DkG.nil (W := [])).lv, fun w3 HG gG2 drG => ?_⟩
  rw [b3] at drG
  refine ⟨_, rfl, ds, ds, drG, drF.mono (gF2.trans (m12.trans gG2)).tk, hdeep, ?_⟩
  show Q (.bl (Dt.beqs ds ds)) HG
  rw [bt]
  exact q _
end
end K05
set_option Elab.async false
set_option linter.all false
set_option maxRecDepth 100000
set_option maxHeartbeats 4000000
namespace K05
open PySem PySem.Spec L2 PyProof.Rows
theorem keep_of {K : PySem.W.Frag} {f : Addr} {oc : Value} {od : Option Addr} {fd : FuncData} {sl : Array (Option Value)} (l : K.lookup f = some ⟨oc, od, .func fd, sl⟩) : PySem.W.keepIn K (.ref f) = true := by unfold PySem.W.keepIn; dsimp only; rw [l]
theorem all_mk {l : PySem.W.OpenLaw} {w : World} {K : PySem.W.Frag} {h : Heap} {mg : Str → Option Value} {fa f0 f1 f2 f3 f4 f5 f6 f7 f8 f9 f10 f11 f12 f13 f14 f15 f16 f17 f18 f19 f20 f21 f22 f23 f24 f25 f26 f27 f28 f29 f30 lv_LEAF_SIGNS lv_KEPT_WORDS : Addr} (X : K.In h) (G : h.Ns mainGlobals mg) (hfa : mg "law" = some (.ref fa))
    {od0 an0 : Option Addr} {sl0 : Array (Option Value)} {oc0 kV0 dc0 pm0 cd0 ct0 : Value}
    {od1 an1 : Option Addr} {sl1 : Array (Option Value)} {oc1 kV1 dc1 pm1 cd1 ct1 : Value}
    {od2 an2 : Option Addr} {sl2 : Array (Option Value)} {oc2 kV2 dc2 pm2 cd2 ct2 : Value}
    {od3 an3 : Option Addr} {sl3 : Array (Option Value)} {oc3 kV3 dc3 pm3 cd3 ct3 : Value}
    {od4 an4 : Option Addr} {sl4 : Array (Option Value)} {oc4 kV4 dc4 pm4 cd4 ct4 : Value}
    {od5 an5 : Option Addr} {sl5 : Array (Option Value)} {oc5 kV5 dc5 pm5 cd5 ct5 : Value}
    {od6 an6 : Option Addr} {sl6 : Array (Option Value)} {oc6 kV6 dc6 pm6 cd6 ct6 : Value}
    {od7 an7 : Option Addr} {sl7 : Array (Option Value)} {oc7 kV7 dc7 pm7 cd7 ct7 : Value}
    {od8 an8 : Option Addr} {sl8 : Array (Option Value)} {oc8 kV8 dc8 pm8 cd8 ct8 : Value}
    {od9 an9 : Option Addr} {sl9 : Array (Option Value)} {oc9 kV9 dc9 pm9 cd9 ct9 : Value}
    {od10 an10 : Option Addr} {sl10 : Array (Option Value)} {oc10 kV10 dc10 pm10 cd10 ct10 : Value}
    {od11 an11 : Option Addr} {sl11 : Array (Option Value)} {oc11 kV11 dc11 pm11 cd11 ct11 : Value}
    {od12 an12 : Option Addr} {sl12 : Array (Option Value)} {oc12 kV12 dc12 pm12 cd12 ct12 : Value}
    {od13 an13 : Option Addr} {sl13 : Array (Option Value)} {oc13 kV13 dc13 pm13 cd13 ct13 : Value}
    {od14 an14 : Option Addr} {sl14 : Array (Option Value)} {oc14 kV14 dc14 pm14 cd14 ct14 : Value}
    {od15 an15 : Option Addr} {sl15 : Array (Option Value)} {oc15 kV15 dc15 pm15 cd15 ct15 : Value}
    {od16 an16 : Option Addr} {sl16 : Array (Option Value)} {oc16 kV16 dc16 pm16 cd16 ct16 : Value}
    {od17 an17 : Option Addr} {sl17 : Array (Option Value)} {oc17 kV17 dc17 pm17 cd17 ct17 : Value}
    {od18 an18 : Option Addr} {sl18 : Array (Option Value)} {oc18 kV18 dc18 pm18 cd18 ct18 : Value}
    {od19 an19 : Option Addr} {sl19 : Array (Option Value)} {oc19 kV19 dc19 pm19 cd19 ct19 : Value}
    {od20 an20 : Option Addr} {sl20 : Array (Option Value)} {oc20 kV20 dc20 pm20 cd20 ct20 : Value}
    {od21 an21 : Option Addr} {sl21 : Array (Option Value)} {oc21 kV21 dc21 pm21 cd21 ct21 : Value}
    {od22 an22 : Option Addr} {sl22 : Array (Option Value)} {oc22 kV22 dc22 pm22 cd22 ct22 : Value}
    {od23 an23 : Option Addr} {sl23 : Array (Option Value)} {oc23 kV23 dc23 pm23 cd23 ct23 : Value}
    {od24 an24 : Option Addr} {sl24 : Array (Option Value)} {oc24 kV24 dc24 pm24 cd24 ct24 : Value}
    {od25 an25 : Option Addr} {sl25 : Array (Option Value)} {oc25 kV25 dc25 pm25 cd25 ct25 : Value}
    {od26 an26 : Option Addr} {sl26 : Array (Option Value)} {oc26 kV26 dc26 pm26 cd26 ct26 : Value}
    {od27 an27 : Option Addr} {sl27 : Array (Option Value)} {oc27 kV27 dc27 pm27 cd27 ct27 : Value}
    {od28 an28 : Option Addr} {sl28 : Array (Option Value)} {oc28 kV28 dc28 pm28 cd28 ct28 : Value}
    {od29 an29 : Option Addr} {sl29 : Array (Option Value)} {oc29 kV29 dc29 pm29 cd29 ct29 : Value}
    {od30 an30 : Option Addr} {sl30 : Array (Option Value)} {oc30 kV30 dc30 pm30 cd30 ct30 : Value}
    {odC0 : Option Addr} {slC0 : Array (Option Value)} {nC0 : Nat} {tC0_0 tC0_1 tC0_2 tC0_3 tC0_4 : Tok}
    {odC1 : Option Addr} {slC1 : Array (Option Value)} {nC1 : Nat} {tC1_0 tC1_1 tC1_2 tC1_3 tC1_4 tC1_5 tC1_6 tC1_7 tC1_8 tC1_9 tC1_10 : Tok}
    {tkL : Tok}
    (a0 : PySem.W.nsIn K mainGlobals "parts_begin" = some (some (.ref f0))) (l0 : K.lookup f0 = some ⟨oc0, od0, .func (PySem.W.fnOf "parts_begin" "parts_begin" (defArgs s_parts_begin) (defBody s_parts_begin) (defScope s_parts_begin) .none kV0 dc0 pm0 an0 cd0 ct0), sl0⟩) (c0 : PySem.W.codeIn K cd0 "parts_begin" = true)
    (a1 : PySem.W.nsIn K mainGlobals "parts" = some (some (.ref f1))) (l1 : K.lookup f1 = some ⟨oc1, od1, .func (PySem.W.fnOf "parts" "parts" (defArgs s_parts) (defBody s_parts) (defScope s_parts) .none kV1 dc1 pm1 an1 cd1 ct1), sl1⟩) (c1 : PySem.W.codeIn K cd1 "parts" = true)
    (a2 : PySem.W.nsIn K mainGlobals "with_parts" = some (some (.ref f2))) (l2 : K.lookup f2 = some ⟨oc2, od2, .func (PySem.W.fnOf "with_parts" "with_parts" (defArgs s_with_parts) (defBody s_with_parts) (defScope s_with_parts) .none kV2 dc2 pm2 an2 cd2 ct2), sl2⟩) (c2 : PySem.W.codeIn K cd2 "with_parts" = true)
    (a3 : PySem.W.nsIn K mainGlobals "all_parts" = some (some (.ref f3))) (l3 : K.lookup f3 = some ⟨oc3, od3, .func (PySem.W.fnOf "all_parts" "all_parts" (defArgs s_all_parts) (defBody s_all_parts) (defScope s_all_parts) .none kV3 dc3 pm3 an3 cd3 ct3), sl3⟩) (c3 : PySem.W.codeIn K cd3 "all_parts" = true)
    (a4 : PySem.W.nsIn K mainGlobals "names_at" = some (some (.ref f4))) (l4 : K.lookup f4 = some ⟨oc4, od4, .func (PySem.W.fnOf "names_at" "names_at" (defArgs s_names_at) (defBody s_names_at) (defScope s_names_at) .none kV4 dc4 pm4 an4 cd4 ct4), sl4⟩) (c4 : PySem.W.codeIn K cd4 "names_at" = true)
    (a5 : PySem.W.nsIn K mainGlobals "bound_in" = some (some (.ref f5))) (l5 : K.lookup f5 = some ⟨oc5, od5, .func (PySem.W.fnOf "bound_in" "bound_in" (defArgs s_bound_in) (defBody s_bound_in) (defScope s_bound_in) .none kV5 dc5 pm5 an5 cd5 ct5), sl5⟩) (c5 : PySem.W.codeIn K cd5 "bound_in" = true)
    (a6 : PySem.W.nsIn K mainGlobals "free_names" = some (some (.ref f6))) (l6 : K.lookup f6 = some ⟨oc6, od6, .func (PySem.W.fnOf "free_names" "free_names" (defArgs s_free_names) (defBody s_free_names) (defScope s_free_names) .none kV6 dc6 pm6 an6 cd6 ct6), sl6⟩) (c6 : PySem.W.codeIn K cd6 "free_names" = true)
    (a7 : PySem.W.nsIn K mainGlobals "word_of" = some (some (.ref f7))) (l7 : K.lookup f7 = some ⟨oc7, od7, .func (PySem.W.fnOf "word_of" "word_of" (defArgs s_word_of) (defBody s_word_of) (defScope s_word_of) .none kV7 dc7 pm7 an7 cd7 ct7), sl7⟩) (c7 : PySem.W.codeIn K cd7 "word_of" = true)
    (a8 : PySem.W.nsIn K mainGlobals "unused_word" = some (some (.ref f8))) (l8 : K.lookup f8 = some ⟨oc8, od8, .func (PySem.W.fnOf "unused_word" "unused_word" (defArgs s_unused_word) (defBody s_unused_word) (defScope s_unused_word) .none kV8 dc8 pm8 an8 cd8 ct8), sl8⟩) (c8 : PySem.W.codeIn K cd8 "unused_word" = true)
    (a9 : PySem.W.nsIn K mainGlobals "words_used" = some (some (.ref f9))) (l9 : K.lookup f9 = some ⟨oc9, od9, .func (PySem.W.fnOf "words_used" "words_used" (defArgs s_words_used) (defBody s_words_used) (defScope s_words_used) .none kV9 dc9 pm9 an9 cd9 ct9), sl9⟩) (c9 : PySem.W.codeIn K cd9 "words_used" = true)
    (a10 : PySem.W.nsIn K mainGlobals "catches" = some (some (.ref f10))) (l10 : K.lookup f10 = some ⟨oc10, od10, .func (PySem.W.fnOf "catches" "catches" (defArgs s_catches) (defBody s_catches) (defScope s_catches) .none kV10 dc10 pm10 an10 cd10 ct10), sl10⟩) (c10 : PySem.W.codeIn K cd10 "catches" = true)
    (a11 : PySem.W.nsIn K mainGlobals "let_name" = some (some (.ref f11))) (l11 : K.lookup f11 = some ⟨oc11, od11, .func (PySem.W.fnOf "let_name" "let_name" (defArgs s_let_name) (defBody s_let_name) (defScope s_let_name) .none kV11 dc11 pm11 an11 cd11 ct11), sl11⟩) (c11 : PySem.W.codeIn K cd11 "let_name" = true)
    (a12 : PySem.W.nsIn K mainGlobals "leaves_within" = some (some (.ref f12))) (l12 : K.lookup f12 = some ⟨oc12, od12, .func (PySem.W.fnOf "leaves_within" "leaves_within" (defArgs s_leaves_within) (defBody s_leaves_within) (defScope s_leaves_within) .none kV12 dc12 pm12 an12 cd12 ct12), sl12⟩) (c12 : PySem.W.codeIn K cd12 "leaves_within" = true)
    (a13 : PySem.W.nsIn K mainGlobals "put_leaf" = some (some (.ref f13))) (l13 : K.lookup f13 = some ⟨oc13, od13, .func (PySem.W.fnOf "put_leaf" "put_leaf" (defArgs s_put_leaf) (defBody s_put_leaf) (defScope s_put_leaf) .none kV13 dc13 pm13 an13 cd13 ct13), sl13⟩) (c13 : PySem.W.codeIn K cd13 "put_leaf" = true)
    (a14 : PySem.W.nsIn K mainGlobals "put_head" = some (some (.ref f14))) (l14 : K.lookup f14 = some ⟨oc14, od14, .func (PySem.W.fnOf "put_head" "put_head" (defArgs s_put_head) (defBody s_put_head) (defScope s_put_head) .none kV14 dc14 pm14 an14 cd14 ct14), sl14⟩) (c14 : PySem.W.codeIn K cd14 "put_head" = true)
    (a15 : PySem.W.nsIn K mainGlobals "grown_level" = some (some (.ref f15))) (l15 : K.lookup f15 = some ⟨oc15, od15, .func (PySem.W.fnOf "grown_level" "grown_level" (defArgs s_grown_level) (defBody s_grown_level) (defScope s_grown_level) .none kV15 dc15 pm15 an15 cd15 ct15), sl15⟩) (c15 : PySem.W.codeIn K cd15 "grown_level" = true)
    (a16 : PySem.W.nsIn K mainGlobals "grown_tree" = some (some (.ref f16))) (l16 : K.lookup f16 = some ⟨oc16, od16, .func (PySem.W.fnOf "grown_tree" "grown_tree" (defArgs s_grown_tree) (defBody s_grown_tree) (defScope s_grown_tree) .none kV16 dc16 pm16 an16 cd16 ct16), sl16⟩) (c16 : PySem.W.codeIn K cd16 "grown_tree" = true)
    (a17 : PySem.W.nsIn K mainGlobals "renamed" = some (some (.ref f17))) (l17 : K.lookup f17 = some ⟨oc17, od17, .func (PySem.W.fnOf "renamed" "renamed" (defArgs s_renamed) (defBody s_renamed) (defScope s_renamed) .none kV17 dc17 pm17 an17 cd17 ct17), sl17⟩) (c17 : PySem.W.codeIn K cd17 "renamed" = true)
    (a18 : PySem.W.nsIn K mainGlobals "_law_cell_at" = some (some (.ref f18))) (l18 : K.lookup f18 = some ⟨oc18, od18, .func (PySem.W.fnOf "_law_cell_at" "_law_cell_at" (defArgs s_law_cell_at) (defBody s_law_cell_at) (defScope s_law_cell_at) .none kV18 dc18 pm18 an18 cd18 ct18), sl18⟩) (c18 : PySem.W.codeIn K cd18 "_law_cell_at" = true)
    (a19 : PySem.W.nsIn K mainGlobals "_law_word" = some (some (.ref f19))) (l19 : K.lookup f19 = some ⟨oc19, od19, .func (PySem.W.fnOf "_law_word" "_law_word" (defArgs s_law_word) (defBody s_law_word) (defScope s_law_word) .none kV19 dc19 pm19 an19 cd19 ct19), sl19⟩) (c19 : PySem.W.codeIn K cd19 "_law_word" = true)
    (a20 : PySem.W.nsIn K mainGlobals "_law_words" = some (some (.ref f20))) (l20 : K.lookup f20 = some ⟨oc20, od20, .func (PySem.W.fnOf "_law_words" "_law_words" (defArgs s_law_words) (defBody s_law_words) (defScope s_law_words) .none kV20 dc20 pm20 an20 cd20 ct20), sl20⟩) (c20 : PySem.W.codeIn K cd20 "_law_words" = true)
    (a21 : PySem.W.nsIn K mainGlobals "_law_leaf" = some (some (.ref f21))) (l21 : K.lookup f21 = some ⟨oc21, od21, .func (PySem.W.fnOf "_law_leaf" "_law_leaf" (defArgs s_law_leaf) (defBody s_law_leaf) (defScope s_law_leaf) .none kV21 dc21 pm21 an21 cd21 ct21), sl21⟩) (c21 : PySem.W.codeIn K cd21 "_law_leaf" = true)
    (a22 : PySem.W.nsIn K mainGlobals "_law_tree" = some (some (.ref f22))) (l22 : K.lookup f22 = some ⟨oc22, od22, .func (PySem.W.fnOf "_law_tree" "_law_tree" (defArgs s_law_tree) (defBody s_law_tree) (defScope s_law_tree) .none kV22 dc22 pm22 an22 cd22 ct22), sl22⟩) (c22 : PySem.W.codeIn K cd22 "_law_tree" = true)
    (a23 : PySem.W.nsIn K mainGlobals "_law_leaf_by" = some (some (.ref f23))) (l23 : K.lookup f23 = some ⟨oc23, od23, .func (PySem.W.fnOf "_law_leaf_by" "_law_leaf_by" (defArgs s_law_leaf_by) (defBody s_law_leaf_by) (defScope s_law_leaf_by) .none kV23 dc23 pm23 an23 cd23 ct23), sl23⟩) (c23 : PySem.W.codeIn K cd23 "_law_leaf_by" = true)
    (a24 : PySem.W.nsIn K mainGlobals "_law_leaves" = some (some (.ref f24))) (l24 : K.lookup f24 = some ⟨oc24, od24, .func (PySem.W.fnOf "_law_leaves" "_law_leaves" (defArgs s_law_leaves) (defBody s_law_leaves) (defScope s_law_leaves) .none kV24 dc24 pm24 an24 cd24 ct24), sl24⟩) (c24 : PySem.W.codeIn K cd24 "_law_leaves" = true)
    (a25 : PySem.W.nsIn K mainGlobals "_law_bare_name" = some (some (.ref f25))) (l25 : K.lookup f25 = some ⟨oc25, od25, .func (PySem.W.fnOf "_law_bare_name" "_law_bare_name" (defArgs s_law_bare_name) (defBody s_law_bare_name) (defScope s_law_bare_name) .none kV25 dc25 pm25 an25 cd25 ct25), sl25⟩) (c25 : PySem.W.codeIn K cd25 "_law_bare_name" = true)
    (a26 : PySem.W.nsIn K mainGlobals "_law_bare" = some (some (.ref f26))) (l26 : K.lookup f26 = some ⟨oc26, od26, .func (PySem.W.fnOf "_law_bare" "_law_bare" (defArgs s_law_bare) (defBody s_law_bare) (defScope s_law_bare) .none kV26 dc26 pm26 an26 cd26 ct26), sl26⟩) (c26 : PySem.W.codeIn K cd26 "_law_bare" = true)
    (a27 : PySem.W.nsIn K mainGlobals "_law_word_good" = some (some (.ref f27))) (l27 : K.lookup f27 = some ⟨oc27, od27, .func (PySem.W.fnOf "_law_word_good" "_law_word_good" (defArgs s_law_word_good) (defBody s_law_word_good) (defScope s_law_word_good) .none kV27 dc27 pm27 an27 cd27 ct27), sl27⟩) (c27 : PySem.W.codeIn K cd27 "_law_word_good" = true)
    (a28 : PySem.W.nsIn K mainGlobals "_law_tree_good" = some (some (.ref f28))) (l28 : K.lookup f28 = some ⟨oc28, od28, .func (PySem.W.fnOf "_law_tree_good" "_law_tree_good" (defArgs s_law_tree_good) (defBody s_law_tree_good) (defScope s_law_tree_good) .none kV28 dc28 pm28 an28 cd28 ct28), sl28⟩) (c28 : PySem.W.codeIn K cd28 "_law_tree_good" = true)
    (a29 : PySem.W.nsIn K mainGlobals "_law_crowded" = some (some (.ref f29))) (l29 : K.lookup f29 = some ⟨oc29, od29, .func (PySem.W.fnOf "_law_crowded" "_law_crowded" (defArgs s_law_crowded) (defBody s_law_crowded) (defScope s_law_crowded) .none kV29 dc29 pm29 an29 cd29 ct29), sl29⟩) (c29 : PySem.W.codeIn K cd29 "_law_crowded" = true)
    (a30 : PySem.W.nsIn K mainGlobals "law" = some (some (.ref f30))) (l30 : K.lookup f30 = some ⟨oc30, od30, .func (PySem.W.fnOf "law" "law" (defArgs s_law) (defBody s_law) (defScope s_law) .none kV30 dc30 pm30 an30 cd30 ct30), sl30⟩) (c30 : PySem.W.codeIn K cd30 "law" = true)
    (aC0 : PySem.W.nsIn K mainGlobals "LEAF_SIGNS" = some (some (.ref lv_LEAF_SIGNS))) (lC0 : K.lookup lv_LEAF_SIGNS = some ⟨.type "tuple", odC0, .seq #[.str "num" tC0_0, .str "name" tC0_1, .str "ask" tC0_2, .str "stop" tC0_3, .str "gap" tC0_4] nC0, slC0⟩)
    (aC1 : PySem.W.nsIn K mainGlobals "KEPT_WORDS" = some (some (.ref lv_KEPT_WORDS))) (lC1 : K.lookup lv_KEPT_WORDS = some ⟨.type "tuple", odC1, .seq #[.str "let" tC1_0, .str "in" tC1_1, .str "if" tC1_2, .str "then" tC1_3, .str "else" tC1_4, .str "say" tC1_5, .str "ask" tC1_6, .str "stop" tC1_7, .str "where" tC1_8, .str "quiet" tC1_9, .str "number" tC1_10] nC1, slC1⟩)
    (aLt : PySem.W.nsIn K mainGlobals "LETTERS" = some (some (.str "abcdefghijklmnopqrstuvwxyz" tkL)))
    (z_len : PySem.W.nsIn K mainGlobals "len" = some none)
    (z_range : PySem.W.nsIn K mainGlobals "range" = some none)
    (z_isinstance : PySem.W.nsIn K mainGlobals "isinstance" = some none)
    (z_int : PySem.W.nsIn K mainGlobals "int" = some none)
    (z_bool : PySem.W.nsIn K mainGlobals "bool" = some none)
    (z_str : PySem.W.nsIn K mainGlobals "str" = some none)
    (z_tuple : PySem.W.nsIn K mainGlobals "tuple" = some none)
    (z_list : PySem.W.nsIn K mainGlobals "list" = some none)
    (z_dict : PySem.W.nsIn K mainGlobals "dict" = some none)
    (z_reversed : PySem.W.nsIn K mainGlobals "reversed" = some none)
    (z_sorted : PySem.W.nsIn K mainGlobals "sorted" = some none)
    (z_enumerate : PySem.W.nsIn K mainGlobals "enumerate" = some none)
    (z_any : PySem.W.nsIn K mainGlobals "any" = some none)
    : ∃ fd : FuncData, (∀ (s : Shared) (v : Value), BindsTo s fd ⟨[v], []⟩ [("_law_script", v)]) ∧ ∀ base : Heap, K.In base → base.Ns mainGlobals mg → FnOk l.prog w K mg base CX0 62 fa fd ["_law_script"] (sp_law K) := by
  have e := hfa.symm.trans (PySem.W.mg_of X G a30)
  cases e
  have z_len := PySem.W.mg_none_of X G z_len
  have z_range := PySem.W.mg_none_of X G z_range
  have z_isinstance := PySem.W.mg_none_of X G z_isinstance
  have z_int := PySem.W.mg_none_of X G z_int
  have z_bool := PySem.W.mg_none_of X G z_bool
  have z_str := PySem.W.mg_none_of X G z_str
  have z_tuple := PySem.W.mg_none_of X G z_tuple
  have z_list := PySem.W.mg_none_of X G z_list
  have z_dict := PySem.W.mg_none_of X G z_dict
  have z_reversed := PySem.W.mg_none_of X G z_reversed
  have z_sorted := PySem.W.mg_none_of X G z_sorted
  have z_enumerate := PySem.W.mg_none_of X G z_enumerate
  have z_any := PySem.W.mg_none_of X G z_any
  have m_LEAF_SIGNS := PySem.W.mg_of X G aC0
  have h_LEAF_SIGNS : LeafSigns K lv_LEAF_SIGNS := ⟨_, _, _, lC0, rfl, rfl, (by show 5 ≤ sizeLine; decide), (.cons ⟨_, rfl⟩ (.cons ⟨_, rfl⟩ (.cons ⟨_, rfl⟩ (.cons ⟨_, rfl⟩ (.cons ⟨_, rfl⟩ .nil)))))⟩
  have m_KEPT_WORDS := PySem.W.mg_of X G aC1
  have h_KEPT_WORDS : KeptW K lv_KEPT_WORDS := ⟨_, _, _, lC1, rfl, rfl, (by show 11 ≤ sizeLine; decide), (.cons ⟨_, rfl⟩ (.cons ⟨_, rfl⟩ (.cons ⟨_, rfl⟩ (.cons ⟨_, rfl⟩ (.cons ⟨_, rfl⟩ (.cons ⟨_, rfl⟩ (.cons ⟨_, rfl⟩ (.cons ⟨_, rfl⟩ (.cons ⟨_, rfl⟩ (.cons ⟨_, rfl⟩ (.cons ⟨_, rfl⟩ .nil)))))))))))⟩
  have m_LETTERS : mg "LETTERS" = some (.str abcS tkL) := PySem.W.mg_of X G aLt
  have k0 := keep_of l0
  have F0 := fun_mk (st := s_parts_begin) l0 c0 k0
  have b0 := F0.binds (ps := ["tree"]) fun _ _ _ _ _ _ us hl => match us, hl with | [_], _ => rfl
  have m0 := PySem.W.mg_of X G a0
  have k1 := keep_of l1
  have F1 := fun_mk (st := s_parts) l1 c1 k1
  have b1 := F1.binds (ps := ["tree"]) fun _ _ _ _ _ _ us hl => match us, hl with | [_], _ => rfl
  have m1 := PySem.W.mg_of X G a1
  have k2 := keep_of l2
  have F2 := fun_mk (st := s_with_parts) l2 c2 k2
  have b2 := F2.binds (ps := ["tree", "parts"]) fun _ _ _ _ _ _ us hl => match us, hl with | [_, _], _ => rfl
  have m2 := PySem.W.mg_of X G a2
  have k3 := keep_of l3
  have F3 := fun_mk (st := s_all_parts) l3 c3 k3
  have b3 := F3.binds (ps := ["tree"]) fun _ _ _ _ _ _ us hl => match us, hl with | [_], _ => rfl
  have m3 := PySem.W.mg_of X G a3
  have k4 := keep_of l4
  have F4 := fun_mk (st := s_names_at) l4 c4 k4
  have b4 := F4.binds (ps := ["part"]) fun _ _ _ _ _ _ us hl => match us, hl with | [_], _ => rfl
  have m4 := PySem.W.mg_of X G a4
  have k5 := keep_of l5
  have F5 := fun_mk (st := s_bound_in) l5 c5 k5
  have b5 := F5.binds (ps := ["part", "number", "bound"]) fun _ _ _ _ _ _ us hl => match us, hl with | [_, _, _], _ => rfl
  have m5 := PySem.W.mg_of X G a5
  have k6 := keep_of l6
  have F6 := fun_mk (st := s_free_names) l6 c6 k6
  have b6 := F6.binds (ps := ["tree"]) fun _ _ _ _ _ _ us hl => match us, hl with | [_], _ => rfl
  have m6 := PySem.W.mg_of X G a6
  have k7 := keep_of l7
  have F7 := fun_mk (st := s_word_of) l7 c7 k7
  have b7 := F7.binds (ps := ["number"]) fun _ _ _ _ _ _ us hl => match us, hl with | [_], _ => rfl
  have m7 := PySem.W.mg_of X G a7
  have k8 := keep_of l8
  have F8 := fun_mk (st := s_unused_word) l8 c8 k8
  have b8 := F8.binds (ps := ["used"]) fun _ _ _ _ _ _ us hl => match us, hl with | [_], _ => rfl
  have m8 := PySem.W.mg_of X G a8
  have k9 := keep_of l9
  have F9 := fun_mk (st := s_words_used) l9 c9 k9
  have b9 := F9.binds (ps := ["tree", "leaves"]) fun _ _ _ _ _ _ us hl => match us, hl with | [_, _], _ => rfl
  have m9 := PySem.W.mg_of X G a9
  have k10 := keep_of l10
  have F10 := fun_mk (st := s_catches) l10 c10 k10
  have b10 := F10.binds (ps := ["let", "leaves"]) fun _ _ _ _ _ _ us hl => match us, hl with | [_, _], _ => rfl
  have m10 := PySem.W.mg_of X G a10
  have k11 := keep_of l11
  have F11 := fun_mk (st := s_let_name) l11 c11 k11
  have b11 := F11.binds (ps := ["let", "leaves", "used"]) fun _ _ _ _ _ _ us hl => match us, hl with | [_, _, _], _ => rfl
  have m11 := PySem.W.mg_of X G a11
  have k12 := keep_of l12
  have F12 := fun_mk (st := s_leaves_within) l12 c12 k12
  have b12 := F12.binds (ps := ["let", "name", "leaves"]) fun _ _ _ _ _ _ us hl => match us, hl with | [_, _, _], _ => rfl
  have m12 := PySem.W.mg_of X G a12
  have k13 := keep_of l13
  have F13 := fun_mk (st := s_put_leaf) l13 c13 k13
  have b13 := F13.binds (ps := ["leaf", "leaves"]) fun _ _ _ _ _ _ us hl => match us, hl with | [_, _], _ => rfl
  have m13 := PySem.W.mg_of X G a13
  have k14 := keep_of l14
  have F14 := fun_mk (st := s_put_head) l14 c14 k14
  have b14 := F14.binds (ps := ["part", "leaves"]) fun _ _ _ _ _ _ us hl => match us, hl with | [_, _], _ => rfl
  have m14 := PySem.W.mg_of X G a14
  have k15 := keep_of l15
  have F15 := fun_mk (st := s_grown_level) l15 c15 k15
  have b15 := F15.binds (ps := ["heads", "ready"]) fun _ _ _ _ _ _ us hl => match us, hl with | [_, _], _ => rfl
  have m15 := PySem.W.mg_of X G a15
  have k16 := keep_of l16
  have F16 := fun_mk (st := s_grown_tree) l16 c16 k16
  have b16 := F16.binds (ps := ["levels"]) fun _ _ _ _ _ _ us hl => match us, hl with | [_], _ => rfl
  have m16 := PySem.W.mg_of X G a16
  have k17 := keep_of l17
  have F17 := fun_mk (st := s_renamed) l17 c17 k17
  have b17 := F17.binds (ps := ["tree", "leaves"]) fun _ _ _ _ _ _ us hl => match us, hl with | [_, _], _ => rfl
  have m17 := PySem.W.mg_of X G a17
  have k18 := keep_of l18
  have F18 := fun_mk (st := s_law_cell_at) l18 c18 k18
  have b18 := F18.binds (ps := ["_law_script", "_law_k"]) fun _ _ _ _ _ _ us hl => match us, hl with | [_, _], _ => rfl
  have m18 := PySem.W.mg_of X G a18
  have k19 := keep_of l19
  have F19 := fun_mk (st := s_law_word) l19 c19 k19
  have b19 := F19.binds (ps := ["_law_cell", "_law_long", "_law_at", "_law_turn"]) fun _ _ _ _ _ _ us hl => match us, hl with | [_, _, _, _], _ => rfl
  have m19 := PySem.W.mg_of X G a19
  have k20 := keep_of l20
  have F20 := fun_mk (st := s_law_words) l20 c20 k20
  have b20 := F20.binds (ps := ["_law_cell"]) fun _ _ _ _ _ _ us hl => match us, hl with | [_], _ => rfl
  have m20 := PySem.W.mg_of X G a20
  have k21 := keep_of l21
  have F21 := fun_mk (st := s_law_leaf) l21 c21 k21
  have b21 := F21.binds (ps := ["_law_cell", "_law_words_here"]) fun _ _ _ _ _ _ us hl => match us, hl with | [_, _], _ => rfl
  have m21 := PySem.W.mg_of X G a21
  have k22 := keep_of l22
  have F22 := fun_mk (st := s_law_tree) l22 c22 k22
  have b22 := F22.binds (ps := ["_law_cells", "_law_words_here", "_law_deep"]) fun _ _ _ _ _ _ us hl => match us, hl with | [_, _, _], _ => rfl
  have m22 := PySem.W.mg_of X G a22
  have k23 := keep_of l23
  have F23 := fun_mk (st := s_law_leaf_by) l23 c23 k23
  have b23 := F23.binds (ps := ["_law_cell", "_law_names"]) fun _ _ _ _ _ _ us hl => match us, hl with | [_, _], _ => rfl
  have m23 := PySem.W.mg_of X G a23
  have k24 := keep_of l24
  have F24 := fun_mk (st := s_law_leaves) l24 c24 k24
  have b24 := F24.binds (ps := ["_law_script", "_law_words_here"]) fun _ _ _ _ _ _ us hl => match us, hl with | [_, _], _ => rfl
  have m24 := PySem.W.mg_of X G a24
  have k25 := keep_of l25
  have F25 := fun_mk (st := s_law_bare_name) l25 c25 k25
  have b25 := F25.binds (ps := ["_law_name", "_law_bound", "_law_leaves_here"]) fun _ _ _ _ _ _ us hl => match us, hl with | [_, _, _], _ => rfl
  have m25 := PySem.W.mg_of X G a25
  have k26 := keep_of l26
  have F26 := fun_mk (st := s_law_bare) l26 c26 k26
  have b26 := F26.binds (ps := ["_law_tree_here", "_law_bound", "_law_leaves_here"]) fun _ _ _ _ _ _ us hl => match us, hl with | [_, _, _], _ => rfl
  have m26 := PySem.W.mg_of X G a26
  have k27 := keep_of l27
  have F27 := fun_mk (st := s_law_word_good) l27 c27 k27
  have b27 := F27.binds (ps := ["_law_word_here"]) fun _ _ _ _ _ _ us hl => match us, hl with | [_], _ => rfl
  have m27 := PySem.W.mg_of X G a27
  have k28 := keep_of l28
  have F28 := fun_mk (st := s_law_tree_good) l28 c28 k28
  have b28 := F28.binds (ps := ["_law_found"]) fun _ _ _ _ _ _ us hl => match us, hl with | [_], _ => rfl
  have m28 := PySem.W.mg_of X G a28
  have k29 := keep_of l29
  have F29 := fun_mk (st := s_law_crowded) l29 c29 k29
  have b29 := F29.binds (ps := ["_law_cell"]) fun _ _ _ _ _ _ us hl => match us, hl with | [_], _ => rfl
  have m29 := PySem.W.mg_of X G a29
  have k30 := keep_of l30
  have F30 := fun_mk (st := s_law) l30 c30 k30
  have b30 := F30.binds (ps := ["_law_script"]) fun _ _ _ _ _ _ us hl => match us, hl with | [_], _ => rfl
  have m30 := PySem.W.mg_of X G a30
  refine ⟨PySem.W.fnOf "law" "law" (defArgs s_law) (defBody s_law) (defScope s_law) .none kV30 dc30 pm30 an30 cd30 ct30, fun s v => .of_eq rfl, fun base _ _ => ?_⟩
  have G0 : FnB l.prog w K mg base 1 "parts_begin" f0 _ _ _ := ⟨ok_parts_begin (k := 0) F0 z_len m_LEAF_SIGNS h_LEAF_SIGNS, b0, k0, m0⟩
  have G1 : FnB l.prog w K mg base 2 "parts" f1 _ _ _ := ⟨ok_parts F1 (G0.up (k := 1) (by decide)), b1, k1, m1⟩
  have G2 : FnB l.prog w K mg base 2 "with_parts" f2 _ _ _ := ⟨ok_with F2 z_tuple (G0.up (k := 1) (by decide)), b2, k2, m2⟩
  have G3 : FnB l.prog w K mg base 3 "all_parts" f3 _ _ _ := ⟨ok_all F3 (G1.up (k := 2) (by decide)), b3, k3, m3⟩
  have G4 : FnB l.prog w K mg base 1 "names_at" f4 _ _ _ := ⟨ok_names_at (k := 0) F4, b4, k4, m4⟩
  have G5 : FnB l.prog w K mg base 1 "bound_in" f5 _ _ _ := ⟨ok_bound_in (k := 0) F5, b5, k5, m5⟩
  have G6 : FnB l.prog w K mg base 3 "free_names" f6 _ _ _ := ⟨ok_free_names F6 z_sorted z_enumerate (G1.up (k := 2) (by decide)) (G4.up (k := 2) (by decide)) (G5.up (k := 2) (by decide)), b6, k6, m6⟩
  have G7 : FnB l.prog w K mg base 1 "word_of" f7 _ _ _ := ⟨ok_word_of (k := 0) F7 m_LETTERS, b7, k7, m7⟩
  have G8 : FnB l.prog w K mg base 2 "unused_word" f8 _ _ _ := ⟨ok_unused F8 m_KEPT_WORDS h_KEPT_WORDS (G7.up (k := 1) (by decide)), b8, k8, m8⟩
  have G9 : FnB l.prog w K mg base 4 "words_used" f9 _ _ _ := ⟨ok_words_used F9 (G3.up (k := 3) (by decide)) (G4.up (k := 3) (by decide)), b9, k9, m9⟩
  have G10 : FnB l.prog w K mg base 4 "catches" f10 _ _ _ := ⟨ok_catches F10 z_any (G6.up (k := 3) (by decide)), b10, k10, m10⟩
  have G11 : FnB l.prog w K mg base 5 "let_name" f11 _ _ _ := ⟨ok_let_name F11 (G10.up (k := 4) (by decide)) (G8.up (k := 4) (by decide)), b11, k11, m11⟩
  have G12 : FnB l.prog w K mg base 1 "leaves_within" f12 _ _ _ := ⟨ok_within (k := 0) F12 z_dict, b12, k12, m12⟩
  have G13 : FnB l.prog w K mg base 1 "put_leaf" f13 _ _ _ := ⟨ok_put_leaf (k := 0) F13, b13, k13, m13⟩
  have G14 : FnB l.prog w K mg base 2 "put_head" f14 _ _ _ := ⟨ok_put_head F14 z_tuple (G13.up (k := 1) (by decide)), b14, k14, m14⟩
  have G15 : FnB l.prog w K mg base 3 "grown_level" f15 _ _ _ := ⟨ok_level F15 z_len (G1.up (k := 2) (by decide)) (G2.up (k := 2) (by decide)), b15, k15, m15⟩
  have G16 : FnB l.prog w K mg base 4 "grown_tree" f16 _ _ _ := ⟨ok_gtree F16 z_reversed (G15.up (k := 3) (by decide)), b16, k16, m16⟩
  have G17 : FnB l.prog w K mg base 6 "renamed" f17 _ _ _ := ⟨ok_renamed F17 (G9.up (k := 5) (by decide)) (G11.up (k := 5) (by decide)) (G12.up (k := 5) (by decide)) (G14.up (k := 5) (by decide)) (G1.up (k := 5) (by decide)) (G16.up (k := 5) (by decide)), b17, k17, m17⟩
  have G18 : FnB l.prog w K mg base 1 "_law_cell_at" f18 _ _ _ := ⟨ok_cell_at (k := 0) F18 z_len, b18, k18, m18⟩
  have G19 : FnB l.prog w K mg base 1 "_law_word" f19 _ _ _ := ⟨ok_word (k := 0) F19 z_range, b19, k19, m19⟩
  have G20 : FnB l.prog w K mg base 2 "_law_words" f20 _ _ _ := ⟨ok_words F20 z_range (G19.up (k := 1) (by decide)), b20, k20, m20⟩
  have G21 : FnB l.prog w K mg base 1 "_law_leaf" f21 _ _ _ := ⟨ok_leaf (k := 0) F21 z_tuple, b21, k21, m21⟩
  have G22 := all_tree F22 b22 m22 z_len (G21.up (k := 1) (by decide)) 13
  have G23 : FnB l.prog w K mg base 1 "_law_leaf_by" f23 _ _ _ := ⟨ok_leaf_by (k := 0) F23 z_len, b23, k23, m23⟩
  have G24 : FnB l.prog w K mg base 2 "_law_leaves" f24 _ _ _ := ⟨ok_leaves F24 z_range (G18.up (k := 1) (by decide)) (G23.up (k := 1) (by decide)), b24, k24, m24⟩
  have G25 : FnB l.prog w K mg base 1 "_law_bare_name" f25 _ _ _ := ⟨ok_bare_name (k := 0) F25 z_len z_range, b25, k25, m25⟩
  have G26 := all_bare F26 b26 m26 z_tuple (G25.up (k := 1) (by decide)) 60
  have G27 : FnB l.prog w K mg base 1 "_law_word_good" f27 _ _ _ := ⟨ok_word_good (k := 0) F27 z_isinstance z_str z_len, b27, k27, m27⟩
  have G28 := all_tgood F28 b28 m28 z_isinstance z_str z_len z_tuple z_int z_bool (G27.up (k := 1) (by decide)) 60
  have G29 : FnB l.prog w K mg base 1 "_law_crowded" f29 _ _ _ := ⟨ok_crowded (k := 0) F29 z_list, b29, k29, m29⟩
  exact ok_law F30 z_dict (G20.up (k := 61) (by decide)) (G18.up (k := 61) (by decide)) (G22.up (k := 61) (by decide)) (G24.up (k := 61) (by decide)) (G29.up (k := 61) (by decide)) (G17.up (k := 61) (by decide)) (G28.up (k := 61) (by decide)) (G26.up (k := 61) (by decide))
theorem walk {l : PySem.W.OpenLaw} {q : Program} {loose : List Str} {XP : (Str → Option Value) → Heap → Prop} {YP : World → Heap → Prop} {d : DefRec} {K : Params → PySem.W.Frag} (hn : l.most = some 63) (hdf : d.params.defaults = [])
    (hY : ∀ (w : World) (h : Heap), YP w h → (K w.params).In h)
    (F : ∀ (w : World) (mg : Str → Option Value) (fa : Addr) (h : Heap), (K w.params).In h → h.Ns mainGlobals mg → mg d.name = some (.ref fa) →
      ∃ fd : FuncData, (∀ (s : Shared) (u : Value), BindsTo s fd ⟨[u], []⟩ [("_law_script", u)]) ∧ ∀ base : Heap, (K w.params).In base → base.Ns mainGlobals mg → FnOk l.prog w (K w.params) mg base CX0 62 fa fd ["_law_script"] (sp_law (K w.params))) :
    PySem.W.WalkO q loose XP YP l.row.toRowW d [] (fun f vs => PySem.call f vs) :=
  L2.walk_of (n := 63) (k := 62) (x := "_law_script") (CX := fun _ => CX0) (sp := fun w => sp_law (K w.params)) hn (by decide) hdf ⟨rfl, by decide, by decide⟩ hY F (fun _ _ a ns hl _ hS => ⟨a, ns, rfl, hS, hl, fun _ => rfl⟩) fun _ _ _ _ _ z => z
end K05
def PySem.W.Fast.tw17113338002003834888 : Unit := ()
open PySem PySem.W PyProof.Rows
set_option maxRecDepth 100000 in
set_option maxHeartbeats 0 in
theorem PySem.Challenge.cw_recastle_k05_renamed_holds : PySem.Challenge.rw_recastle_k05_renamed.Holds := by
  w_on; o_law; k_head; (case hw => w_witness2)
  k_fill
  refine K05.walk (l := PySem.Challenge.rw_recastle_k05_renamed) rfl rfl (fun w h Y => PySem.W.kIn_of Y) ?F
  case F =>
    intro w mg fa h KX G hmg
    refine' K05.all_mk KX G hmg ?a0 ?l0 ?c0 ?a1 ?l1 ?c1 ?a2 ?l2 ?c2 ?a3 ?l3 ?c3 ?a4 ?l4 ?c4 ?a5 ?l5 ?c5 ?a6 ?l6 ?c6 ?a7 ?l7 ?c7 ?a8 ?l8 ?c8 ?a9 ?l9 ?c9 ?a10 ?l10 ?c10 ?a11 ?l11 ?c11 ?a12 ?l12 ?c12 ?a13 ?l13 ?c13 ?a14 ?l14 ?c14 ?a15 ?l15 ?c15 ?a16 ?l16 ?c16 ?a17 ?l17 ?c17 ?a18 ?l18 ?c18 ?a19 ?l19 ?c19 ?a20 ?l20 ?c20 ?a21 ?l21 ?c21 ?a22 ?l22 ?c22 ?a23 ?l23 ?c23 ?a24 ?l24 ?c24 ?a25 ?l25 ?c25 ?a26 ?l26 ?c26 ?a27 ?l27 ?c27 ?a28 ?l28 ?c28 ?a29 ?l29 ?c29 ?a30 ?l30 ?c30 ?aC0 ?lC0 ?aC1 ?lC1 ?aLt ?z_len ?z_range ?z_isinstance ?z_int ?z_bool ?z_str ?z_tuple ?z_list ?z_dict ?z_reversed ?z_sorted ?z_enumerate ?z_any
    (case a0 => k_is); (case l0 => k_is); (case c0 => k_is); (case a1 => k_is)
    (case l1 => k_is); (case c1 => k_is); (case a2 => k_is); (case l2 => k_is)
    (case c2 => k_is); (case a3 => k_is); (case l3 => k_is); (case c3 => k_is)
    (case a4 => k_is); (case l4 => k_is); (case c4 => k_is); (case a5 => k_is)
    (case l5 => k_is); (case c5 => k_is); (case a6 => k_is); (case l6 => k_is)
    (case c6 => k_is); (case a7 => k_is); (case l7 => k_is); (case c7 => k_is)
    (case a8 => k_is); (case l8 => k_is); (case c8 => k_is); (case a9 => k_is)
    (case l9 => k_is); (case c9 => k_is); (case a10 => k_is); (case l10 => k_is)
    (case c10 => k_is); (case a11 => k_is); (case l11 => k_is); (case c11 => k_is)
    (case a12 => k_is); (case l12 => k_is); (case c12 => k_is); (case a13 => k_is)
    (case l13 => k_is); (case c13 => k_is); (case a14 => k_is); (case l14 => k_is)
    (case c14 => k_is); (case a15 => k_is); (case l15 => k_is); (case c15 => k_is)
    (case a16 => k_is); (case l16 => k_is); (case c16 => k_is); (case a17 => k_is)
    (case l17 => k_is); (case c17 => k_is); (case a18 => k_is); (case l18 => k_is)
    (case c18 => k_is); (case a19 => k_is); (case l19 => k_is); (case c19 => k_is)
    (case a20 => k_is); (case l20 => k_is); (case c20 => k_is); (case a21 => k_is)
    (case l21 => k_is); (case c21 => k_is); (case a22 => k_is); (case l22 => k_is)
    (case c22 => k_is); (case a23 => k_is); (case l23 => k_is); (case c23 => k_is)
    (case a24 => k_is); (case l24 => k_is); (case c24 => k_is); (case a25 => k_is)
    (case l25 => k_is); (case c25 => k_is); (case a26 => k_is); (case l26 => k_is)
    (case c26 => k_is); (case a27 => k_is); (case l27 => k_is); (case c27 => k_is)
    (case a28 => k_is); (case l28 => k_is); (case c28 => k_is); (case a29 => k_is)
    (case l29 => k_is); (case c29 => k_is); (case a30 => k_is); (case l30 => k_is)
    (case c30 => k_is); (case aC0 => k_is); (case lC0 => k_is); (case aC1 => k_is)
    (case lC1 => k_is); (case aLt => k_is); (case z_len => k_is); (case z_range => k_is)
    (case z_isinstance => k_is); (case z_int => k_is); (case z_bool => k_is); (case z_str => k_is)
    (case z_tuple => k_is); (case z_list => k_is); (case z_dict => k_is); (case z_reversed => k_is)
    (case z_sorted => k_is); (case z_enumerate => k_is); (case z_any => k_is)
#print axioms PySem.Challenge.cw_recastle_k05_renamed_holds