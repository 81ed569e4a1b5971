import PyProof.Rows.All
import Wide.All
import OpenK.AllK
import Wide.FinOn
import Lean
import PyProof.EqAt
import PyProof.EqKinds
import PyProof.TupleCall
import PyProof.NeKinds
import PyProof.AttrMissHeap
import KE.KDictOf
import KE.KDictLaws
import KE.KSortTup
import PyProof.Rows.SortWalk
import PyProof.Rows.SortShellK
import PySem.Challenge.RW_recastle_k36_sums_by_rules
set_option Elab.async false
set_option linter.all false
set_option maxRecDepth 100000
namespace L2
open PySem PySem.Spec PyProof.Rows
abbrev Key := Sum Int Str
def keyIs : Key → Value → Bool
  | .inl k, v => Value.isInt k v
  | .inr x, v => Value.isStrOf x v
def keyH (w : World) : Key → Int
  | .inl k => hashInt k
  | .inr x => hashStr w x
theorem keyIs_shape : ∀ {k : Key} {v : Value}, keyIs k v = true → (∃ i t, k = Sum.inl i ∧ v = Value.int i t) ∨ (∃ x t, k = Sum.inr x ∧ v = Value.str x t)
  | .inl i, v, h => by
    obtain ⟨t, e⟩ := Value.isInt_shape (k := i) (v := v) h
    exact .inl ⟨i, t, rfl, e⟩
  | .inr x, v, h => by
    obtain ⟨t, e⟩ := Value.isStrOf_shape (x := x) (v := v) h
    exact .inr ⟨x, t, rfl, e⟩
theorem keyIs_int (i : Int) (t : Tok) : keyIs (.inl i) (.int i t) = true := by simp [keyIs, Value.isInt]
theorem keyIs_str (x : Str) (t : Tok) : keyIs (.inr x) (.str x t) = true := by simp [keyIs, Value.isStrOf]
theorem key_ll (a b : Int) : decide ((Sum.inl a : Key) = Sum.inl b) = (a == b) := by
  by_cases e : a = b
  · subst e; simp
  · have h : ¬ (Sum.inl a : Key) = Sum.inl b := fun q => e (Sum.inl.inj q)
    rw [decide_eq_false h]
    exact (beq_eq_false_iff_ne.mpr e).symm
theorem key_rr (a b : Str) : decide ((Sum.inr a : Key) = Sum.inr b) = decide (a = b) := by
  by_cases e : a = b
  · subst e; simp
  · have h : ¬ (Sum.inr a : Key) = Sum.inr b := fun q => e (Sum.inr.inj q)
    rw [decide_eq_false h, decide_eq_false e]
theorem key_lr (a : Int) (b : Str) : decide ((Sum.inl a : Key) = Sum.inr b) = false := decide_eq_false (fun q => nomatch q)
theorem key_rl (a : Str) (b : Int) : decide ((Sum.inr a : Key) = Sum.inl b) = false := decide_eq_false (fun q => nomatch q)
def mixKind (prog : Program) (w : World) : PySem.KeyKind prog w Key where
  is := keyIs
  hash := keyH w
  inj := fun v a b ha hb => by
    rcases keyIs_shape ha with ⟨i, t, rfl, rfl⟩ | ⟨x, t, rfl, rfl⟩
    · rcases keyIs_shape hb with ⟨j, u, rfl, e⟩ | ⟨y, u, rfl, e⟩
      · injection e with e1 _; rw [e1]
      · exact nomatch e
    · rcases keyIs_shape hb with ⟨j, u, rfl, e⟩ | ⟨y, u, rfl, e⟩
      · exact nomatch e
      · injection e with e1 _; rw [e1]
  byValue := fun k v h => by
    rcases keyIs_shape h with ⟨i, t, rfl, rfl⟩ | ⟨x, t, rfl, rfl⟩ <;> rfl
  pyHash := fun hv h => by
    rcases keyIs_shape hv with ⟨i, t, rfl, rfl⟩ | ⟨x, t, rfl, rfl⟩
    · exact wpAny_pyHash_int h
    · exact wpAny_pyHash_str h
  eqBool := fun hu hv h => by
    rcases keyIs_shape hu with ⟨i, t, rfl, rfl⟩ | ⟨x, t, rfl, rfl⟩
    · rcases keyIs_shape hv with ⟨j, u, rfl, rfl⟩ | ⟨y, u, rfl, rfl⟩
      · rw [key_ll] at h; exact wpAny_eqBool_int h
      · rw [key_lr] at h; exact SeqAt.EqAt.int_str i t y u _ _ _ _ h
    · rcases keyIs_shape hv with ⟨j, u, rfl, rfl⟩ | ⟨y, u, rfl, rfl⟩
      · rw [key_rl] at h; exact SeqAt.EqAt.str_int x t j u _ _ _ _ h
      · rw [key_rr] at h; exact wpAny_eqBool_str h
  «strs» := fun k x t v h => by
    rcases keyIs_shape h with ⟨i, u, rfl, e⟩ | ⟨y, u, rfl, e⟩
    · exact nomatch e
    · injection e with e1 _
      subst e1
      cases v <;> rfl
end L2
namespace L2
open PySem PySem.Spec PyProof.Rows
inductive V where
  | non | bl (b : Bool) | int (i : Int) | str (x : Str) | byt (b : Array UInt8) | flt (b : UInt64) | ref (a : Addr) | ty (n : String)
  deriving DecidableEq
def RelV : V → Value → Prop
  | .non, u => u = Value.none
  | .bl b, u => u = Value.bool b
  | .int i, u => ∃ t, u = Value.int i t
  | .str x, u => ∃ t, u = Value.str x t
  | .byt b, u => ∃ t, u = Value.bytes b t
  | .flt b, u => ∃ t, u = Value.float b t
  | .ref a, u => u = Value.ref a
  | .ty n, u => u = Value.type n
abbrev Vals : List V → List Value → Prop := Paired RelV
theorem Vals.length {xs : List V} {us : List Value} (r : Vals xs us) : xs.length = us.length := Paired.length r
theorem Vals.get : ∀ {xs : List V} {us : List Value} {i : Nat} {x : V}, Vals xs us → xs[i]? = some x → ∃ u, us[i]? = some u ∧ RelV x u
  | _, _, _, _, .nil, e => by simp at e
  | _, _, 0, _, .cons r _, e => by simp at e; subst e; exact ⟨_, rfl, r⟩
  | _, _, i + 1, x, .cons _ t, e => by
    obtain ⟨u, h1, h2⟩ := Vals.get (i := i) (x := x) t (by simpa using e)
    exact ⟨u, by simpa using h1, h2⟩
theorem Vals.append : ∀ {xs ys : List V} {us ws : List Value}, Vals xs us → Vals ys ws → Vals (xs ++ ys) (us ++ ws)
  | _, _, _, _, .nil, s => s
  | _, _, _, _, .cons r t, s => .cons r (Vals.append t s)
theorem Vals.take : ∀ {xs : List V} {us : List Value} (n : Nat), Vals xs us → Vals (xs.take n) (us.take n)
  | _, _, 0, _ => .nil
  | _, _, _ + 1, .nil => .nil
  | _, _, n + 1, .cons r t => .cons r (Vals.take n t)
theorem Vals.drop : ∀ {xs : List V} {us : List Value} (n : Nat), Vals xs us → Vals (xs.drop n) (us.drop n)
  | _, _, 0, r => r
  | _, _, _ + 1, .nil => .nil
  | _, _, n + 1, .cons _ t => Vals.drop n t
def RelO : Option V → Option Value → Prop
  | some v, some u => RelV v u
  | none, none => True
  | _, _ => False
def KV {κ : Type} : List (κ × V) → List (κ × Value) → Prop := Paired fun (p : κ × V) (q : κ × Value) => p.1 = q.1 ∧ RelV p.2 q.2
def kV : Key → V
  | .inl i => .int i
  | .inr x => .str x
inductive HO where
  | lst (xs : List V)
  | tup (xs : List V)
  | dK (kvs : List (Key × V)) | dT (kvs : List (List Key × V))
  | set (S : Int → Bool) (n : Nat)
  | ins (C dx : Addr) (fs : List (Str × V))
  | own (x : Addr)
  | xd (fs : List (Str × V))
  | met (f x : Addr)
  | rng (lo hi : Int)
  | frz (o : Obj) (u : HO)
  | tbl (ps : Array Value)
  | ext (φ : Heap → Prop)
abbrev Hp := Addr → Option HO
def upd (H : Hp) (a : Addr) (o : HO) : Hp := fun b => if b = a then some o else H b
theorem upd_same {H : Hp} {a : Addr} {o : HO} : upd H a o a = some o := by unfold upd; rw [if_pos rfl]
theorem upd_ne {H : Hp} {a b : Addr} {o : HO} (h : b ≠ a) : upd H a o b = H b := by unfold upd; rw [if_neg h]
theorem ne_of_none {H : Hp} {a b : Addr} {o : HO} (h : H a = some o) (h' : H b = none) : a ≠ b := by
  intro e; subst e; rw [h] at h'; cases h'
section
variable (P : Program) (w : World)
def ObjOk (H : Hp) (h : Heap) (a : Addr) : HO → Prop
  | .lst xs => xs.length ≤ sizeLine ∧ ∃ (its : List Value) (n : Nat), Vals xs its ∧ h.get? a = some { cls := .type "list", data := .seq its.toArray n }
  | .tup xs => xs.length ≤ sizeLine ∧ ∃ its : List Value, Vals xs its ∧ IsTup h a its.toArray
  | .dK kvs => kvs.length ≤ sizeLine ∧ (a == sysModules) = false ∧ ∃ vs, KV kvs vs ∧ h.DictOf (mixKind P w) a vs
  | .dT kvs => kvs.length ≤ sizeLine ∧ (a == sysModules) = false ∧ ∃ xs : List (List Key × Addr × Value),
      Paired (fun (p : List Key × V) (q : List Key × Addr × Value) => p.1 = q.1 ∧ H q.2.1 = some (.tup (p.1.map kV)) ∧ RelV p.2 q.2.2) kvs xs ∧
      ∃ o es ep, h.get? a = some o ∧ o.ExactDict ∧ o.data = .dict es ep ∧ es.toList = xs.map (entryOfKey (tupleKind (mixKind P w))) ∧ (xs.map (·.1)).Nodup
  | .set S n => h.SetOf (intKind P w) a S n
  | .ins C dx fs => H dx = some (.own a) ∧ fs.length ≤ 1000 ∧ dx ≠ a ∧ h.get? a = some (PySem.W.instObj C dx) ∧
      ∃ mA, h.Ns1 dx mA ∧ (∀ f, RelO (fs.lookup f) (mA f)) ∧ PySem.Within mA (fs.map (·.1))
  | .own _ => ∃ o, h.get? a = some o
  | .xd fs => ∃ mA, h.Ns1 a mA ∧ ∀ f, RelO (fs.lookup f) (mA f)
  | .rng lo hi => ∃ t u v, h.get? a = some { cls := .type "range", data := .fields #[.int lo t, .int hi u, .int 1 v] }
  | .frz o u => h.get? a = some o ∧ ObjOk H h a u
  | .tbl ps => h.get? a = some { cls := .none, data := .fields ps }
  | .met f x => h.get? a = some (PySem.W.methodObj (.ref f) (.ref x))
  | .ext φ => φ h ∧ (∃ o, h.get? a = some o) ∧ ∀ h1 h2 : Heap, φ h1 → (∀ o, h1.get? a = some o → h2.get? a = some o) → φ h2
def HOk (H : Hp) (h : Heap) : Prop := ∀ a o, H a = some o → ObjOk P w H h a o
end
section
variable {P : Program} {w : World} {H H' : Hp} {h h' : Heap} {a : Addr} {o : HO}
theorem ObjOk.lt (x : ObjOk P w H h a o) : a < h.objs.size := by
  cases o with
  | lst xs => obtain ⟨_, _, _, _, e⟩ := x; exact Heap.lt_size e
  | tup xs => obtain ⟨_, _, _, p⟩ := x; exact p.lt
  | dK kvs => obtain ⟨_, _, _, _, o, _, _, e, _⟩ := x; exact Heap.lt_size e
  | dT kvs => obtain ⟨_, _, _, _, o, _, _, e, _⟩ := x; exact Heap.lt_size e
  | set S n => obtain ⟨o, _, _, _, e, _⟩ := x; exact Heap.lt_size e
  | ins C dx fs => obtain ⟨_, _, _, e, _⟩ := x; exact Heap.lt_size e
  | own y => obtain ⟨_, e⟩ := x; exact Heap.lt_size e
  | xd fs => obtain ⟨_, ⟨_, _, _, e, _⟩, _⟩ := x; exact Heap.lt_size e
  | rng lo hi => obtain ⟨_, _, _, e⟩ := x; exact Heap.lt_size e
  | frz ob u => obtain ⟨e, _⟩ := x; exact Heap.lt_size e
  | tbl ps => exact Heap.lt_size (show h.get? a = some _ from x)
  | met f y => exact Heap.lt_size (show h.get? a = some _ from x)
  | ext φ => obtain ⟨_, ⟨_, e⟩, _⟩ := x; exact Heap.lt_size e
theorem Paired.mapP {α β : Type} {F G : α → β → Prop} : ∀ {l₁ : List α} {l₂ : List β}, Paired F l₁ l₂ → (∀ a b, F a b → G a b) → Paired G l₁ l₂
  | _, _, .nil, _ => .nil
  | _, _, .cons r t, f => .cons (f _ _ r) (Paired.mapP t f)
theorem ObjOk.stay (x : ObjOk P w H h a o) (k : ∀ b u, (b = a ∨ H b = some (.own a)) → h.get? b = some u → h'.get? b = some u)
    (ho : ∀ b, H b = some (.own a) → H' b = some (.own a)) (ht : ∀ b xs, H b = some (.tup xs) → H' b = some (.tup xs)) : ObjOk P w H' h' a o := by
  induction o with
  | lst xs => obtain ⟨z, its, n, r, e⟩ := x; exact ⟨z, its, n, r, k _ _ (.inl rfl) e⟩
  | tup xs => obtain ⟨z, its, r, ob, e, c⟩ := x; exact ⟨z, its, r, ob, k _ _ (.inl rfl) e, c⟩
  | dK kvs => obtain ⟨z, y, vs, r, ob, es, ep, e, c⟩ := x; exact ⟨z, y, vs, r, ob, es, ep, k _ _ (.inl rfl) e, c⟩
  | dT kvs =>
    obtain ⟨z, y, xs, r, ob, es, ep, e, c⟩ := x
    exact ⟨z, y, xs, Paired.mapP r fun p q z => ⟨z.1, ht _ _ z.2.1, z.2.2⟩, ob, es, ep, k _ _ (.inl rfl) e, c⟩
  | set S n => obtain ⟨ob, es, ep, t, e, c⟩ := x; exact ⟨ob, es, ep, t, k _ _ (.inl rfl) e, c⟩
  | ins C dx fs =>
    obtain ⟨d, z, ne, e, mA, ⟨od, es, ep, e2, c⟩, r⟩ := x
    exact ⟨ho _ d, z, ne, k _ _ (.inl rfl) e, mA, ⟨od, es, ep, k _ _ (.inr d) e2, c⟩, r⟩
  | own y => obtain ⟨ob, e⟩ := x; exact ⟨ob, k _ _ (.inl rfl) e⟩
  | xd fs => obtain ⟨mA, ⟨od, es, ep, e, c⟩, r⟩ := x; exact ⟨mA, ⟨od, es, ep, k _ _ (.inl rfl) e, c⟩, r⟩
  | rng lo hi => obtain ⟨t, u, v, e⟩ := x; exact ⟨t, u, v, k _ _ (.inl rfl) e⟩
  | frz ob u ih => obtain ⟨e, q⟩ := x; exact ⟨k _ _ (.inl rfl) e, ih q⟩
  | tbl ps =>
    have e : h.get? a = some { cls := .none, data := .fields ps } := x
    show h'.get? a = some { cls := .none, data := .fields ps }
    exact k a _ (.inl rfl) e
  | met f y =>
    have e : h.get? a = some (PySem.W.methodObj (.ref f) (.ref y)) := x
    show h'.get? a = some (PySem.W.methodObj (.ref f) (.ref y))
    exact k a _ (.inl rfl) e
  | ext φ => obtain ⟨p, ⟨o, e⟩, st⟩ := x; exact ⟨st _ _ p fun o q => k _ _ (.inl rfl) q, ⟨o, k _ _ (.inl rfl) e⟩, st⟩
theorem HOk.lt (x : HOk P w H h) (e : H a = some o) : a < h.objs.size := (x a o e).lt
theorem HOk.fresh (x : HOk P w H h) (e : h.objs.size ≤ a) : H a = none := by
  cases q : H a with
  | none => rfl
  | some u => exact absurd (Nat.lt_of_lt_of_le (x.lt q) e) (Nat.lt_irrefl _)
theorem HOk.kept (x : HOk P w H h) (k : ∀ b u, h.get? b = some u → h'.get? b = some u) : HOk P w H h' := fun a o e =>
  (x a o e).stay (fun b u _ q => k b u q) (fun _ q => q) fun _ _ q => q
theorem HOk.laid (x : HOk P w H h) (k : ∀ b u, h.get? b = some u → h'.get? b = some u) (hp : h.objs.size ≤ a) (new : ObjOk P w (upd H a o) h' a o) : HOk P w (upd H a o) h' := fun b u e => by
  have hn := x.fresh hp
  by_cases hb : b = a
  · subst hb; rw [upd_same] at e; cases e; exact new
  · rw [upd_ne hb] at e
    exact (x b u e).stay (fun c v _ q => k c v q) (fun c q => by rw [upd_ne (ne_of_none q hn)]; exact q) fun c xs q => by rw [upd_ne (ne_of_none q hn)]; exact q
end
def Rd (H : Hp) (a : Addr) (u : HO) : Prop := H a = some u ∨ ∃ o, H a = some (.frz o u)
theorem Rd.ok {P : Program} {w : World} {H : Hp} {h : Heap} {a : Addr} {u : HO} (r : Rd H a u) (x : HOk P w H h) : ObjOk P w H h a u := by
  rcases r with r | ⟨o, r⟩
  · exact x a u r
  · obtain ⟨_, q⟩ := x a _ r
    exact q
def Mut : Option HO → Prop
  | some (.lst _) => True
  | some (.dK _) => True
  | some (.dT _) => True
  | some (.set _ _) => True
  | some (.ins _ _ _) => True
  | some (.ext _) => True
  | _ => False
section
variable {P : Program} {w : World} {H : Hp} {h h' : Heap} {x e : Addr} {o' : HO}
theorem HOk.write (ok : HOk P w H h) (mu : Mut (H x)) (he : e = x ∨ H e = some (.own x)) (k : ∀ b u, b ≠ e → h.get? b = some u → h'.get? b = some u) (heo : ∃ u, h'.get? e = some u)
    (new : ObjOk P w (upd H x o') h' x o') : HOk P w (upd H x o') h' := fun b u q => by
  have nown : ∀ c y, H c = some (.own y) → c ≠ x := fun c y r z => by subst z; rw [r] at mu; exact mu
  have ntup : ∀ c xs, H c = some (.tup xs) → c ≠ x := fun c xs r z => by subst z; rw [r] at mu; exact mu
  by_cases hb : b = x
  · subst hb; rw [upd_same] at q; cases q; exact new
  · rw [upd_ne hb] at q
    by_cases hbe : b = e
    · have q' : H b = some (.own x) := by
        rcases he with z | z
        · exact absurd (hbe.trans z) hb
        · rw [hbe]; exact z
      rw [q] at q'; cases q'
      obtain ⟨v, hv⟩ := heo
      exact ⟨v, by rw [hbe]; exact hv⟩
    · refine (ok b u q).stay (fun c v hc r => k c v ?_ r) (fun c r => by rw [upd_ne (nown c b r)]; exact r) fun c xs r => by rw [upd_ne (ntup c xs r)]; exact r
      rcases hc with rfl | hc
      · exact hbe
      · rintro rfl
        rcases he with z | z
        · exact nown c b hc z
        · rw [hc] at z; cases z; exact hb rfl
end
structure Un (fs ex : List Addr) (H H' : Hp) (h h' : Heap) : Prop where
  keep : ∀ b o, h.get? b = some o → H b = none → b ∉ fs → b ∉ ex → h'.get? b = some o
  slot : ∀ b o, h.get? b = some o → H b = none → b ∈ fs → b ∉ ex → ∃ sl, h'.get? b = some { o with slots := sl }
  free : ∀ b o, h.get? b = some o → H b = none → b ∉ ex → H' b = none
  there : ∀ b o, h.get? b = some o → b ∉ ex → ∃ o', h'.get? b = some o'
  tups : ∀ b xs, H b = some (.tup xs) → H' b = some (.tup xs)
  frzs : ∀ b o u, H b = some (.frz o u) → H' b = some (.frz o u)
  tbls : ∀ b ps, H b = some (.tbl ps) → ∃ more, H' b = some (.tbl (ps ++ more))
section
variable {fs fs' ex ex' : List Addr} {H H1 H2 : Hp} {h h1 h2 h' : Heap} {a x e : Addr} {o : HO}
theorem Un.any (u : Un fs ex H H1 h h1) {b : Addr} {ob : Obj} (q : h.get? b = some ob) (n : H b = none) (hx : b ∉ ex) : ∃ sl, h1.get? b = some { ob with slots := sl } := by
  by_cases hb : b ∈ fs
  · exact u.slot b ob q n hb hx
  · exact ⟨ob.slots, u.keep b ob q n hb hx⟩
theorem Un.kept (k : ∀ b u, h.get? b = some u → h'.get? b = some u) : Un fs ex H H h h' :=
  ⟨fun b ob q _ _ _ => k b ob q, fun b ob q _ _ _ => ⟨ob.slots, k b ob q⟩, fun _ _ _ n _ => n, fun b ob q _ => ⟨ob, k b ob q⟩, fun _ _ q => q, fun _ _ _ q => q, fun _ ps q => ⟨#[], by rw [q]; simp⟩⟩
theorem Un.refl : Un fs ex H H h h := Un.kept fun _ _ q => q
theorem Un.laid (k : ∀ b u, h.get? b = some u → h'.get? b = some u) (hp : h.objs.size ≤ a) (hn : H a = none) : Un fs ex H (upd H a o) h h' where
  keep := fun b u q _ _ _ => k b u q
  slot := fun b u q _ _ _ => ⟨u.slots, k b u q⟩
  free := fun b u q n _ => by rw [upd_ne (Nat.ne_of_lt (Nat.lt_of_lt_of_le (Heap.lt_size q) hp))]; exact n
  there := fun b u q _ => ⟨u, k b u q⟩
  tups := fun b xs q => by rw [upd_ne (ne_of_none q hn)]; exact q
  frzs := fun b u xs q => by rw [upd_ne (ne_of_none q hn)]; exact q
  tbls := fun b ps q => ⟨#[], by rw [upd_ne (ne_of_none q hn), q]; simp⟩
theorem Un.write (mu : Mut (H x)) (he : e = x ∨ H e = some (.own x)) (k : ∀ b u, b ≠ e → h.get? b = some u → h'.get? b = some u) (heo : ∃ u, h'.get? e = some u) : Un fs ex H (upd H x o) h h' := by
  have hx : ∀ b, H b = none → b ≠ x := fun b n z => by subst z; rw [n] at mu; exact mu
  have hb : ∀ b, H b = none → b ≠ e := fun b n z => by
    subst z
    rcases he with r | r
    · exact hx b n r
    · rw [n] at r; cases r
  have hm : ∀ b u, H b = some u → ¬ Mut (some u) → b ≠ x := fun b u q nm z => by subst z; rw [q] at mu; exact nm mu
  refine ⟨fun b u q n _ _ => k b u (hb b n) q, fun b u q n _ _ => ⟨u.slots, k b u (hb b n) q⟩, fun b u q n _ => by rw [upd_ne (hx b n)]; exact n, fun b u q _ => ?_,
    fun b xs q => by rw [upd_ne (hm b _ q fun z => z)]; exact q, fun b u xs q => by rw [upd_ne (hm b _ q fun z => z)]; exact q, fun b ps q => ⟨#[], by rw [upd_ne (hm b _ q fun z => z), q]; simp⟩⟩
  by_cases hbe : b = e
  · subst hbe; exact heo
  · exact ⟨u, k b u hbe q⟩
end
def trk (h : Heap) (H : Hp) : List Addr := (List.range h.objs.size).filter fun a => (H a).isSome
def hidT (h : Heap) (H : Hp) : Heap := PySem.W.hideAll h (trk h H)
theorem hidT_size (h : Heap) (H : Hp) : (hidT h H).objs.size = h.objs.size := PySem.W.hideAll_size _ _
theorem hidT_get {h : Heap} {H : Hp} {b : Addr} {o : Obj} (e : h.get? b = some o) (n : H b = none) : (hidT h H).get? b = some o :=
  PySem.W.hideAll_get _ e fun hm => by
    have q : (H b).isSome = true := (List.mem_filter.mp hm).2
    rw [n] at q; simp at q
theorem of_hidT {h : Heap} {H : Hp} {b : Addr} {o : Obj} (e : (hidT h H).get? b = some o) : h.get? b = some o ∧ H b = none := by
  have e' : h.get? b = some o := PySem.W.of_hideAll (trk h H) e
  refine ⟨e', ?_⟩
  cases q : H b with
  | none => rfl
  | some x =>
    have hm : b ∈ trk h H := List.mem_filter.mpr ⟨List.mem_range.mpr (Heap.lt_size e'), by simp [q]⟩
    have z : (hidT h H).get? b = none := PySem.W.hideAll_none (trk h H) hm
    rw [z] at e; cases e
def allNews (g h : Heap) (L : Addr) : List (Addr × Obj) := (List.range h.objs.size).filterMap fun a => if a = L ∨ (g.get? a).isSome = true then none else (h.get? a).map fun o => (a, o)
def rest (g h : Heap) (L d : Addr) : List (Addr × Obj) := (allNews g h L).filter fun p => decide (p.1 ≠ d)
end L2
namespace L2
open PySem PySem.Spec PyProof.Rows
structure Mod (K : PySem.W.Frag) (mg : Str → Option Value) (base : Heap) : Prop where
  kin : K.In base
  glob : base.Ns mainGlobals mg
  blt : ∃ mb, base.Ns builtinsNs mb ∧ ∀ x : Str, x ≠ "__name__" → mb x = bootBuiltins x
  nolimit : base.NoLimit
structure Cx where
  prog : Program
  w : World
  K : PySem.W.Frag
  mg : Str → Option Value
  base : Heap
  A : Around
  N : List Str
  s₀ : Shared
  H₀ : Hp
  env : Env
  outer : List Env
  stack : List Env
  ex : List Addr
  fn : Str → Bool
  calm : Bool
  pn : List (Addr × Obj)
  xe : Value → Shared → Prop
def frs (l : List Env) : List Addr := l.filterMap (·.frame)
abbrev Cx.fs (X : Cx) : List Addr := frs X.outer
def Vis (sc : Scope) (x : Str) : Prop := sc.names.lookup x = some .local ∨ sc.names.lookup x = some .cell ∨ sc.names.lookup x = some .free
def Loc (sc : Scope) (x : Str) : Prop := sc.names.lookup x = some .local ∨ sc.names.lookup x = some .cell
def Look (env : Env) (h : Heap) (m : Str → Option Value) (x : Str) (u : Value) : Prop :=
  (env.kindOf x = some .local ∧ m x = some u) ∨ ((env.kindOf x = some .cell ∨ env.kindOf x = some .free) ∧ ∃ c, env.cells.lookup x = some c ∧ h.IsCell c (some u))
structure Cx.Ok (X : Cx) : Prop where
  mod : Mod X.K X.mg X.base
  kind : X.env.scope.kind = .function
  glob : X.env.globals = mainGlobals
  blt : X.env.builtins = builtinsNs
  above : X.s₀.heap.objs.size ≤ X.env.locals
  inj : ∀ x y c, X.env.cells.lookup x = some c → X.env.cells.lookup y = some c → x = y
  has : ∀ x, (X.env.kindOf x = some .cell ∨ X.env.kindOf x = some .free) → ∃ c, X.env.cells.lookup x = some c
  cab : ∀ x c, X.fn x = true → X.env.cells.lookup x = some c → X.s₀.heap.objs.size ≤ c
  hd : X.calm = true → X.A.handled = none
  frames : X.A.frames = some X.stack
  stk : X.stack = X.outer ∨ (X.stack = X.env :: X.outer ∧ X.env.frame = some X.env.locals)
  exf : ∀ b ∈ X.ex, b ≠ X.env.locals ∧ ∀ x c, X.env.cells.lookup x = some c → c ≠ b
  bs : ∀ b o, X.base.get? b = some o → X.s₀.heap.get? b = some o ∧ X.H₀ b = none
  bsz : X.base.objs.size ≤ X.s₀.heap.objs.size
  noex : ∀ b o, X.base.get? b = some o → b ∉ X.ex
  exfs : ∀ b ∈ X.ex, b ∉ X.fs
  funs : X.s₀.heap.FunFrames X.base X.outer
  frf : ∀ b ∈ X.fs, X.H₀ b = none
structure Inv (X : Cx) (pins : List (Addr × Obj)) (σ : List (Option V)) (H : Hp) (s : Shared) : Prop where
  ok : X.Ok
  os : s.os = X.s₀.os
  bare : AllBare s.gens
  base : Un X.fs X.ex X.H₀ H X.s₀.heap s.heap
  loc : ∃ m, s.heap.Ns X.env.locals m ∧ ∀ (i : Nat) (x : Str) (v : V), X.N[i]? = some x → σ[i]? = some (some v) → Vis X.env.scope x → ∃ u, RelV v u ∧ Look X.env s.heap m x u
  cell : ∀ x c, X.env.cells.lookup x = some c → ∃ v, s.heap.IsCell c v
  free : H X.env.locals = none
  freeC : ∀ x c, X.env.cells.lookup x = some c → H c = none
  pin : ∀ p ∈ X.pn ++ pins, s.heap.get? p.1 = some p.2 ∧ H p.1 = none ∧ p.1 ≠ X.env.locals ∧ p.1 ∉ X.fs ∧ ∀ v, p.2.data ≠ .cell v
  hok : HOk X.prog X.w H s.heap
  len : σ.length = X.N.length
section
variable {X : Cx} {pins : List (Addr × Obj)} {σ : List (Option V)} {H H' : Hp} {s : Shared} {h' : Heap}
theorem Cx.Ok.nofr (ok : X.Ok) {b : Addr} {o : Obj} (e : X.base.get? b = some o) : b ∉ X.fs := fun hb => by
  have := (ok.funs.mem hb).1
  rw [e] at this; cases this
theorem Inv.bs (I : Inv X pins σ H s) : ∀ b o, X.base.get? b = some o → s.heap.get? b = some o ∧ H b = none := fun b o e =>
  ⟨I.base.keep b o (I.ok.bs b o e).1 (I.ok.bs b o e).2 (I.ok.nofr e) (I.ok.noex b o e), I.base.free b o (I.ok.bs b o e).1 (I.ok.bs b o e).2 (I.ok.noex b o e)⟩
theorem Inv.bk (I : Inv X pins σ H s) : ∀ b o, X.base.get? b = some o → s.heap.get? b = some o := fun b o e => (I.bs b o e).1
theorem Inv.mod (I : Inv X pins σ H s) : Mod X.K X.mg X.base := I.ok.mod
theorem Inv.kIn (I : Inv X pins σ H s) : X.K.In s.heap := I.ok.mod.kin.keeps I.bk
theorem Inv.lt (I : Inv X pins σ H s) : X.env.locals < s.heap.objs.size := let ⟨_, hn, _⟩ := I.loc; hn.lt
theorem Inv.sz (I : Inv X pins σ H s) : X.s₀.heap.objs.size ≤ s.heap.objs.size := Nat.le_trans I.ok.above (Nat.le_of_lt I.lt)
theorem Inv.nofs (I : Inv X pins σ H s) {a : Addr} (h : s.heap.objs.size ≤ a) : a ∉ X.fs := fun hb => by
  obtain ⟨_, o, ho, _⟩ := I.ok.funs.mem hb
  exact absurd (Nat.lt_of_lt_of_le (Heap.lt_size ho) (Nat.le_trans I.sz h)) (Nat.lt_irrefl _)
theorem Inv.cne (I : Inv X pins σ H s) : ∀ x c, X.env.cells.lookup x = some c → c ≠ X.env.locals := fun x c e z => by
  obtain ⟨v, o, ho, hd⟩ := I.cell x c e
  obtain ⟨m, ⟨o', es, ep, ho', hd', _⟩, _⟩ := I.loc
  rw [z, ho'] at ho; cases ho; rw [hd'] at hd; cases hd
theorem Inv.funs (I : Inv X pins σ H s) : s.heap.FunFrames X.base X.outer := by
  have all : ∀ (l : List Env), (∀ b ∈ frs l, b ∈ X.fs) → X.s₀.heap.FunFrames X.base l → s.heap.FunFrames X.base l := by
    intro l
    induction l with
    | nil => intro _ _; trivial
    | cons env r ih =>
      intro hs hl
      obtain ⟨hk, ⟨L, o, hf, hn, ho, hd⟩, hr⟩ := hl
      have hL : L ∈ X.fs := hs L (by unfold frs; rw [List.filterMap_cons, hf]; exact List.mem_cons_self)
      obtain ⟨sl, e⟩ := I.base.slot L o ho (I.ok.frf L hL) hL fun z => I.ok.exfs L z hL
      exact ⟨hk, ⟨L, _, hf, hn, e, hd⟩, ih (fun b hb => hs b (by unfold frs; rw [List.filterMap_cons, hf]; exact List.mem_cons_of_mem _ hb)) hr⟩
  exact all X.outer (fun _ hb => hb) I.ok.funs
theorem Inv.stack (I : Inv X pins σ H s) : s.heap.FunFrames X.base X.stack := by
  rcases I.ok.stk with e | ⟨e, hf⟩
  · rw [e]; exact I.funs
  · rw [e]
    obtain ⟨m, hn, _⟩ := I.loc
    refine .cons (by rw [I.ok.kind]; decide) hf hn ?_ I.funs
    exact Heap.get?_none_of_le (Nat.le_trans I.ok.bsz I.ok.above)
theorem Inv.stkSub (I : Inv X pins σ H s) : ∀ b ∈ frs X.stack, b ∈ X.env.locals :: X.fs := fun b hb => by
  rcases I.ok.stk with e | ⟨e, hf⟩
  · rw [e] at hb; exact List.mem_cons_of_mem _ hb
  · rw [e] at hb
    unfold frs at hb
    rw [List.filterMap_cons, hf] at hb
    exact hb
theorem Inv.stkFree (I : Inv X pins σ H s) : ∀ b ∈ frs X.stack, H b = none := fun b hb => by
  rcases List.mem_cons.mp (I.stkSub b hb) with e | hb
  · rw [e]; exact I.free
  · obtain ⟨_, o, ho, _⟩ := I.ok.funs.mem hb
    exact I.base.free b o ho (I.ok.frf b hb) fun z => I.ok.exfs b z hb
theorem Inv.step {g' : Array GenState} {t' : Nat} {d' : Drawn} {ch : List Addr} (I : Inv X pins σ H s)
    (hch : ∀ b ∈ ch, (b ∈ X.ex ∨ X.s₀.heap.objs.size ≤ b) ∧ b ≠ X.env.locals ∧ (∀ x c, X.env.cells.lookup x = some c → c ≠ b) ∧ ∀ p ∈ X.pn ++ pins, p.1 ≠ b)
    (keep : ∀ b o, b ≠ X.env.locals → b ∉ X.fs → b ∉ ch → s.heap.get? b = some o → H b = none → h'.get? b = some o)
    (slot : ∀ b o, b ≠ X.env.locals → b ∈ X.fs → b ∉ ch → s.heap.get? b = some o → H b = none → ∃ sl, h'.get? b = some { o with slots := sl }) (free : ∀ b o, b ∉ ch → s.heap.get? b = some o → H b = none → H' b = none)
    (there : ∀ b o, b ∉ ch → s.heap.get? b = some o → ∃ o', h'.get? b = some o')
    (tups : ∀ b xs, H b = some (.tup xs) → H' b = some (.tup xs)) (frzs : ∀ b o u, H b = some (.frz o u) → H' b = some (.frz o u)) (tbls : ∀ b ps, H b = some (.tbl ps) → ∃ more, H' b = some (.tbl (ps ++ more)))
    (ns : ∀ m, s.heap.Ns X.env.locals m → h'.Ns X.env.locals m) (hok : HOk X.prog X.w H' h') (hg : AllBare g') :
    Inv X pins σ H' { s with heap := h', gens := g', drawn := d', toks := t' } := by
  have neL : ∀ b o, X.s₀.heap.get? b = some o → b ≠ X.env.locals := fun b o e => Nat.ne_of_lt (Nat.lt_of_lt_of_le (Heap.lt_size e) I.ok.above)
  have neC : ∀ b o, X.s₀.heap.get? b = some o → b ∉ X.ex → b ∉ ch := fun b o e hx hb => by
    rcases (hch b hb).1 with z | z
    · exact hx z
    · exact absurd (Nat.lt_of_lt_of_le (Heap.lt_size e) z) (Nat.lt_irrefl _)
  have cellK : ∀ x c, X.env.cells.lookup x = some c → ∀ v, s.heap.IsCell c v → h'.IsCell c v := fun x c e v ⟨o, ho, hd⟩ => by
    have nch : c ∉ ch := fun z => (hch c z).2.2.1 x c e rfl
    by_cases hc : c ∈ X.fs
    · obtain ⟨sl, q⟩ := slot c o (I.cne x c e) hc nch ho (I.freeC x c e)
      exact ⟨_, q, hd⟩
    · exact ⟨o, keep c o (I.cne x c e) hc nch ho (I.freeC x c e), hd⟩
  refine ⟨I.ok, I.os, hg, ⟨fun b o e n hb hx => ?_, fun b o e n hb hx => ?_, fun b o e n hx => ?_, fun b o e hx => ?_, fun b xs e => tups b xs (I.base.tups b xs e), fun b o xs e => frzs b o xs (I.base.frzs b o xs e), fun b ps e => ?_⟩, ?_, fun x c e => ?_, ?_, fun x c e => ?_, fun p hp => ?_, hok, I.len⟩
  · exact keep b o (neL b o e) hb (neC b o e hx) (I.base.keep b o e n hb hx) (I.base.free b o e n hx)
  · obtain ⟨sl, e1⟩ := I.base.slot b o e n hb hx
    obtain ⟨sl', e2⟩ := slot b _ (neL b o e) hb (neC b o e hx) e1 (I.base.free b o e n hx)
    exact ⟨sl', e2⟩
  · obtain ⟨o', e1⟩ := I.base.there b o e hx
    exact free b o' (neC b o e hx) e1 (I.base.free b o e n hx)
  · obtain ⟨o', e1⟩ := I.base.there b o e hx
    exact there b o' (neC b o e hx) e1
  · obtain ⟨m1, e1⟩ := I.base.tbls b ps e
    obtain ⟨m2, e2⟩ := tbls b _ e1
    exact ⟨m1 ++ m2, by rw [e2, Array.append_assoc]⟩
  · obtain ⟨m, hn, hl⟩ := I.loc
    refine ⟨m, ns m hn, fun i x v e1 e2 e3 => ?_⟩
    obtain ⟨u, r, l⟩ := hl i x v e1 e2 e3
    refine ⟨u, r, ?_⟩
    rcases l with l | ⟨k, c, e, z⟩
    · exact .inl l
    · exact .inr ⟨k, c, e, cellK x c e _ z⟩
  · obtain ⟨v, z⟩ := I.cell x c e
    exact ⟨v, cellK x c e v z⟩
  · obtain ⟨m, ⟨o, _, _, ho, _⟩, _⟩ := I.loc
    exact free _ o (fun z => (hch _ z).2.1 rfl) ho I.free
  · obtain ⟨v, o, ho, hd⟩ := I.cell x c e
    exact free c o (fun z => (hch c z).2.2.1 x c e rfl) ho (I.freeC x c e)
  · obtain ⟨e, n, ne, nf, d⟩ := I.pin p hp
    have nch : p.1 ∉ ch := fun z => (hch p.1 z).2.2.2 p hp rfl
    exact ⟨keep p.1 p.2 ne nf nch e n, free p.1 p.2 nch e n, ne, nf, d⟩
theorem Inv.un {t' : Nat} (I : Inv X pins σ H s) (u : Un X.fs [] H H' s.heap h') (hok : HOk X.prog X.w H' h') : Inv X pins σ H' { s with heap := h', toks := t' } := by
  obtain ⟨m, ⟨o, es, ep, ho, r⟩, _⟩ := id I.loc
  obtain ⟨sl, hL⟩ := u.any ho I.free (by simp)
  exact I.step (g' := s.gens) (d' := s.drawn) (ch := []) (fun _ z => nomatch z) (fun b o _ hb _ e n => u.keep b o e n hb (by simp)) (fun b o _ hb _ e n => u.slot b o e n hb (by simp)) (fun b o _ e n => u.free b o e n (by simp)) (fun b o _ e => u.there b o e (by simp)) u.tups u.frzs u.tbls (fun m' hm => by
    obtain ⟨o', es', ep', ho', r'⟩ := hm
    rw [ho] at ho'; cases ho'
    exact ⟨_, es', ep', hL, r'⟩) hok I.bare
theorem Inv.call {g' : Array GenState} {t' : Nat} {d' : Drawn} {ch : List Addr} (I : Inv X pins σ H s) (u : Un (frs X.stack) ch H H' s.heap h') (hok : HOk X.prog X.w H' h') (hg : AllBare g')
    (hch : ∀ b ∈ ch, (b ∈ X.ex ∨ X.s₀.heap.objs.size ≤ b) ∧ b ≠ X.env.locals ∧ (∀ x c, X.env.cells.lookup x = some c → c ≠ b) ∧ ∀ p ∈ X.pn ++ pins, p.1 ≠ b) :
    Inv X pins σ H' { s with heap := h', gens := g', drawn := d', toks := t' } := by
  obtain ⟨m, ⟨o, es, ep, ho, r⟩, _⟩ := id I.loc
  obtain ⟨sl, hL⟩ := u.any ho I.free fun z => (hch _ z).2.1 rfl
  exact I.step (ch := ch) hch (fun b o hL hb hc e n => u.keep b o e n (fun z => (List.mem_cons.mp (I.stkSub b z)).elim hL hb) hc) (fun b o _ _ hc e n => u.any e n hc) (fun b o hc e n => u.free b o e n hc) (fun b o hc e => u.there b o e hc) u.tups u.frzs u.tbls (fun m' hm => by
    obtain ⟨o', es', ep', ho', r'⟩ := hm
    rw [ho] at ho'; cases ho'
    exact ⟨_, es', ep', hL, r'⟩) hok hg
theorem Inv.turned {t' : Nat} {it : Addr} (I : Inv X pins σ H s) (k : ∀ b o, b ≠ it → s.heap.get? b = some o → h'.get? b = some o) (hn : H it = none) (hL : it ≠ X.env.locals)
    (h1 : it ∈ X.ex ∨ X.s₀.heap.objs.size ≤ it) (h2 : ∀ x c, X.env.cells.lookup x = some c → c ≠ it) (h3 : ∀ p ∈ X.pn ++ pins, p.1 ≠ it) : Inv X pins σ H { s with heap := h', toks := t' } := by
  have nit : ∀ b u, H b = some u → b ≠ it := fun b u e z => by rw [z, hn] at e; cases e
  refine I.step (g' := s.gens) (d' := s.drawn) (ch := [it]) (fun b hb => ?_) (fun b o _ _ hc e _ => k b o (fun z => hc (by simp [z])) e) (fun b o _ _ hc e _ => ⟨o.slots, k b o (fun z => hc (by simp [z])) e⟩) (fun _ _ _ _ n => n)
    (fun b o hc e => ⟨o, k b o (fun z => hc (by simp [z])) e⟩) (fun _ _ e => e) (fun _ _ _ e => e) (fun b ps e => ⟨#[], by rw [e]; simp⟩) (fun m hm => ?_) (fun b u e => ?_) I.bare
  · have e : b = it := by simpa using hb
    subst e
    exact ⟨h1, hL, h2, h3⟩
  · obtain ⟨o, es, ep, ho, r⟩ := hm
    exact ⟨o, es, ep, k _ o (Ne.symm hL) ho, r⟩
  · refine (I.hok b u e).stay (fun c v hc q => k c v ?_ q) (fun _ q => q) fun _ _ q => q
    rcases hc with z | z
    · rw [z]; exact nit b u e
    · exact nit c _ z
theorem Inv.tok (I : Inv X pins σ H s) (t : Nat) : Inv X pins σ H { s with toks := t } := I.un (h' := s.heap) (t' := t) Un.refl I.hok
theorem Inv.kept {t' : Nat} (I : Inv X pins σ H s) (k : ∀ b u, s.heap.get? b = some u → h'.get? b = some u) : Inv X pins σ H { s with heap := h', toks := t' } := I.un (Un.kept k) (I.hok.kept k)
theorem Inv.laid {a : Addr} {o : HO} {t' : Nat} (I : Inv X pins σ H s) (k : ∀ b u, s.heap.get? b = some u → h'.get? b = some u) (hp : s.heap.objs.size ≤ a) (new : ObjOk X.prog X.w (upd H a o) h' a o) :
    Inv X pins σ (upd H a o) { s with heap := h', toks := t' } := I.un (Un.laid k hp (I.hok.fresh hp)) (I.hok.laid k hp new)
theorem Inv.write {x e : Addr} {o : HO} {t' : Nat} (I : Inv X pins σ H s) (mu : Mut (H x)) (he : e = x ∨ H e = some (.own x)) (k : ∀ b u, b ≠ e → s.heap.get? b = some u → h'.get? b = some u) (heo : ∃ u, h'.get? e = some u)
    (new : ObjOk X.prog X.w (upd H x o) h' x o) : Inv X pins σ (upd H x o) { s with heap := h', toks := t' } := I.un (Un.write mu he k heo) (I.hok.write mu he k heo new)
theorem Inv.weak {σ' : List (Option V)} (I : Inv X pins σ H s) (hl : σ'.length = σ.length) (w : ∀ (i : Nat) v, σ'[i]? = some (some v) → σ[i]? = some (some v)) : Inv X pins σ' H s :=
  ⟨I.ok, I.os, I.bare, I.base, let ⟨m, hn, hl'⟩ := I.loc; ⟨m, hn, fun i x v e1 e2 e3 => hl' i x v e1 (w i v e2) e3⟩, I.cell, I.free, I.freeC, I.pin, I.hok, hl.trans I.len⟩
theorem Inv.pins_of {pins' : List (Addr × Obj)} (I : Inv X pins σ H s) (h : ∀ p ∈ pins', s.heap.get? p.1 = some p.2 ∧ H p.1 = none ∧ p.1 ≠ X.env.locals ∧ p.1 ∉ X.fs ∧ ∀ v, p.2.data ≠ .cell v) : Inv X pins' σ H s :=
  ⟨I.ok, I.os, I.bare, I.base, I.loc, I.cell, I.free, I.freeC, fun p hp => (List.mem_append.mp hp).elim (fun z => I.pin p (List.mem_append_left _ z)) (h p), I.hok, I.len⟩
theorem nodup_ix {N : List Str} (hN : N.Nodup) {i j : Nat} {x : Str} (a : N[i]? = some x) (b : N[j]? = some x) : i = j := by
  obtain ⟨h1, e1⟩ := List.getElem?_eq_some_iff.mp a
  obtain ⟨h2, e2⟩ := List.getElem?_eq_some_iff.mp b
  exact (List.getElem_inj hN).mp (e1.trans e2.symm)
theorem store_ok2 {M : Model} {A : Around} {E : Value → Shared → Prop} {i : Nat} {x : Str} {v : V} {u : Value} {Q : Unit → Shared → Prop} (I : Inv X pins σ H s) (hN : X.N.Nodup) (hi : X.N[i]? = some x) (hx : Loc X.env.scope x) (r : RelV v u)
    (h : ∀ s', Inv X pins (σ.set i (some v)) H s' → (∃ a, Heap.SameBut a s.heap s'.heap ∧ (a = X.env.locals ∨ X.env.cells.lookup x = some a)) → Q () s') (hf : X.fn x = true ∨ X.env.scope.names.lookup x = some .local := by first | exact .inl rfl | exact .inr rfl | assumption) : wpAny M A (storeName X.env x u) Q E s := by
  obtain ⟨m, hn, hl⟩ := id I.loc
  have hcls : (X.env.scope.kind == .class || (X.env.scope.kind == .module && X.env.locals != X.env.globals)) = false := by rw [I.ok.kind]; rfl
  have hiσ : i < σ.length := by rw [I.len]; exact (List.getElem?_eq_some_iff.mp hi).1
  have cne := I.cne
  have tracked : ∀ {a : Addr} {h' : Heap}, (∃ o, s.heap.get? a = some o ∧ H a = none) → Heap.SameBut a s.heap h' → HOk X.prog X.w H h' := fun {a h'} ha hs b ob e => by
    obtain ⟨_, _, hfree⟩ := ha
    refine (I.hok b ob e).stay (fun c w' hc q => (hs.2 c ?_).trans q) (fun _ q => q) fun _ _ q => q
    rintro rfl
    rcases hc with rfl | hc
    · rw [hfree] at e; cases e
    · rw [hfree] at hc; cases hc
  rcases hx with hk | hk
  · refine wpAny_storeName_local hk hn (fun h' hn' hs => ?_) hcls
    obtain ⟨oL, _, _, hoL, _⟩ := id hn
    refine h _ ⟨I.ok, I.os, I.bare, ⟨fun b o e n hb hx => ?_, fun b o e n hb hx => ?_, I.base.free, fun b o e hx => ?_, I.base.tups, I.base.frzs, I.base.tbls⟩, ⟨_, hn', fun j y v' e1 e2 e3 => ?_⟩, fun y c e => ?_, I.free, I.freeC, fun p hp => ?_, tracked ⟨oL, hoL, I.free⟩ hs, by simpa using I.len⟩ ⟨_, hs, .inl rfl⟩
    · exact (hs.2 b (Nat.ne_of_lt (Nat.lt_of_lt_of_le (Heap.lt_size e) I.ok.above))).trans (I.base.keep b o e n hb hx)
    · obtain ⟨sl, e1⟩ := I.base.slot b o e n hb hx
      exact ⟨sl, (hs.2 b (Nat.ne_of_lt (Nat.lt_of_lt_of_le (Heap.lt_size e) I.ok.above))).trans e1⟩
    · obtain ⟨o', e1⟩ := I.base.there b o e hx
      exact ⟨o', (hs.2 b (Nat.ne_of_lt (Nat.lt_of_lt_of_le (Heap.lt_size e) I.ok.above))).trans e1⟩
    · by_cases hj : j = i
      · subst hj
        rw [hi] at e1; cases e1
        rw [List.getElem?_set_self hiσ] at e2
        cases e2
        exact ⟨u, r, .inl ⟨hk, by simp⟩⟩
      · rw [List.getElem?_set_ne (Ne.symm hj)] at e2
        obtain ⟨u', r', q⟩ := hl j y v' e1 e2 e3
        refine ⟨u', r', ?_⟩
        rcases q with ⟨k, e⟩ | ⟨k, c, e, z⟩
        · refine .inl ⟨k, ?_⟩
          have : y ≠ x := fun e => hj (nodup_ix hN e1 (e ▸ hi))
          simp [this, e]
        · exact .inr ⟨k, c, e, z.sameBut hs (cne y c e)⟩
    · obtain ⟨w', z⟩ := I.cell y c e
      exact ⟨w', z.sameBut hs (cne y c e)⟩
    · obtain ⟨e, n, ne, nf, d⟩ := I.pin p hp
      exact ⟨(hs.2 p.1 ne).trans e, n, ne, nf, d⟩
  · have hfn : X.fn x = true := by
      rcases hf with z | z
      · exact z
      · rw [z] at hk; cases hk
    obtain ⟨c, hc⟩ := I.ok.has x (.inl hk)
    obtain ⟨w', z⟩ := I.cell x c hc
    refine wpAny_storeName_cell I.ok.kind hk hc z (fun h' hc' hs => ?_)
    obtain ⟨oc, hoc, hocd⟩ := id z
    refine h { s with heap := h' } ⟨I.ok, I.os, I.bare, ⟨fun b o e n hb hx => ?_, fun b o e n hb hx => ?_, I.base.free, fun b o e hx => ?_, I.base.tups, I.base.frzs, I.base.tbls⟩, ⟨m, hn.sameBut hs (Ne.symm (cne x c hc)), fun j y v' e1 e2 e3 => ?_⟩, fun y c' e => ?_, I.free, I.freeC, fun p hp => ?_, tracked ⟨oc, hoc, I.freeC x c hc⟩ hs, by simpa using I.len⟩ ⟨c, hs, .inr hc⟩
    · exact (hs.2 b (Nat.ne_of_lt (Nat.lt_of_lt_of_le (Heap.lt_size e) (I.ok.cab x c hfn hc)))).trans (I.base.keep b o e n hb hx)
    · obtain ⟨sl, e1⟩ := I.base.slot b o e n hb hx
      exact ⟨sl, (hs.2 b (Nat.ne_of_lt (Nat.lt_of_lt_of_le (Heap.lt_size e) (I.ok.cab x c hfn hc)))).trans e1⟩
    · obtain ⟨o', e1⟩ := I.base.there b o e hx
      exact ⟨o', (hs.2 b (Nat.ne_of_lt (Nat.lt_of_lt_of_le (Heap.lt_size e) (I.ok.cab x c hfn hc)))).trans e1⟩
    · by_cases hj : j = i
      · subst hj
        rw [hi] at e1; cases e1
        rw [List.getElem?_set_self hiσ] at e2
        cases e2
        exact ⟨u, r, .inr ⟨.inl hk, c, hc, hc'⟩⟩
      · rw [List.getElem?_set_ne (Ne.symm hj)] at e2
        obtain ⟨u', r', q⟩ := hl j y v' e1 e2 e3
        refine ⟨u', r', ?_⟩
        rcases q with q | ⟨k, c', e, z'⟩
        · exact .inl q
        · refine .inr ⟨k, c', e, z'.sameBut hs ?_⟩
          rintro rfl
          exact hj (nodup_ix hN e1 (I.ok.inj _ _ _ e hc ▸ hi))
    · by_cases hcc : c' = c
      · subst hcc; exact ⟨_, hc'⟩
      · obtain ⟨w2, z2⟩ := I.cell y c' e
        exact ⟨w2, z2.sameBut hs hcc⟩
    · obtain ⟨e, n, ne, nf, d⟩ := I.pin p hp
      refine ⟨(hs.2 p.1 ?_).trans e, n, ne, nf, d⟩
      intro q
      rw [q, hoc] at e
      have q' : oc = p.2 := Option.some.inj e
      exact d w' (by rw [← q']; exact hocd)
theorem store_ok {M : Model} {A : Around} {E : Value → Shared → Prop} {i : Nat} {x : Str} {v : V} {u : Value} {Q : Unit → Shared → Prop} (I : Inv X pins σ H s) (hN : X.N.Nodup) (hi : X.N[i]? = some x) (hx : Loc X.env.scope x) (r : RelV v u)
    (h : ∀ s', Inv X pins (σ.set i (some v)) H s' → Q () s') (hf : X.fn x = true ∨ X.env.scope.names.lookup x = some .local := by first | exact .inl rfl | exact .inr rfl | assumption) : wpAny M A (storeName X.env x u) Q E s :=
  store_ok2 I hN hi hx r (fun s' I' _ => h s' I') hf
theorem Inv.call' {s' : Shared} {ch : List Addr} (I : Inv X pins σ H s) (ho : s'.os = s.os) (u : Un (frs X.stack) ch H H' s.heap s'.heap) (hok : HOk X.prog X.w H' s'.heap) (hg : AllBare s'.gens)
    (hch : ∀ b ∈ ch, (b ∈ X.ex ∨ X.s₀.heap.objs.size ≤ b) ∧ b ≠ X.env.locals ∧ (∀ x c, X.env.cells.lookup x = some c → c ≠ b) ∧ ∀ p ∈ X.pn ++ pins, p.1 ≠ b) : Inv X pins σ H' s' := by
  obtain ⟨h', g', d', t', o'⟩ := s'
  have e : o' = s.os := ho
  subst e
  exact I.call (g' := g') (t' := t') (d' := d') u hok hg hch
end
abbrev XK := Value → Option Addr → Hp → Prop
abbrev St := List (Option V)
abbrev VK := V → Hp → Prop
abbrev TE := St → Hp → VK → Prop
abbrev TT := St → Hp → (Bool → Hp → Prop) → Prop
abbrev TA := St → Hp → (List V → Hp → Prop) → Prop
structure Ends where
  nx : St → Hp → Prop
  rt : VK
  bk : St → Hp → Prop := fun _ _ => False
  ct : St → Hp → Prop := fun _ _ => False
abbrev TS := Ends → St → Hp → Prop
def EP (X : Cx) (pins : List (Addr × Obj)) (σ : St) (Q : VK) (u : Value) (s' : Shared) : Prop := ∃ v H', Inv X pins σ H' s' ∧ RelV v u ∧ Q v H'
def TP (X : Cx) (pins : List (Addr × Obj)) (σ : St) (Q : Bool → Hp → Prop) (b : Bool) (s' : Shared) : Prop := ∃ H', Inv X pins σ H' s' ∧ Q b H'
def AP (X : Cx) (pins : List (Addr × Obj)) (σ : St) (Q : List V → Hp → Prop) (us : List Value) (s' : Shared) : Prop := ∃ vs H', Inv X pins σ H' s' ∧ Vals vs us ∧ Q vs H'
def SP (X : Cx) (pins : List (Addr × Obj)) (D : Ends) (f : Flow) (s' : Shared) : Prop :=
  match f with
  | .next => ∃ σ' H', Inv X pins σ' H' s' ∧ D.nx σ' H'
  | .brk => ∃ σ' H', Inv X pins σ' H' s' ∧ D.bk σ' H'
  | .cont => ∃ σ' H', Inv X pins σ' H' s' ∧ D.ct σ' H'
  | .ret u => ∃ v σ' H', Inv X pins σ' H' s' ∧ RelV v u ∧ D.rt v H'
def PE (X : Cx) (e : Expr) (t : TE) : Prop :=
  ∀ (pins : List (Addr × Obj)) (s : Shared) (σ : St) (H : Hp) (Q : VK), Inv X pins σ H s → t σ H Q → wpAny (model X.prog X.w) X.A (eval e X.env) (EP X pins σ Q) X.xe s
def PT (X : Cx) (e : Expr) (t : TT) : Prop :=
  ∀ (pins : List (Addr × Obj)) (s : Shared) (σ : St) (H : Hp) (Q : Bool → Hp → Prop), Inv X pins σ H s → t σ H Q → wpAny (model X.prog X.w) X.A (isTrue e X.env (eval e X.env)) (TP X pins σ Q) X.xe s
def PW (X : Cx) (e : Expr) (t : TT) : Prop :=
  ∀ (whole : Sem Value) (pins : List (Addr × Obj)) (s : Shared) (σ : St) (H : Hp) (Q : Bool → Hp → Prop), Inv X pins σ H s → t σ H Q → wpAny (model X.prog X.w) X.A (isTrue e X.env whole) (TP X pins σ Q) X.xe s
theorem PW.pt {X : Cx} {e : Expr} {t : TT} (h : PW X e t) : PT X e t := h _
def PA (X : Cx) (es : List Expr) (t : TA) : Prop :=
  ∀ (pos : Pos) (pins : List (Addr × Obj)) (s : Shared) (σ : St) (H : Hp) (Q : List V → Hp → Prop), Inv X pins σ H s → t σ H Q → wpAny (model X.prog X.w) X.A (spliced (backTo pos (starEach es X.env))) (AP X pins σ Q) X.xe s
def PS (X : Cx) (st : Stmt) (t : TS) : Prop :=
  ∀ (pins : List (Addr × Obj)) (s : Shared) (σ : St) (H : Hp) (D : Ends), Inv X pins σ H s → t D σ H → wpAny (model X.prog X.w) X.A (exec st X.env) (SP X pins D) X.xe s
def PSs (X : Cx) (st : List Stmt) (t : TS) : Prop :=
  ∀ (pins : List (Addr × Obj)) (s : Shared) (σ : St) (H : Hp) (D : Ends), Inv X pins σ H s → t D σ H → wpAny (model X.prog X.w) X.A (execs st X.env) (SP X pins D) X.xe s
theorem thn {α : Type} {t : Sem α} {Q Q' : α → Shared → Prop} {M : Model} {A : Around} {E : Value → Shared → Prop} {s : Shared} (h : wpAny M A t Q E s) (hQ : ∀ a s, Q a s → Q' a s) : wpAny M A t Q' E s := wpAny_mono h hQ fun _ _ x => x
end L2
namespace L2
open PySem PySem.Spec PyProof.Rows
section
variable {X : Cx}
def tVar (i : Nat) : TE := fun σ H Q => ∃ v, σ[i]? = some (some v) ∧ Q v H
def tC (v : V) : TE := fun _ H Q => Q v H
theorem pe_var {i : Nat} {x : Str} {pos : Pos} (hN : X.N[i]? = some x) (hv : Vis X.env.scope x) (hd : (x == ("__debug__" : Str)) = false := by decide) (hcd : (x == ("__classdict__" : Str)) = false := by decide) : PE X (.Name x pos) (tVar i) := by
  intro pins s σ H Q I h
  obtain ⟨v, e, h⟩ := h
  obtain ⟨m, hn, hl⟩ := I.loc
  obtain ⟨u, r, l⟩ := hl i x v hN e hv
  have fin : EP X pins σ Q u s := ⟨v, H, I, r, h⟩
  rcases l with ⟨hk, hm⟩ | ⟨hk, c, hc, hcell⟩
  · exact wpAny_Name (wpAny_loadName_local I.ok.kind hk hn hm fin) hd
  · rcases hk with hk | hk
    · exact wpAny_Name (wpAny_loadName_cell I.ok.kind hk hc hcell fin) hd
    · exact wpAny_Name (wpAny_loadName_free I.ok.kind hk hc hcell fin hcd) hd
theorem pe_int {i j pos} : PE X (.Constant (.int i) j pos) (tC (.int i)) := fun _ _ _ H _ I h => wpAny_Constant_int ⟨.int i, H, I.tok _, ⟨_, rfl⟩, h⟩
theorem pe_bl {b j pos} : PE X (.Constant (.bool b) j pos) (tC (.bl b)) := fun _ _ _ H _ I h => Constant_bool ⟨.bl b, H, I, rfl, h⟩
theorem pe_str {x j pos} : PE X (.Constant (.str x) j pos) (tC (.str x)) := fun _ _ _ H _ I h => Calls.Constant_str ⟨.str x, H, I.tok _, ⟨_, rfl⟩, h⟩
def Gl (X : Cx) (x : Str) : Prop := X.env.kindOf x = some .globalImplicit
theorem ld_glob {E : Value → Shared → Prop} {pins : List (Addr × Obj)} {s : Shared} {σ : St} {H : Hp} {x : Str} {u : Value} {pos : Pos} {Q : Value → Shared → Prop} (I : Inv X pins σ H s) (hg : Gl X x) (hm : X.mg x = some u) (h : Q u s)
    (hd : (x == ("__debug__" : Str)) = false := by decide) : wpAny (model X.prog X.w) X.A (eval (.Name x pos) X.env) Q E s :=
  Calls.Name_function_global I.ok.kind hg (Calls.loadGlobal_global (by rw [I.ok.glob]; exact I.mod.glob.keeps I.bk) hm h) hd
theorem ld_blt {E : Value → Shared → Prop} {pins : List (Addr × Obj)} {s : Shared} {σ : St} {H : Hp} {x : Str} {u : Value} {pos : Pos} {Q : Value → Shared → Prop} (I : Inv X pins σ H s) (hg : Gl X x) (hm : X.mg x = none) (hv : bootBuiltins x = some u) (h : Q u s)
    (hn : x ≠ "__name__" := by decide) (hd : (x == ("__debug__" : Str)) = false := by decide) : wpAny (model X.prog X.w) X.A (eval (.Name x pos) X.env) Q E s := by
  obtain ⟨mb, h1, h2⟩ := I.mod.blt
  exact Calls.Name_function_global I.ok.kind hg (Calls.loadGlobal_builtin (by rw [I.ok.glob]; exact I.mod.glob.keeps I.bk) hm (by rw [I.ok.blt]; exact h1.keeps I.bk) ((h2 x hn).trans hv) h) hd
variable {a b : Expr} {ta tb : TE} {pos : Pos}
variable {tA tB' : TT} {rest : List Expr}
def tOr (t u : TT) : TT := fun σ H Q => t σ H fun c H1 => if c = true then Q true H1 else u σ H1 Q
theorem pw_or1 (ha : PT X a tA) : PW X (.BoolOp .Or [a] pos) tA := by
  intro wh pins s σ H Q I h
  refine isTrue_or (thn (ha pins s σ H Q I h) fun c s1 e => ?_)
  cases c with
  | false => exact isTrue_or_nil e
  | true => exact e
theorem pw_or (ha : PT X a tA) (hb : PW X (.BoolOp .Or (b :: rest) pos) tB') : PW X (.BoolOp .Or (a :: b :: rest) pos) (tOr tA tB') := by
  intro wh pins s σ H Q I h
  refine isTrue_or (thn (ha pins s σ H _ I h) fun c s1 ⟨H1, I1, q1⟩ => ?_)
  cases c with
  | true => exact ⟨H1, I1, q1⟩
  | false => exact hb wh pins s1 σ H1 Q I1 q1
end
end L2
namespace L2
open PySem PySem.Spec PyProof.Rows
def SqL (K : PySem.W.Frag) (H : Hp) (a : Addr) (xs : List V) : Prop :=
  Rd H a (.lst xs) ∨
    ∃ (o : Obj) (its : Array Value) (n : Nat), K.lookup a = some o ∧ o.cls = .type "list" ∧ o.dict = none ∧ o.data = .seq its n ∧ its.size ≤ sizeLine ∧ Vals xs its.toList
def SqT (K : PySem.W.Frag) (H : Hp) (a : Addr) (xs : List V) : Prop :=
  Rd H a (.tup xs) ∨
    ∃ (o : Obj) (its : Array Value) (n : Nat), K.lookup a = some o ∧ o.cls = .type "tuple" ∧ o.data = .seq its n ∧ its.size ≤ sizeLine ∧ Vals xs its.toList
def absV : Value → Option V
  | .none => some .non
  | .bool b => some (.bl b)
  | .int i _ => some (.int i)
  | .str x _ => some (.str x)
  | .bytes b _ => some (.byt b)
  | .float b _ => some (.flt b)
  | .ref a => some (.ref a)
  | .type n => some (.ty n)
  | _ => none
theorem RelV.abs {x : V} {u : Value} (r : RelV x u) : absV u = some x := by
  cases x with
  | non => cases r; rfl
  | bl _ => cases r; rfl
  | int _ => obtain ⟨t, rfl⟩ := r; rfl
  | str _ => obtain ⟨t, rfl⟩ := r; rfl
  | byt _ => obtain ⟨t, rfl⟩ := r; rfl
  | flt _ => obtain ⟨t, rfl⟩ := r; rfl
  | ref _ => cases r; rfl
  | ty _ => cases r; rfl
theorem RelV.inj {x y : V} {u : Value} (r : RelV x u) (q : RelV y u) : x = y := Option.some.inj (r.abs.symm.trans q.abs)
theorem Vals.inj : ∀ {xs ys : List V} {us : List Value}, Vals xs us → Vals ys us → xs = ys
  | _, _, _, .nil, .nil => rfl
  | _, _, _, .cons r t, .cons r' t' => by rw [r.inj r', Vals.inj t t']
section
variable {X : Cx} {pins : List (Addr × Obj)} {σ : St} {H : Hp} {s : Shared} {a : Addr} {xs ys : List V}
theorem SqL.of {K : PySem.W.Frag} (h : H a = some (.lst xs)) : SqL K H a xs := .inl (.inl h)
theorem SqT.of {K : PySem.W.Frag} (h : H a = some (.tup xs)) : SqT K H a xs := .inl (.inl h)
theorem Inv.list (I : Inv X pins σ H s) (h : SqL X.K H a xs) : ∃ its : List Value, Vals xs its ∧ PlainL s.heap a its.toArray ∧ xs.length ≤ sizeLine := by
  rcases h with h | ⟨o, its, n, hk, hc, hd, hs, hz, r⟩
  · obtain ⟨z, its, n, r, e⟩ := h.ok I.hok
    exact ⟨its, r, ⟨_, n, e, rfl, rfl, rfl⟩, z⟩
  · refine ⟨its.toList, r, ⟨o, n, I.kIn a o hk, hc, hd, by simpa using hs⟩, ?_⟩
    have e := r.length
    simp only [Array.length_toList] at e
    omega
theorem Inv.tuple (I : Inv X pins σ H s) (h : SqT X.K H a xs) : ∃ its : List Value, Vals xs its ∧ IsTup s.heap a its.toArray ∧ xs.length ≤ sizeLine := by
  rcases h with h | ⟨o, its, n, hk, hc, hs, hz, r⟩
  · obtain ⟨z, its, r, p⟩ := h.ok I.hok
    exact ⟨its, r, p, z⟩
  · refine ⟨its.toList, r, ⟨o, I.kIn a o hk, hc, n, by simpa using hs⟩, ?_⟩
    have e := r.length
    simp only [Array.length_toList] at e
    omega
theorem Inv.list_inj (I : Inv X pins σ H s) (h : SqL X.K H a xs) (h' : SqL X.K H a ys) : xs = ys := by
  obtain ⟨its, r, ⟨o, n, e, _, _, d⟩, _⟩ := I.list h
  obtain ⟨its', r', ⟨o', n', e', _, _, d'⟩, _⟩ := I.list h'
  rw [e] at e'; cases e'
  rw [d] at d'
  injection d' with d1 _
  have : its = its' := by simpa using congrArg Array.toList d1
  subst this
  exact r.inj r'
theorem Inv.tuple_inj (I : Inv X pins σ H s) (h : SqT X.K H a xs) (h' : SqT X.K H a ys) : xs = ys := by
  obtain ⟨its, r, ⟨o, e, _, n, d⟩, _⟩ := I.tuple h
  obtain ⟨its', r', ⟨o', e', _, n', d'⟩, _⟩ := I.tuple h'
  rw [e] at e'; cases e'
  rw [d] at d'
  injection d' with d1 _
  have : its = its' := by simpa using congrArg Array.toList d1
  subst this
  exact r.inj r'
end
abbrev Cx.wish (X : Cx) (E : Value → Shared → Prop) : Cx := { X with xe := E }
abbrev Cx.nox (X : Cx) : Cx := X.wish fun _ _ => False
theorem Cx.Ok.wish {X : Cx} (ok : X.Ok) (E : Value → Shared → Prop) : (X.wish E).Ok :=
  ⟨ok.mod, ok.kind, ok.glob, ok.blt, ok.above, ok.inj, ok.has, ok.cab, ok.hd, ok.frames, ok.stk, ok.exf, ok.bs, ok.bsz, ok.noex, ok.exfs, ok.funs, ok.frf⟩
theorem Cx.Ok.unwish {X : Cx} {E : Value → Shared → Prop} (ok : (X.wish E).Ok) : X.Ok :=
  ⟨ok.mod, ok.kind, ok.glob, ok.blt, ok.above, ok.inj, ok.has, ok.cab, ok.hd, ok.frames, ok.stk, ok.exf, ok.bs, ok.bsz, ok.noex, ok.exfs, ok.funs, ok.frf⟩
section
variable {X : Cx} {pins : List (Addr × Obj)} {σ : St} {H : Hp} {s : Shared} {E : Value → Shared → Prop}
theorem Inv.wish (I : Inv X pins σ H s) (E : Value → Shared → Prop) : Inv (X.wish E) pins σ H s := ⟨I.ok.wish E, I.os, I.bare, I.base, I.loc, I.cell, I.free, I.freeC, I.pin, I.hok, I.len⟩
theorem Inv.unwish (I : Inv (X.wish E) pins σ H s) : Inv X pins σ H s := ⟨I.ok.unwish, I.os, I.bare, I.base, I.loc, I.cell, I.free, I.freeC, I.pin, I.hok, I.len⟩
theorem SP.unwish {D : Ends} {f : Flow} {s' : Shared} (h : SP (X.wish E) pins D f s') : SP X pins D f s' := by
  cases f with
  | next => obtain ⟨σ', H', I, q⟩ := h; exact ⟨σ', H', I.unwish, q⟩
  | brk => obtain ⟨σ', H', I, q⟩ := h; exact ⟨σ', H', I.unwish, q⟩
  | cont => obtain ⟨σ', H', I, q⟩ := h; exact ⟨σ', H', I.unwish, q⟩
  | ret u => obtain ⟨v, σ', H', I, r, q⟩ := h; exact ⟨v, σ', H', I.unwish, r, q⟩
theorem PSs.nox {st : List Stmt} {t : TS} (h : PSs X.nox st t) : PSs X st t := fun pins s σ H D I hw =>
  wpAny_mono (h pins s σ H D (I.wish _) hw) (fun _ _ q => q.unwish) fun _ _ z => False.elim z
end
section
variable {X : Cx} {st : Stmt} {rest : List Stmt} {t u : TS} {e : Expr} {te : TE} {pos : Pos}
def tNext : TS := fun D σ H => D.nx σ H
def tSeq (t u : TS) : TS := fun D σ H => t { D with nx := u D } σ H
theorem pss_nil : PSs X [] tNext := fun _ _ σ H _ I h => wpAny_execs_nil ⟨σ, H, I, h⟩
theorem pss_cons (h1 : PS X st t) (h2 : PSs X rest u) : PSs X (st :: rest) (tSeq t u) := by
  intro pins s σ H D I h
  refine wpAny_execs_cons (thn (h1 pins s σ H { D with nx := u D } I h) fun f s1 q => ?_)
  cases f with
  | next =>
    obtain ⟨σ', H', I', q⟩ := q
    exact h2 pins s1 σ' H' D I' q
  | ret v => exact q
  | brk => exact q
  | cont => exact q
theorem pss_one (h1 : PS X st t) : PSs X [st] t := by
  intro pins s σ H D I h
  refine wpAny_execs_cons (thn (h1 pins s σ H D I h) fun f s1 q => ?_)
  cases f with
  | next => exact wpAny_execs_nil q
  | ret v => exact q
  | brk => exact q
  | cont => exact q
theorem Inv.quiet {pins : List (Addr × Obj)} {σ : St} {H : Hp} {s : Shared} (I : Inv X pins σ H s) : interactive X.env = false := by simp [interactive, I.ok.kind]
def tDrop (te : TE) : TS := fun D σ H => te σ H fun _ H1 => D.nx σ H1
theorem ps_expr (he : PE X e te) (hs : swapsWith e none pos.line X.env = pure false := by rfl) : PS X (.Expr e pos) (tDrop te) := by
  intro pins s σ H D I h
  exact wpAny_Expr_any (thn (he pins s σ H _ I h) fun v s1 ⟨x, H1, I1, r1, q1⟩ => ⟨σ, H1, I1, q1⟩) I.quiet hs
def tRet (te : TE) : TS := fun D σ H => te σ H D.rt
theorem ps_ret (he : PE X e te) : PS X (.Return (some e) pos) (tRet te) := by
  intro pins s σ H D I h
  exact wpAny_Return_some (thn (he pins s σ H _ I h) fun v s1 ⟨x, H1, I1, r1, q1⟩ => ⟨x, σ, H1, I1, r1, q1⟩)
def tIfS (c : TT) (t u : TS) : TS := fun D σ H => c σ H fun b H1 => if b = true then t D σ H1 else u D σ H1
theorem ps_if {c : Expr} {a b : List Stmt} {tc : TT} (hc : PT X c tc) (ha : PSs X a t) (hb : PSs X b u) : PS X (.If c a b pos) (tIfS tc t u) := by
  intro pins s σ H D I h
  refine wpAny_If (thn (hc pins s σ H _ I h) fun d s1 ⟨H1, I1, q1⟩ => ?_)
  cases d with
  | true => exact ha pins s1 σ H1 D I1 q1
  | false => exact hb pins s1 σ H1 D I1 q1
end
abbrev TG := V → St → Hp → (St → Hp → Prop) → Prop
abbrev TGs := List V → St → Hp → (St → Hp → Prop) → Prop
def PG (X : Cx) (target : Expr) (t : TG) : Prop :=
  ∀ (pins : List (Addr × Obj)) (s : Shared) (σ : St) (H : Hp) (v : V) (u : Value) (Q : St → Hp → Prop), Inv X pins σ H s → RelV v u → t v σ H Q →
    wpAny (model X.prog X.w) X.A (assign target X.env u) (fun _ s' => ∃ σ' H', Inv X pins σ' H' s' ∧ Q σ' H') X.xe s
def PGs (X : Cx) (ts : List Expr) (t : TGs) : Prop :=
  ∀ (pins : List (Addr × Obj)) (s : Shared) (σ : St) (H : Hp) (vs : List V) (us : List Value) (Q : St → Hp → Prop), Inv X pins σ H s → Vals vs us → t vs σ H Q →
    wpAny (model X.prog X.w) X.A (assignInOrder ((assignEach ts X.env).map (·.2)) us) (fun _ s' => ∃ σ' H', Inv X pins σ' H' s' ∧ Q σ' H') X.xe s
section
variable {X : Cx} {pos : Pos}
def gName (i : Nat) : TG := fun v σ H Q => Q (σ.set i (some v)) H
theorem pg_name {i : Nat} {x : Str} (hN : X.N.Nodup) (hi : X.N[i]? = some x) (hx : Loc X.env.scope x) (hf : X.fn x = true ∨ X.env.scope.names.lookup x = some .local := by first | exact .inl rfl | exact .inr rfl | assumption) : PG X (.Name x pos) (gName i) := by
  intro pins s σ H v u Q I r h
  exact wpAny_assign_Name (store_ok I hN hi hx r (fun s' I' => ⟨_, H, I', h⟩) hf)
def gNil : TGs := fun vs σ H Q => vs = [] ∧ Q σ H
def gCons (t : TG) (u : TGs) : TGs := fun vs σ H Q => ∃ v r, vs = v :: r ∧ t v σ H fun σ' H' => u r σ' H' Q
theorem pgs_nil : PGs X [] gNil := by
  intro pins s σ H vs us Q I r h
  obtain ⟨e, h⟩ := h
  subst e
  cases r
  exact assignInOrder_nil ⟨σ, H, I, h⟩
theorem pgs_cons {e : Expr} {es : List Expr} {t : TG} {u : TGs} (h1 : PG X e t) (h2 : PGs X es u)
    (hs : (assignEach (e :: es) X.env).map (·.2) = assign e X.env :: (assignEach es X.env).map (·.2) := by rfl) : PGs X (e :: es) (gCons t u) := by
  intro pins s σ H vs us Q I r h
  obtain ⟨v, vr, e1, h⟩ := h
  subst e1
  cases r with
  | cons r rr =>
    rw [hs]
    refine assignInOrder_cons (thn (h1 pins s σ H _ _ _ I r h) fun _ s1 ⟨σ1, H1, I1, q1⟩ => ?_)
    exact h2 pins s1 σ1 H1 _ _ Q I1 rr q1
def gTup (K : PySem.W.Frag) (n : Nat) (t : TGs) : TG := fun v σ H Q => ∃ a xs, v = .ref a ∧ SqT K H a xs ∧ xs.length = n ∧ t xs σ H Q
theorem pg_tup {es : List Expr} {k : Nat} {t : TGs} {n : Nat} (hc : X.calm = true) (h : PGs X es t)
    (hn : (assignEach es X.env).length = n := by rfl) (hst : (assignEach es X.env).findIdx? (·.1) = none := by rfl) : PG X (.Tuple es k pos) (gTup X.K n t) := by
  intro pins s σ H v u Q I r hw
  obtain ⟨a, xs, e1, hq, hl, hw⟩ := hw
  subst e1
  cases r
  obtain ⟨its, rv, ht, hz⟩ := I.tuple hq
  refine assign_Tuple_tuple (I.ok.hd hc) ht (by simp [hn, ← hl, rv.length]) hst fun h' hx => ?_
  have I1 : Inv X pins σ H { s with heap := h' } := I.kept (t' := s.toks) fun b o e => hx b o (Nat.ne_of_lt (Heap.lt_size e)) e
  exact h pins _ σ H xs _ Q I1 (by simpa using rv) hw
def tAsg (te : TE) (g : TG) : TS := fun D σ H => te σ H fun x H1 => g x σ H1 D.nx
theorem ps_set {i : Nat} {x : Str} {e : Expr} {te : TE} {pos' : Pos} (hN : X.N.Nodup) (hi : X.N[i]? = some x) (hx : Loc X.env.scope x) (he : PE X e te) (hs : swapsWith e (some (.Name x pos')) pos.line X.env = pure false := by rfl) (hf : X.fn x = true ∨ X.env.scope.names.lookup x = some .local := by first | exact .inl rfl | exact .inr rfl | assumption) :
    PS X (.Assign [.Name x pos'] e pos) (tAsg te (gName i)) := by
  intro pins s σ H D I h
  refine wpAny_Assign_Name (thn (he pins s σ H _ I h) fun v s1 ⟨y, H1, I1, r1, q1⟩ => ?_) hs
  exact store_ok I1 hN hi hx r1 (fun s2 I2 => ⟨_, H1, I2, q1⟩) hf
end
section
variable {X : Cx} {pos : Pos}
end
structure It where
  go : Nat → Hp → Prop
  yld : Nat → Hp → V → Hp → Prop
  stop : Nat → Hp → Prop
def FpOk (X : Cx) (pins : List (Addr × Obj)) (H : Hp) (b : Addr) : Prop :=
  H b = none ∧ b ≠ X.env.locals ∧ b ∉ X.fs ∧ (b ∈ X.ex ∨ X.s₀.heap.objs.size ≤ b) ∧ (∀ x c, X.env.cells.lookup x = some c → c ≠ b) ∧ ∀ p ∈ X.pn ++ pins, p.1 ≠ b
theorem Inv.fpOk {X : Cx} {pins : List (Addr × Obj)} {σ : St} {H H' : Hp} {s : Shared} {b : Addr} (I : Inv X pins σ H s) (hb : s.heap.objs.size ≤ b) (hn : H' b = none) : FpOk X pins H' b := by
  refine ⟨hn, Nat.ne_of_gt (Nat.lt_of_lt_of_le I.lt hb), I.nofs hb, .inr (Nat.le_trans I.sz hb), fun x c e z => ?_, fun p hp z => ?_⟩
  · obtain ⟨v, q⟩ := I.cell x c e
    exact absurd (Nat.lt_of_lt_of_le q.lt (by rw [z]; exact hb)) (Nat.lt_irrefl _)
  · exact absurd (Nat.lt_of_lt_of_le (Heap.lt_size (I.pin p hp).1) (by rw [z]; exact hb)) (Nat.lt_irrefl _)
structure Turn (P : Program) (w : World) (K : PySem.W.Frag) (tg : Expr) (J : It) (fp : List Addr) (it : Addr) (tn : Nat → Heap → Prop) : Prop where
  mem : it ∈ fp
  obj : ∀ i h, tn i h → ∀ b ∈ fp, ∃ o, h.get? b = some o ∧ ∀ v, o.data ≠ .cell v
  keep : ∀ i h h', tn i h → (∀ b ∈ fp, ∀ o, h.get? b = some o → h'.get? b = some o) → tn i h'
  item : ∀ (X : Cx), X.prog = P → X.w = w → X.K = K → X.calm = true → ∀ (i : Nat) (pins : List (Addr × Obj)) (s : Shared) (σ : St) (H : Hp) (E : Value → Shared → Prop), Inv X pins σ H s → (∀ b ∈ fp, FpOk X pins H b) → tn i s.heap → J.go i H →
    wpAny (model P w) X.A (pyNext (.ref it)) (fun r s1 => ∃ u, r = some u ∧
      wpAny (model P w) X.A (letOwnedTupleGo tg (.ref it) u) (fun _ s2 => ∃ x H', Inv X pins σ H' s2 ∧ RelV x u ∧ J.yld i H x H' ∧ tn (i + 1) s2.heap ∧ ∀ b ∈ fp, H' b = none) E s1) E s
  done : ∀ (X : Cx), X.prog = P → X.w = w → X.K = K → X.calm = true → ∀ (i : Nat) (pins : List (Addr × Obj)) (s : Shared) (σ : St) (H : Hp) (E : Value → Shared → Prop), Inv X pins σ H s → (∀ b ∈ fp, FpOk X pins H b) → tn i s.heap → J.stop i H →
    wpAny (model P w) X.A (pyNext (.ref it)) (fun r s1 => r = none ∧ Inv X pins σ H s1) E s
  self : ∀ (A : Around) (i : Nat) (s : Shared) (Q : Value → Shared → Prop) (E : Value → Shared → Prop), tn i s.heap → Q (.ref it) s → wpAny (model P w) A (pyIter (.ref it)) Q E s
abbrev TI := St → Hp → (It → Hp → Prop) → Prop
def PIE (X : Cx) (pins : List (Addr × Obj)) (σ : St) (tg : Expr) (R : It → Hp → Prop) (itv : Value) (s2 : Shared) : Prop :=
  ∃ (it : Addr) (fp : List Addr) (tn : Nat → Heap → Prop) (J : It) (H' : Hp), itv = .ref it ∧ Inv X pins σ H' s2 ∧ Turn X.prog X.w X.K tg J fp it tn ∧ tn 0 s2.heap ∧ (∀ b ∈ fp, FpOk X pins H' b) ∧ R J H'
def PI (X : Cx) (tg iter : Expr) (wi : TI) : Prop :=
  ∀ (pins : List (Addr × Obj)) (s : Shared) (σ : St) (H : Hp) (R : It → Hp → Prop), Inv X pins σ H s → wi σ H R →
    wpAny (model X.prog X.w) X.A (eval iter X.env) (fun v s1 => wpAny (model X.prog X.w) X.A (pyIter v) (PIE X pins σ tg R) X.xe s1) X.xe s
theorem go_of {M : Model} {A : Around} {E : Value → Shared → Prop} {s : Shared} {tg : Expr} {it : Addr} {u : Value} {o : Obj} {n : String} {vs : Array Value} {Q : Unit → Shared → Prop} (ho : s.heap.get? it = some o) (hc : o.cls = .type n) (hd : o.data = .fields vs)
    (hn : ["enumerate", "zip", "dict_itemiterator", "dict_reverseitemiterator", "odict_iterator", "itertools.zip_longest", "itertools.pairwise"].contains n = false) (hQ : Q () s) : wpAny M A (letOwnedTupleGo tg (.ref it) u) Q E s := by
  unfold letOwnedTupleGo
  cases tg <;> first
    | exact wpAny_pure hQ
    | (cases u <;> first
        | exact wpAny_pure hQ
        | (refine wpAny_bind (wpAny_load ho ?_)
           rw [hc, hd]
           show wpAny M A (if (["enumerate", "zip", "dict_itemiterator", "dict_reverseitemiterator", "odict_iterator", "itertools.zip_longest", "itertools.pairwise"].contains n && vs[0]? == some (rawInt _)) = true then _ else _) Q E s
           rw [if_neg (by intro h; rw [hn, Bool.false_and] at h; cases h)]
           exact wpAny_pure hQ))
def Itl (K : PySem.W.Frag) (a : Addr) : It :=
  ⟨fun i H => ∃ xs x, SqL K H a xs ∧ xs[i]? = some x, fun i H x H' => H' = H ∧ ∀ xs, SqL K H a xs → xs[i]? = some x, fun i H => ∃ xs, SqL K H a xs ∧ xs.length ≤ i⟩
def Itt (K : PySem.W.Frag) (a : Addr) : It :=
  ⟨fun i H => ∃ xs x, SqT K H a xs ∧ xs[i]? = some x, fun i H x H' => H' = H ∧ ∀ xs, SqT K H a xs → xs[i]? = some x, fun i H => ∃ xs, SqT K H a xs ∧ xs.length ≤ i⟩
def Itr (lo : Int) (n : Nat) : It := ⟨fun i _ => i < n, fun i H x H' => H' = H ∧ x = .int (lo + i), fun i _ => n ≤ i⟩
theorem turn_list {P : Program} {w : World} {K : PySem.W.Frag} {tg : Expr} (a it : Addr) : Turn P w K tg (Itl K a) [it] it (fun i h => h.IsListIter it a i) where
  mem := by simp
  obj := fun i h st b hb => by
    have e : b = it := by simpa using hb
    subst e
    obtain ⟨o, e, c, d⟩ := st
    exact ⟨o, e, fun v z => by rw [d] at z; cases z⟩
  keep := fun i h h' st k => st.at fun o e => k it (by simp) o e
  item := by
    intro X hP hw hK hc i pins s σ H E I hf st hg
    subst hP hw hK
    obtain ⟨xs, x, hq, hx⟩ := hg
    obtain ⟨its, rv, p, hz⟩ := I.list hq
    obtain ⟨u, hu, ru⟩ := rv.get hx
    obtain ⟨f0, f1, f2, f3, f4, f5⟩ := hf it (by simp)
    refine wpAny_pyNext_list_item st p.isList (x := u) (by simpa using hu) fun h' st' sb => ?_
    have I1 : Inv X pins σ H { s with heap := h' } := I.turned (t' := s.toks) (fun b o hb e => (sb.2 b hb).trans e) f0 f1 f3 f4 f5
    obtain ⟨o, e, c, d⟩ := id st'
    exact ⟨u, rfl, go_of (s := { s with heap := h' }) e c d (by decide) ⟨x, H, I1, ru, ⟨rfl, fun ys hy => by rw [I.list_inj hy hq]; exact hx⟩, st', fun b hb => (hf b hb).1⟩⟩
  done := by
    intro X hP hw hK hc i pins s σ H E I hf st hg
    subst hP hw hK
    obtain ⟨xs, hq, hx⟩ := hg
    obtain ⟨its, rv, p, hz⟩ := I.list hq
    obtain ⟨f0, f1, f2, f3, f4, f5⟩ := hf it (by simp)
    have hl := rv.length
    exact wpAny_pyNext_list_end (I.ok.hd hc) st p.isList (by simp; omega) fun h' eb => ⟨rfl, I.turned (t' := s.toks) (fun b o hb e => eb b o hb e) f0 f1 f3 f4 f5⟩
  self := fun _ _ _ _ _ st h => wpAny_pyIter_listiter st h
theorem turn_tuple {P : Program} {w : World} {K : PySem.W.Frag} {tg : Expr} (a it : Addr) : Turn P w K tg (Itt K a) [it] it (fun i h => h.IsTupleIter it a i) where
  mem := by simp
  obj := fun i h st b hb => by
    have e : b = it := by simpa using hb
    subst e
    obtain ⟨o, e, c, d⟩ := st
    exact ⟨o, e, fun v z => by rw [d] at z; cases z⟩
  keep := fun i h h' st k => st.at fun o e => k it (by simp) o e
  item := by
    intro X hP hw hK hc i pins s σ H E I hf st hg
    subst hP hw hK
    obtain ⟨xs, x, hq, hx⟩ := hg
    obtain ⟨its, rv, p, hz⟩ := I.tuple hq
    obtain ⟨u, hu, ru⟩ := rv.get hx
    obtain ⟨f0, f1, f2, f3, f4, f5⟩ := hf it (by simp)
    refine wpAny_pyNext_tuple_item st (show s.heap.IsTuple a its.toArray from p) (x := u) (by simpa using hu) fun h' st' sb => ?_
    have I1 : Inv X pins σ H { s with heap := h' } := I.turned (t' := s.toks) (fun b o hb e => (sb.2 b hb).trans e) f0 f1 f3 f4 f5
    obtain ⟨o, e, c, d⟩ := id st'
    exact ⟨u, rfl, go_of (s := { s with heap := h' }) e c d (by decide) ⟨x, H, I1, ru, ⟨rfl, fun ys hy => by rw [I.tuple_inj hy hq]; exact hx⟩, st', fun b hb => (hf b hb).1⟩⟩
  done := by
    intro X hP hw hK hc i pins s σ H E I hf st hg
    subst hP hw hK
    obtain ⟨xs, hq, hx⟩ := hg
    obtain ⟨its, rv, p, hz⟩ := I.tuple hq
    obtain ⟨f0, f1, f2, f3, f4, f5⟩ := hf it (by simp)
    have hl := rv.length
    exact wpAny_pyNext_tuple_end (I.ok.hd hc) st (show s.heap.IsTuple a its.toArray from p) (by simp; omega) fun h' eb => ⟨rfl, I.turned (t' := s.toks) (fun b o hb e => eb b o hb e) f0 f1 f3 f4 f5⟩
  self := fun _ _ _ _ _ st h => wpAny_pyIter_tupleiter st h
theorem turn_range {P : Program} {w : World} {K : PySem.W.Frag} {tg : Expr} (it : Addr) (lo : Int) (n : Nat) : Turn P w K tg (Itr lo n) [it] it (fun i h => IsRangeIter h it (lo + (i : Nat) * 1) ((n : Int) - (i : Nat)) 1) where
  mem := by simp
  obj := fun i h st b hb => by
    have e : b = it := by simpa using hb
    subst e
    exact ⟨_, st, fun v z => by
      have z' : Data.fields _ = Data.cell v := z
      cases z'⟩
  keep := fun i h h' st k => k it (by simp) _ st
  item := by
    intro X hP hw hK hc i pins s σ H E I hf st hg
    subst hP hw hK
    obtain ⟨f0, f1, f2, f3, f4, f5⟩ := hf it (by simp)
    have W := Walks.range (prog := X.prog) (w := X.w) (I.ok.hd hc) it lo 1 n
    refine W.item i s _ _ hg st fun v h' tk hv st' kk => ?_
    obtain ⟨t, rfl⟩ := hv
    have I1 : Inv X pins σ H { s with heap := h', toks := tk } := I.turned (fun b o hb e => kk b o (by simpa using hb) e) f0 f1 f3 f4 f5
    refine ⟨_, rfl, go_of (s := { s with heap := h', toks := tk }) (n := "range_iterator") st' rfl rfl (by decide) ⟨.int (lo + i), H, I1, ⟨t, ?_⟩, ⟨rfl, rfl⟩, st', fun b hb => (hf b hb).1⟩⟩
    rw [Int.mul_one]
  done := by
    intro X hP hw hK hc i pins s σ H E I hf st hg
    subst hP hw hK
    obtain ⟨f0, f1, f2, f3, f4, f5⟩ := hf it (by simp)
    exact wpAny_pyNext_range_end (I.ok.hd hc) st (by have : n ≤ i := hg; omega) fun h' eb => ⟨rfl, I.turned (t' := s.toks) (fun b o hb e => eb b o hb e) f0 f1 f3 f4 f5⟩
  self := fun _ _ _ _ _ st h => wpAny_pyIter_rangeiter st h
end L2
namespace L2
open PySem PySem.Spec PyProof.Rows
section
variable {X : Cx} {tg : Expr}
def iList (K : PySem.W.Frag) (tl : TE) : TI := fun σ H R => tl σ H fun x H1 => ∃ a, x = .ref a ∧ (∃ xs, SqL K H1 a xs) ∧ R (Itl K a) H1
def iTup (K : PySem.W.Frag) (tl : TE) : TI := fun σ H R => tl σ H fun x H1 => ∃ a, x = .ref a ∧ (∃ xs, SqT K H1 a xs) ∧ R (Itt K a) H1
theorem pi_list {l : Expr} {tl : TE} (hl : PE X l tl) : PI X tg l (iList X.K tl) := by
  intro pins s σ H R I h
  refine thn (hl pins s σ H _ I h) fun v s1 ⟨x, H1, I1, r1, q1⟩ => ?_
  obtain ⟨a, e, ⟨xs, hq⟩, q⟩ := q1
  subst e
  cases r1
  obtain ⟨its, rv, p, hz⟩ := I1.list hq
  refine wpAny_pyIter_list p.isList ?_
  refine ⟨s1.heap.objs.size, [s1.heap.objs.size], _, _, H1, rfl, I1.kept (t' := s1.toks) fun b o e => Heap.get?_push_of_some _ e, turn_list a _, ⟨_, Heap.get?_push_size _ rfl, rfl, rfl⟩, fun b hb => ?_, q⟩
  have e : b = s1.heap.objs.size := by simpa using hb
  subst e
  exact I1.fpOk (Nat.le_refl _) (I1.hok.fresh (Nat.le_refl _))
theorem pi_tup {l : Expr} {tl : TE} (hl : PE X l tl) : PI X tg l (iTup X.K tl) := by
  intro pins s σ H R I h
  refine thn (hl pins s σ H _ I h) fun v s1 ⟨x, H1, I1, r1, q1⟩ => ?_
  obtain ⟨a, e, ⟨xs, hq⟩, q⟩ := q1
  subst e
  cases r1
  obtain ⟨its, rv, p, hz⟩ := I1.tuple hq
  refine wpAny_pyIter_tuple (show s1.heap.IsTuple a its.toArray from p) ?_
  refine ⟨s1.heap.objs.size, [s1.heap.objs.size], _, _, H1, rfl, I1.kept (t' := s1.toks) fun b o e => Heap.get?_push_of_some _ e, turn_tuple a _, ⟨_, Heap.get?_push_size _ rfl, rfl, rfl⟩, fun b hb => ?_, q⟩
  have e : b = s1.heap.objs.size := by simpa using hb
  subst e
  exact I1.fpOk (Nat.le_refl _) (I1.hok.fresh (Nat.le_refl _))
theorem range_it {pins : List (Addr × Obj)} {σ : St} {H : Hp} {s : Shared} {R : It → Hp → Prop} {E : Value → Shared → Prop} {lo hi : Int} {t u v : Tok} {tk : Nat} (I : Inv X pins σ H s) (h1 : -(2 ^ 62) ≤ lo) (h2 : lo < 2 ^ 62) (h3 : -(2 ^ 62) ≤ hi) (h4 : hi < 2 ^ 62)
    (q : R (Itr lo (hi - lo).toNat) H) : wpAny (model X.prog X.w) X.A (pyIter (.ref s.heap.objs.size)) (PIE X pins σ tg R) E { s with heap := s.heap.push { cls := .type "range", data := .fields #[.int lo t, .int hi u, .int 1 v] }, toks := tk } := by
  refine wpAny_pyIter_range (IsRange.new ..) (small_one h1 h2 h3 h4) ?_
  have I1 : Inv X pins σ H { s with heap := s.heap.push { cls := .type "range", data := .fields #[.int lo t, .int hi u, .int 1 v] }, toks := tk } := I.kept fun b o e => Heap.get?_push_of_some _ e
  refine ⟨(s.heap.push { cls := .type "range", data := .fields #[.int lo t, .int hi u, .int 1 v] }).objs.size, [(s.heap.push { cls := .type "range", data := .fields #[.int lo t, .int hi u, .int 1 v] }).objs.size], _, _, H, rfl,
    I1.kept (t' := tk) fun b o e => Heap.get?_push_of_some _ e, turn_range _ lo (hi - lo).toNat, ?_, fun b hb => ?_, q⟩
  · have e1 : lo + ((0 : Nat) : Int) * 1 = lo := by simp
    have e2 : (((hi - lo).toNat : Nat) : Int) - ((0 : Nat) : Int) = Builtin.Range.rangeSize lo hi 1 := by rw [rangeSize_one]; split <;> omega
    show IsRangeIter _ _ (lo + ((0 : Nat) : Int) * 1) ((((hi - lo).toNat : Nat) : Int) - ((0 : Nat) : Int)) 1
    rw [e1, e2]
    exact Heap.get?_push_size _ rfl
  · have e : b = (s.heap.push { cls := .type "range", data := .fields #[.int lo t, .int hi u, .int 1 v] }).objs.size := by simpa using hb
    subst e
    exact I1.fpOk (Nat.le_refl _) (I1.hok.fresh (Nat.le_refl _))
def iRng1 (ta : TA) : TI := fun σ H R => ta σ H fun vs H1 => ∃ j : Int, vs = [.int j] ∧ -(2 ^ 62) ≤ j ∧ j < 2 ^ 62 ∧ R (Itr 0 j.toNat) H1
theorem pi_range1 {a : Expr} {ta : TA} {p pos : Pos} (hg : Gl X "range") (hm : X.mg "range" = none) (ha : PA X [a] ta) (hs : starEach [a] X.env = [(false, eval a X.env)] := by rfl) : PI X tg (.Call (.Name "range" p) [a] [] pos) (iRng1 ta) := by
  intro pins s σ H R I h
  refine Call_ (ld_blt I hg hm boot_range (PyProof.Rows.callWith_type1 (thn (ha pos pins s σ H _ I h) fun us s1 ⟨vs, H1, I1, r1, q1⟩ => ?_) hs rfl))
  obtain ⟨j, e, q1, q2, q⟩ := q1
  subst e
  cases r1 with
  | cons r rr =>
    cases rr
    obtain ⟨t, rfl⟩ := r
    exact call_range_1 (range_it I1 (by omega) (by omega) q1 q2 (by simpa using q))
def tFor (wi : TI) (g : TG) (tb : TS) : TS := fun D σ H => wi σ H fun J H1 => ∃ W : Nat → Nat → St → Hp → Prop, (∃ m, W 0 m σ H1) ∧ ∀ i m σ H, W i m σ H →
  (J.stop i H ∧ D.nx σ H) ∨ (J.go i H ∧ ∃ N : St → Hp → Prop, (∀ σ' H', N σ' H' → ∃ m', m' < m ∧ W (i + 1) m' σ' H') ∧ ∀ x H', J.yld i H x H' → g x σ H' fun σ2 H2 => tb { D with nx := N, ct := N, bk := D.nx } σ2 H2)
def pinsAt (fp : List Addr) (h : Heap) : List (Addr × Obj) := fp.filterMap fun b => (h.get? b).map fun o => (b, o)
theorem mem_pinsAt {fp : List Addr} {h : Heap} {b : Addr} {o : Obj} (hb : b ∈ fp) (e : h.get? b = some o) : (b, o) ∈ pinsAt fp h := List.mem_filterMap.mpr ⟨b, hb, by rw [e]; rfl⟩
theorem of_pinsAt {fp : List Addr} {h : Heap} {p : Addr × Obj} (hp : p ∈ pinsAt fp h) : p.1 ∈ fp ∧ h.get? p.1 = some p.2 := by
  obtain ⟨b, hb, e⟩ := List.mem_filterMap.mp hp
  cases q : h.get? b with
  | none => rw [q] at e; cases e
  | some o =>
    rw [q] at e
    have e' : (b, o) = p := Option.some.inj e
    subst e'
    exact ⟨hb, q⟩
theorem Inv.pinned {pins : List (Addr × Obj)} {σ : St} {H : Hp} {s : Shared} {fp : List Addr} (I : Inv X pins σ H s) (hf : ∀ b ∈ fp, FpOk X pins H b) (ho : ∀ b ∈ fp, ∃ o, s.heap.get? b = some o ∧ ∀ v, o.data ≠ .cell v) : Inv X (pins ++ pinsAt fp s.heap) σ H s :=
  I.pins_of fun p hp => (List.mem_append.mp hp).elim (fun z => I.pin p (List.mem_append_right _ z)) fun z => by
    obtain ⟨hb, e⟩ := of_pinsAt z
    obtain ⟨f0, f1, f2, _⟩ := hf p.1 hb
    obtain ⟨o, e', d⟩ := ho p.1 hb
    rw [e] at e'; cases e'
    exact ⟨e, f0, f1, f2, d⟩
theorem Inv.unpinned {pins pl : List (Addr × Obj)} {σ : St} {H : Hp} {s : Shared} (I : Inv X (pins ++ pl) σ H s) : Inv X pins σ H s := I.pins_of fun p hp => I.pin p (List.mem_append_right _ (List.mem_append_left _ hp))
theorem ps_for {iter : Expr} {body : List Stmt} {wi : TI} {g : TG} {tb : TS} {pos : Pos} (hp : PassesOwn (model X.prog X.w) X.A X.env X.xe) (hc : X.calm = true) (hi : PI X tg iter wi) (hg : PG X tg g) (hb : PSs X body tb)
    (hs : ∀ x, foldedSetIterable iter X.env x = pure x := by intro _; rfl) : PS X (.For tg iter body [] pos) (tFor wi g tb) := by
  intro pins s σ H D I h
  refine wpAny_For (thn (hi pins s σ H _ I h) fun v s1 h1 => thn h1 fun itv s2 h2 => ?_) hs
  obtain ⟨it, fp, tn, J, H2, e, I2, T, st2, f2, W, ⟨m0, w0⟩, turn⟩ := h2
  subst e
  have stat : ∀ {H' : Hp}, (∀ b ∈ fp, H' b = none) → ∀ b ∈ fp, FpOk X pins H' b := fun hn b hb => ⟨hn b hb, (f2 b hb).2⟩
  refine codeAny_forLoop_any (fun n s' => ∃ i σ' H', Inv X pins σ' H' s' ∧ tn i s'.heap ∧ (∀ b ∈ fp, H' b = none) ∧ W i n σ' H') ?_ m0 ⟨0, σ, H2, I2, st2, fun b hb => (f2 b hb).1, w0⟩
  rintro n s3 ⟨i, σ3, H3, I3, st3, fr3, w3⟩
  rcases turn i n σ3 H3 w3 with ⟨stop, qn⟩ | ⟨go, N, hN, step⟩
  · refine wpAny_passesOwn hp (thn (T.done X rfl rfl rfl hc i pins s3 σ3 H3 X.xe I3 (stat fr3) st3 stop) fun r s4 ⟨hr, I4⟩ => ?_)
    subst hr
    exact wpAny_execs_nil ⟨σ3, H3, I4, qn⟩
  · refine wpAny_passesOwn hp (thn (T.item X rfl rfl rfl hc i pins s3 σ3 H3 X.xe I3 (stat fr3) st3 go) fun r s4 ⟨u, hr, h4⟩ => ?_)
    subst hr
    refine wpAny_passesOwn hp (thn h4 fun _ s5 ⟨x, H5, I5, r5, y5, st5, fr5⟩ => ?_)
    have I5' := I5.pinned (stat fr5) (T.obj _ _ st5)
    refine wpAny_passesOwn hp (thn (hg _ s5 σ3 H5 x u _ I5' r5 (step x H5 y5)) fun _ s6 ⟨σ6, H6, I6, q6⟩ => ?_)
    refine wpAny_passesOwn hp (thn (hb _ s6 σ6 H6 _ I6 q6) fun f s7 q7 => ?_)
    have again : ∀ {σ7 : St} {H7 : Hp}, Inv X (pins ++ pinsAt fp s5.heap) σ7 H7 s7 → N σ7 H7 → ∃ m, m < n ∧ ∃ i σ' H', Inv X pins σ' H' s7 ∧ tn i s7.heap ∧ (∀ b ∈ fp, H' b = none) ∧ W i m σ' H' := fun {σ7 H7} I7 n7 => by
      obtain ⟨m', hm, w7⟩ := hN σ7 H7 n7
      refine ⟨m', hm, i + 1, σ7, H7, I7.unpinned, T.keep _ _ _ st5 fun b hb o e => (I7.pin (b, o) (List.mem_append_right _ (List.mem_append_right _ (mem_pinsAt hb e)))).1, fun b hb => ?_, w7⟩
      obtain ⟨o, e, d⟩ := T.obj _ _ st5 b hb
      exact (I7.pin (b, o) (List.mem_append_right _ (List.mem_append_right _ (mem_pinsAt hb e)))).2.1
    cases f with
    | next => obtain ⟨σ7, H7, I7, n7⟩ := q7; exact again I7 n7
    | cont => obtain ⟨σ7, H7, I7, n7⟩ := q7; exact again I7 n7
    | brk => obtain ⟨σ7, H7, I7, q7⟩ := q7; exact ⟨σ7, H7, I7.unpinned, q7⟩
    | ret v => obtain ⟨x7, σ7, H7, I7, r7, q7⟩ := q7; exact ⟨x7, σ7, H7, I7.unpinned, r7, q7⟩
end
theorem for_list {K : PySem.W.Frag} {a : Addr} {xs : List V} {g : TG} {tb : TS} {D : Ends} {σ : St} {H : Hp} (Pv : Nat → St → Hp → Prop) (h0 : Pv 0 σ H) (hl : ∀ i σ H, i ≤ xs.length → Pv i σ H → SqL K H a xs)
    (hs : ∀ i x σ H, xs[i]? = some x → Pv i σ H → g x σ H fun σ2 H2 => tb { D with nx := Pv (i + 1), ct := Pv (i + 1), bk := D.nx } σ2 H2) (hd : ∀ σ H, Pv xs.length σ H → D.nx σ H) :
    ∃ W : Nat → Nat → St → Hp → Prop, (∃ m, W 0 m σ H) ∧ ∀ i m σ H, W i m σ H →
      ((Itl K a).stop i H ∧ D.nx σ H) ∨ ((Itl K a).go i H ∧ ∃ N : St → Hp → Prop, (∀ σ' H', N σ' H' → ∃ m', m' < m ∧ W (i + 1) m' σ' H') ∧ ∀ x H', (Itl K a).yld i H x H' → g x σ H' fun σ2 H2 => tb { D with nx := N, ct := N, bk := D.nx } σ2 H2) := by
  refine ⟨fun i m σ H => m = xs.length - i ∧ i ≤ xs.length ∧ Pv i σ H, ⟨xs.length, by simp, Nat.zero_le _, h0⟩, ?_⟩
  rintro i m σ H ⟨rfl, hi, p⟩
  have q := hl i σ H hi p
  by_cases hlt : i < xs.length
  · refine .inr ⟨⟨xs, xs[i], q, by simp [hlt]⟩, Pv (i + 1), fun σ' H' p' => ⟨xs.length - (i + 1), by omega, rfl, hlt, p'⟩, fun x H' y => ?_⟩
    obtain ⟨e, y⟩ := y
    subst e
    exact hs i x σ _ (y xs q) p
  · have e : i = xs.length := by omega
    subst e
    exact .inl ⟨⟨xs, q, Nat.le_refl _⟩, hd σ H p⟩
theorem for_tup {K : PySem.W.Frag} {a : Addr} {xs : List V} {g : TG} {tb : TS} {D : Ends} {σ : St} {H : Hp} (Pv : Nat → St → Hp → Prop) (h0 : Pv 0 σ H) (hl : ∀ i σ H, i ≤ xs.length → Pv i σ H → SqT K H a xs)
    (hs : ∀ i x σ H, xs[i]? = some x → Pv i σ H → g x σ H fun σ2 H2 => tb { D with nx := Pv (i + 1), ct := Pv (i + 1), bk := D.nx } σ2 H2) (hd : ∀ σ H, Pv xs.length σ H → D.nx σ H) :
    ∃ W : Nat → Nat → St → Hp → Prop, (∃ m, W 0 m σ H) ∧ ∀ i m σ H, W i m σ H →
      ((Itt K a).stop i H ∧ D.nx σ H) ∨ ((Itt K a).go i H ∧ ∃ N : St → Hp → Prop, (∀ σ' H', N σ' H' → ∃ m', m' < m ∧ W (i + 1) m' σ' H') ∧ ∀ x H', (Itt K a).yld i H x H' → g x σ H' fun σ2 H2 => tb { D with nx := N, ct := N, bk := D.nx } σ2 H2) := by
  refine ⟨fun i m σ H => m = xs.length - i ∧ i ≤ xs.length ∧ Pv i σ H, ⟨xs.length, by simp, Nat.zero_le _, h0⟩, ?_⟩
  rintro i m σ H ⟨rfl, hi, p⟩
  have q := hl i σ H hi p
  by_cases hlt : i < xs.length
  · refine .inr ⟨⟨xs, xs[i], q, by simp [hlt]⟩, Pv (i + 1), fun σ' H' p' => ⟨xs.length - (i + 1), by omega, rfl, hlt, p'⟩, fun x H' y => ?_⟩
    obtain ⟨e, y⟩ := y
    subst e
    exact hs i x σ _ (y xs q) p
  · have e : i = xs.length := by omega
    subst e
    exact .inl ⟨⟨xs, q, Nat.le_refl _⟩, hd σ H p⟩
theorem for_range {lo : Int} {n : Nat} {g : TG} {tb : TS} {D : Ends} {σ : St} {H : Hp} (Pv : Nat → St → Hp → Prop) (h0 : Pv 0 σ H)
    (hs : ∀ i σ H, i < n → Pv i σ H → g (.int (lo + i)) σ H fun σ2 H2 => tb { D with nx := Pv (i + 1), ct := Pv (i + 1), bk := D.nx } σ2 H2) (hd : ∀ σ H, Pv n σ H → D.nx σ H) :
    ∃ W : Nat → Nat → St → Hp → Prop, (∃ m, W 0 m σ H) ∧ ∀ i m σ H, W i m σ H →
      ((Itr lo n).stop i H ∧ D.nx σ H) ∨ ((Itr lo n).go i H ∧ ∃ N : St → Hp → Prop, (∀ σ' H', N σ' H' → ∃ m', m' < m ∧ W (i + 1) m' σ' H') ∧ ∀ x H', (Itr lo n).yld i H x H' → g x σ H' fun σ2 H2 => tb { D with nx := N, ct := N, bk := D.nx } σ2 H2) := by
  refine ⟨fun i m σ H => m = n - i ∧ i ≤ n ∧ Pv i σ H, ⟨n, by simp, Nat.zero_le _, h0⟩, ?_⟩
  rintro i m σ H ⟨rfl, hi, p⟩
  by_cases hlt : i < n
  · refine .inr ⟨hlt, Pv (i + 1), fun σ' H' p' => ⟨n - (i + 1), by omega, rfl, hlt, p'⟩, fun x H' y => ?_⟩
    obtain ⟨e, y⟩ := y
    subst e y
    exact hs i σ _ hlt p
  · have e : i = n := by omega
    subst e
    exact .inl ⟨Nat.le_refl _, hd σ H p⟩
end L2
namespace L2
open PySem PySem.Spec PyProof.Rows
abbrev R2 := V → V → Hp → VK → Prop
def OpR (X : Cx) (f : Value → Value → Sem Value) (r : R2) : Prop :=
  ∀ (pins : List (Addr × Obj)) (s : Shared) (σ : St) (H : Hp) (x y : V) (v u : Value) (Q : VK), Inv X pins σ H s → RelV x v → RelV y u → r x y H Q →
    wpAny (model X.prog X.w) X.A (f v u) (EP X pins σ Q) X.xe s
def CallR (X : Cx) (f : Value) (r : List V → Hp → VK → Prop) : Prop :=
  ∀ (pins : List (Addr × Obj)) (s : Shared) (σ : St) (H : Hp) (xs : List V) (us : List Value) (Q : VK), Inv X pins σ H s → Vals xs us → r xs H Q →
    wpAny (model X.prog X.w) X.A (call f us) (EP X pins σ Q) X.xe s
def tOp (r : R2) (ta tb : TE) : TE := fun σ H Q => ta σ H fun x H1 => tb σ H1 fun y H2 => r x y H2 Q
def rI (C : Int → Int → Prop) (g : Int → Int → V) : R2 := fun x y H Q => ∃ i j, x = .int i ∧ y = .int j ∧ C i j ∧ Q (g i j) H
def rI0 (g : Int → Int → V) : R2 := fun x y H Q => ∃ i j, x = .int i ∧ y = .int j ∧ Q (g i j) H
section
variable {X : Cx} {a b c : Expr} {ta tb tc : TE} {pos : Pos}
theorem binT (ha : PE X a ta) (hb : PE X b tb) {pins : List (Addr × Obj)} {s : Shared} {σ : St} {H : Hp} {R : V → V → Hp → Prop} (I : Inv X pins σ H s)
    (h : ta σ H fun x H1 => tb σ H1 fun y H2 => R x y H2) {Q : Value → Shared → Prop} {f : Value → Value → Sem Value}
    (hf : ∀ v u s2 x y H2, Inv X pins σ H2 s2 → RelV x v → RelV y u → R x y H2 → wpAny (model X.prog X.w) X.A (f v u) Q X.xe s2) :
    wpAny (model X.prog X.w) X.A (eval a X.env) (fun v s₁ => wpAny (model X.prog X.w) X.A (eval b X.env) (fun u s₂ => wpAny (model X.prog X.w) X.A (f v u) Q X.xe s₂) X.xe s₁) X.xe s := by
  refine thn (ha pins s σ H _ I h) fun v s1 ⟨x, H1, I1, r1, q1⟩ => ?_
  refine thn (hb pins s1 σ H1 _ I1 q1) fun u s2 ⟨y, H2, I2, r2, q2⟩ => ?_
  exact hf v u s2 x y H2 I2 r1 r2 q2
theorem pe_op {op : Operator} {r : R2} (ho : OpR X (binaryOp op) r) (ha : PE X a ta) (hb : PE X b tb) : PE X (.BinOp a op b pos) (tOp r ta tb) := by
  intro pins s σ H Q I h
  exact wpAny_BinOp (binT ha hb I h fun v u s2 x y H2 I2 rx ry q => ho pins s2 σ H2 x y v u Q I2 rx ry q)
theorem opI {f : Value → Value → Sem Value} {C : Int → Int → Prop} {g : Int → Int → Int}
    (rule : ∀ (i j : Int) (t u : Tok) (s : Shared) (Q : Value → Shared → Prop) (E : Value → Shared → Prop), C i j → Q (.int (g i j) s.toks) { s with toks := s.toks + 1 } → wpAny (model X.prog X.w) X.A (f (.int i t) (.int j u)) Q E s) :
    OpR X f (rI C fun i j => .int (g i j)) := by
  intro pins s σ H x y v u Q I rx ry h
  obtain ⟨i, j, rfl, rfl, hc, q⟩ := h
  obtain ⟨t, rfl⟩ := rx
  obtain ⟨t', rfl⟩ := ry
  exact rule i j t t' s _ _ hc ⟨.int (g i j), H, I.tok _, ⟨_, rfl⟩, q⟩
theorem opI0 {f : Value → Value → Sem Value} {g : Int → Int → Int}
    (rule : ∀ (i j : Int) (t u : Tok) (s : Shared) (Q : Value → Shared → Prop) (E : Value → Shared → Prop), Q (.int (g i j) s.toks) { s with toks := s.toks + 1 } → wpAny (model X.prog X.w) X.A (f (.int i t) (.int j u)) Q E s) :
    OpR X f (rI0 fun i j => .int (g i j)) := by
  intro pins s σ H x y v u Q I rx ry h
  obtain ⟨i, j, rfl, rfl, q⟩ := h
  obtain ⟨t, rfl⟩ := rx
  obtain ⟨t', rfl⟩ := ry
  exact rule i j t t' s _ _ ⟨.int (g i j), H, I.tok _, ⟨_, rfl⟩, q⟩
theorem opB0 {f : Value → Value → Sem Value} {g : Int → Int → Bool}
    (rule : ∀ (i j : Int) (t u : Tok) (s : Shared) (Q : Value → Shared → Prop) (E : Value → Shared → Prop), Q (.bool (g i j)) s → wpAny (model X.prog X.w) X.A (f (.int i t) (.int j u)) Q E s) :
    OpR X f (rI0 fun i j => .bl (g i j)) := by
  intro pins s σ H x y v u Q I rx ry h
  obtain ⟨i, j, rfl, rfl, q⟩ := h
  obtain ⟨t, rfl⟩ := rx
  obtain ⟨t', rfl⟩ := ry
  exact rule i j t t' s _ _ ⟨.bl (g i j), H, I, rfl, q⟩
def CDiv (i j : Int) : Prop := 0 < j ∧ j < 1073741824
def CPow (i j : Int) : Prop := 0 ≤ j ∧ j ≤ 1000000 ∧ i.natAbs < 2 ^ 64
def CMul (i j : Int) : Prop := (-(2 ^ 64) < i ∧ i < 2 ^ 64) ∨ (-(2 ^ 64) < j ∧ j < 2 ^ 64)
theorem CMul.ok {i j : Int} (h : CMul i j) : IntMulOk i j := by
  rcases h with ⟨h1, h2⟩ | ⟨h1, h2⟩
  · exact .of_left (intBits_le_64 h1 h2)
  · exact .of_right (intBits_le_64 h1 h2)
theorem op_add : OpR X (binaryOp .Add) (rI0 fun i j => .int (i + j)) := opI0 fun _ _ _ _ _ _ _ q => add_int q
theorem op_sub : OpR X (binaryOp .Sub) (rI0 fun i j => .int (i - j)) := opI0 fun _ _ _ _ _ _ _ q => sub_int q
theorem op_mul : OpR X (binaryOp .Mult) (rI CMul fun i j => .int (i * j)) := opI fun _ _ _ _ _ _ _ hc q => mul_int q hc.ok
theorem op_fdiv : OpR X (binaryOp .FloorDiv) (rI CDiv fun i j => .int (i / j)) := opI fun i j _ _ _ _ _ hc q => by
  have h1 : (0 : Int) < j := hc.1
  have h2 : j < 1073741824 := hc.2
  exact floordiv_int (by omega) (by rw [Int.fdiv_eq_ediv_of_nonneg i (by omega)]; exact q) (.inl (PyProof.noPylong_small (by omega)))
theorem op_mod : OpR X (binaryOp .Mod) (rI (fun _ j => 0 < j) fun i j => .int (i % j)) := opI fun i j _ _ _ _ _ hc q => by
  have h1 : (0 : Int) < j := hc
  exact mod_int' (by omega) (by rw [Int.fmod_eq_emod_of_nonneg i (by omega)]; exact q)
theorem op_pow : OpR X (binaryOp .Pow) (rI CPow fun i j => .int (i ^ j.toNat)) := opI fun _ _ _ _ _ _ _ hc q => pow_int_small hc.1 hc.2.1 hc.2.2 q
end
def scal : V → V → Bool
  | .non, .non => true | .non, .int _ => true | .int _, .non => true | .non, .bl _ => true | .bl _, .non => true | .non, .str _ => true | .str _, .non => true
  | .int _, .int _ => true | .bl _, .bl _ => true | .str _, .str _ => true | .byt _, .byt _ => true
  | .int _, .str _ => true | .str _, .int _ => true | .bl _, .str _ => true | .str _, .bl _ => true
  | _, _ => false
def rEq : R2 := fun x y H Q => scal x y = true ∧ Q (.bl (decide (x = y))) H
def rNe : R2 := fun x y H Q => scal x y = true ∧ Q (.bl (!decide (x = y))) H
theorem dec_int {i j : Int} : decide (V.int i = V.int j) = (i == j) := by
  rw [Bool.eq_iff_iff]
  simp
theorem dec_bl {i j : Bool} : decide (V.bl i = V.bl j) = (i == j) := by
  rw [Bool.eq_iff_iff]
  simp
theorem dec_str {i j : Str} : decide (V.str i = V.str j) = (i == j) := by
  rw [Bool.eq_iff_iff]
  simp
theorem dec_byt {i j : Array UInt8} : decide (V.byt i = V.byt j) = (i.toList == j.toList) := by
  rw [Bool.eq_iff_iff]
  cases i
  cases j
  simp
section
variable {X : Cx} {a b c : Expr} {ta tb tc : TE} {pos : Pos}
theorem fin_bl {pins : List (Addr × Obj)} {σ : St} {H : Hp} {s : Shared} {Q : VK} {k k' : Bool} (I : Inv X pins σ H s) (q : Q (.bl k) H) (e : k = k') : EP X pins σ Q (.bool k') s := by
  subst e
  exact ⟨.bl k, H, I, rfl, q⟩
theorem op_eq : OpR X (compareOp .Eq) rEq := by
  intro pins s σ H x y v u Q I rx ry h
  obtain ⟨hs, q⟩ := h
  cases x with
  | non =>
    cases rx
    cases y with
    | non => cases ry; exact PySem.EqNone.eq_none_none (fin_bl I q (by simp))
    | bl j => cases ry; exact PySem.EqNone.eq_none_bool (fin_bl I q (by simp))
    | int j => obtain ⟨t', rfl⟩ := ry; exact PySem.EqNone.eq_none_int (fin_bl I q (by simp))
    | str j => obtain ⟨t', rfl⟩ := ry; exact PySem.EqNone.eq_none_str (fin_bl I q (by simp))
    | _ => exact absurd (show false = true from hs) Bool.false_ne_true
  | bl i =>
    cases rx
    cases y with
    | non => cases ry; exact PySem.EqNone.eq_bool_none (fin_bl I q (by simp))
    | bl j => cases ry; exact eq_bool (fin_bl I q dec_bl)
    | str j => obtain ⟨t', rfl⟩ := ry; exact PySem.EqMixed.eq_bool_str (fin_bl I q (by simp))
    | _ => exact absurd (show false = true from hs) Bool.false_ne_true
  | int i =>
    obtain ⟨t, rfl⟩ := rx
    cases y with
    | non => cases ry; exact PySem.EqNone.eq_int_none (fin_bl I q (by simp))
    | int j => obtain ⟨t', rfl⟩ := ry; exact eq_int (fin_bl I q dec_int)
    | str j => obtain ⟨t', rfl⟩ := ry; exact PySem.EqMixed.eq_int_str (fin_bl I q (by simp))
    | _ => exact absurd (show false = true from hs) Bool.false_ne_true
  | str i =>
    obtain ⟨t, rfl⟩ := rx
    cases y with
    | non => cases ry; exact PySem.EqNone.eq_str_none (fin_bl I q (by simp))
    | bl j => cases ry; exact PySem.EqMixed.eq_str_bool (fin_bl I q (by simp))
    | int j => obtain ⟨t', rfl⟩ := ry; exact PySem.EqMixed.eq_str_int (fin_bl I q (by simp))
    | str j => obtain ⟨t', rfl⟩ := ry; exact eq_str (fin_bl I q dec_str)
    | _ => exact absurd (show false = true from hs) Bool.false_ne_true
  | byt i =>
    obtain ⟨t, rfl⟩ := rx
    cases y with
    | byt j => obtain ⟨t', rfl⟩ := ry; exact PySem.W.eq_bytes (fin_bl I q dec_byt)
    | _ => exact absurd (show false = true from hs) Bool.false_ne_true
  | _ => cases y <;> exact absurd (show false = true from hs) Bool.false_ne_true
theorem op_ne : OpR X (compareOp .NotEq) rNe := by
  intro pins s σ H x y v u Q I rx ry h
  obtain ⟨hs, q⟩ := h
  cases x with
  | non =>
    cases rx
    cases y with
    | non => cases ry; exact PySem.EqNone.ne_none_none (fin_bl I q (by simp))
    | bl j => cases ry; exact PySem.EqNone.ne_none_bool (fin_bl I q (by simp))
    | int j => obtain ⟨t', rfl⟩ := ry; exact PySem.EqNone.ne_none_int (fin_bl I q (by simp))
    | str j => obtain ⟨t', rfl⟩ := ry; exact PySem.EqNone.ne_none_str (fin_bl I q (by simp))
    | _ => exact absurd (show false = true from hs) Bool.false_ne_true
  | bl i =>
    cases rx
    cases y with
    | non => cases ry; exact PySem.EqNone.ne_bool_none (fin_bl I q (by simp))
    | bl j => cases ry; exact ne_bool (fin_bl I q (congrArg not dec_bl))
    | str j => obtain ⟨t', rfl⟩ := ry; exact PySem.EqMixed.ne_bool_str (fin_bl I q (by simp))
    | _ => exact absurd (show false = true from hs) Bool.false_ne_true
  | int i =>
    obtain ⟨t, rfl⟩ := rx
    cases y with
    | non => cases ry; exact PySem.EqNone.ne_int_none (fin_bl I q (by simp))
    | int j => obtain ⟨t', rfl⟩ := ry; exact ne_int (fin_bl I q (congrArg not dec_int))
    | str j => obtain ⟨t', rfl⟩ := ry; exact PySem.EqMixed.ne_int_str (fin_bl I q (by simp))
    | _ => exact absurd (show false = true from hs) Bool.false_ne_true
  | str i =>
    obtain ⟨t, rfl⟩ := rx
    cases y with
    | non => cases ry; exact PySem.EqNone.ne_str_none (fin_bl I q (by simp))
    | bl j => cases ry; exact PySem.EqMixed.ne_str_bool (fin_bl I q (by simp))
    | int j => obtain ⟨t', rfl⟩ := ry; exact PySem.EqMixed.ne_str_int (fin_bl I q (by simp))
    | str j => obtain ⟨t', rfl⟩ := ry; exact ne_str (fin_bl I q (congrArg not dec_str))
    | _ => exact absurd (show false = true from hs) Bool.false_ne_true
  | byt i =>
    obtain ⟨t, rfl⟩ := rx
    cases y with
    | byt j => obtain ⟨t', rfl⟩ := ry; exact PySem.W.ne_bytes (fin_bl I q (congrArg not dec_byt))
    | _ => exact absurd (show false = true from hs) Bool.false_ne_true
  | _ => cases y <;> exact absurd (show false = true from hs) Bool.false_ne_true
theorem op_lt : OpR X (compareOp .Lt) (rI0 fun i j => .bl (decide (i < j))) := opB0 fun _ _ _ _ _ _ _ q => lt_int q
theorem nomark (b : Expr) {op : CmpOp} (h : op ≠ .In := by decide) (h2 : op ≠ .NotIn := by decide) : behindInMarks op b = false := by
  have e1 : (op == CmpOp.In) = false := by cases op <;> first | rfl | exact absurd rfl h
  have e2 : (op == CmpOp.NotIn) = false := by cases op <;> first | rfl | exact absurd rfl h2
  cases b <;> simp [behindInMarks, e1, e2]
theorem pe_cmpR {op : CmpOp} {r : R2} (ho : OpR X (compareOp op) r) (ha : PE X a ta) (hb : PE X b tb) (hm : behindInMarks op b = false) : PE X (.Compare a [op] [b] pos) (tOp r ta tb) := by
  intro pins s σ H Q I h
  exact wpAny_Compare1 (binT ha hb I h fun v u s2 x y H2 I2 rx ry q => ho pins s2 σ H2 x y v u Q I2 rx ry q) hm
def tTest (t : TE) : TT := fun σ H Q => t σ H fun x H' => ∃ k, x = .bl k ∧ Q k H'
theorem pt_cmpR {op : CmpOp} {r : R2} (ho : OpR X (compareOp op) r) (ha : PE X a ta) (hb : PE X b tb) (hm : behindInMarks op b = false) : PT X (.Compare a [op] [b] pos) (tTest (tOp r ta tb)) := by
  intro pins s σ H Q I h
  refine wpAny_isTrue_Compare1 (thn (ha pins s σ H _ I h) fun v s1 ⟨x, H1, I1, r1, q1⟩ => thn (hb pins s1 σ H1 _ I1 q1) fun u s2 ⟨y, H2, I2, r2, q2⟩ =>
    thn (ho pins s2 σ H2 x y v u _ I2 r1 r2 q2) fun c s3 ⟨z, H3, I3, r3, k, e, q3⟩ => ?_) hm
  subst e
  cases r3
  exact wpAny_truthy_bool ⟨H3, I3, q3⟩
theorem line63 : (sizeLine : Nat) < 2 ^ 63 := by rw [sizeLine_eq]; decide
theorem op_add_str : OpR X (binaryOp .Add) (fun x y H Q => ∃ i j, x = .str i ∧ y = .str j ∧ i.length + j.length ≤ sizeLine ∧ Q (.str (i ++ j)) H) := by
  intro pins s σ H x y v u Q I rx ry h
  obtain ⟨i, j, rfl, rfl, hz, q⟩ := h
  obtain ⟨t, rfl⟩ := rx
  obtain ⟨t', rfl⟩ := ry
  exact add_str (fun t' tk => ⟨.str (i ++ j), H, I.tok _, ⟨_, rfl⟩, q⟩) hz
theorem vals1 {x : V} {us : List Value} (r : Vals [x] us) : ∃ u, us = [u] ∧ RelV x u := by
  cases r with
  | cons r1 r2 => cases r2; exact ⟨_, rfl, r1⟩
theorem call_int1 : CallR X (.type "int") (fun xs H Q => (∃ i, xs = [.int i] ∧ Q (.int i) H) ∨ ∃ k, xs = [.bl k] ∧ Q (.int (if k then 1 else 0)) H) := by
  intro pins s σ H xs us Q I r h
  rcases h with ⟨i, rfl, q⟩ | ⟨k, rfl, q⟩
  · obtain ⟨u, rfl, t, rfl⟩ := vals1 r
    exact call_int_int ⟨.int i, H, I, ⟨_, rfl⟩, q⟩
  · obtain ⟨u, rfl, r1⟩ := vals1 r
    cases r1
    exact call_int_bool ⟨.int (if k then 1 else 0), H, I.tok _, ⟨_, rfl⟩, q⟩
end
end L2
namespace L2
open PySem PySem.Spec PyProof.Rows
section
variable {prog : Program} {w : World} {A : Around} {E : Value → Shared → Prop} {s : Shared} {K : PySem.W.Frag} {x dx C f : Addr} {mA : Str → Option Value} {name : Str} {v : Value}
end
theorem RelO.some_of {v : V} {o : Option Value} (r : RelO (some v) o) : ∃ u, o = some u ∧ RelV v u := by
  cases o with
  | none => exact (show False from r).elim
  | some u => exact ⟨u, rfl, r⟩
section
variable {P : Program} {w : World} {H H' : Hp} {h h' : Heap} {a C dx : Addr} {fs fs' : List (Str × V)}
end
section
variable {X : Cx} {pins : List (Addr × Obj)} {σ : St} {H : Hp} {s : Shared} {a C dx : Addr} {fs : List (Str × V)} {f : Str} {v : V} {A : Around} {E : Value → Shared → Prop}
end
section
variable {X : Cx} {o e value : Expr} {f : Str} {pos pos' tpos : Pos} {ta tv : TE}
end
section
variable {X : Cx} {pins : List (Addr × Obj)} {σ : St} {H : Hp} {s : Shared} {A : Around} {E : Value → Shared → Prop} {Q : Value → Shared → Prop} {c : Value} {b : Bool}
end
end L2
namespace L2
open PySem PySem.Spec PyProof.Rows
structure Room (k : Nat) (A : Around) : Prop where
  hd : A.handled = none
  dp : A.depth + 3 * k + 5 < recursionLimit
  un : A.units + 16 * k + 200 < cLine
theorem Room.mono {j k : Nat} {A : Around} (r : Room k A) (h : j ≤ k) : Room j A := ⟨r.hd, by have := r.dp; omega, by have := r.un; omega⟩
theorem Room.deeper {k : Nat} {A : Around} (r : Room (k + 1) A) (env : Env) : Room k (A.deeper env) :=
  ⟨r.hd, by have := r.dp; show A.depth + 1 + 3 * k + 5 < _; omega, by have := r.un; show A.units + 3 + 16 * k + 200 < _; omega⟩
theorem Room.depth {k : Nat} {A : Around} (r : Room k A) : A.depth < recursionLimit := by have := r.dp; omega
theorem Room.units {k : Nat} {A : Around} (r : Room k A) : A.units + 64 < cLine := by have := r.un; omega
def tNil : TA := fun _ H Q => Q [] H
def tCons (ta : TE) (tr : TA) : TA := fun σ H Q => ta σ H fun x H1 => tr σ H1 fun xs H2 => Q (x :: xs) H2
section
variable {X : Cx} {e : Expr} {es : List Expr} {te : TE} {t : TA} {pos : Pos}
theorem pa_nil : PA X [] tNil := fun _ _ _ _ H Q I h => Calls.spliced_nil ⟨[], H, I, .nil, h⟩
theorem pa_cons (ha : PE X e te) (hr : PA X es t) (hs : starEach (e :: es) X.env = (false, eval e X.env) :: starEach es X.env := by rfl) : PA X (e :: es) (tCons te t) := by
  intro pos pins s σ H Q I h
  rw [hs]
  show wpAny _ _ (spliced ((false, eval e X.env) :: backTo pos (starEach es X.env))) _ _ s
  refine Calls.spliced_cons (thn (ha pins s σ H _ I h) fun u s1 ⟨x, H1, I1, r1, q1⟩ => ?_)
  exact thn (hr pos pins s1 σ H1 _ I1 q1) fun us s2 ⟨xs, H2, I2, r2, q2⟩ => ⟨x :: xs, H2, I2, .cons r1 r2, q2⟩
def tTup (t : TA) : TE := fun σ H Q => t σ H fun xs H1 => xs.length ≤ sizeLine ∧ ∀ p, H1 p = none → Q (.ref p) (upd H1 p (.tup xs))
def tLst (t : TA) : TE := fun σ H Q => t σ H fun xs H1 => xs.length ≤ sizeLine ∧ ∀ p, H1 p = none → Q (.ref p) (upd H1 p (.lst xs))
theorem pe_tup {x1} (h : PA X es t) : PE X (.Tuple es x1 pos) (tTup t) := by
  intro pins s σ H Q I hq
  refine wpAny_Tuple_spliced (thn (h pos pins s σ H _ I hq) fun us s1 ⟨xs, H1, I1, r, z, q⟩ => ⟨by rw [← r.length]; exact z, ?_⟩)
  have hf : H1 s1.heap.objs.size = none := I1.hok.fresh (Nat.le_refl _)
  refine ⟨.ref s1.heap.objs.size, upd H1 s1.heap.objs.size (.tup xs), I1.laid (t' := s1.toks) (fun b u e => Heap.get?_push_of_some _ e) (Nat.le_refl _) ?_, rfl, q _ hf⟩
  exact ⟨z, us, r, ⟨_, Heap.get?_push_size _ rfl, rfl, _, rfl⟩⟩
theorem pe_lst (h : PA X es t) : PE X (.List es pos) (tLst t) := by
  intro pins s σ H Q I hq
  refine wpAny_List_spliced (thn (h pos pins s σ H _ I hq) fun us s1 ⟨xs, H1, I1, r, z, q⟩ => ⟨by rw [← r.length]; exact z, ?_⟩)
  have hf : H1 s1.heap.objs.size = none := I1.hok.fresh (Nat.le_refl _)
  refine ⟨.ref s1.heap.objs.size, upd H1 s1.heap.objs.size (.lst xs), I1.laid (t' := s1.toks) (fun b u e => Heap.get?_push_of_some _ e) (Nat.le_refl _) ?_, rfl, q _ hf⟩
  exact ⟨z, us, 0, r, Heap.get?_push_size _ rfl⟩
end
abbrev Sp := List V → Hp → VK → XK → Prop
abbrev CXT := List Env → Hp → Shared → XK → Value → Shared → Prop
structure Env0 (P : Program) (w : World) (K : PySem.W.Frag) (mg : Str → Option Value) (base : Heap) (A : Around) (outer : List Env) (s : Shared) (H : Hp) : Prop where
  frames : A.frames = some outer
  mod : Mod K mg base
  bs : ∀ b o, base.get? b = some o → s.heap.get? b = some o ∧ H b = none
  bsz : base.objs.size ≤ s.heap.objs.size
  funs : s.heap.FunFrames base outer
  frf : ∀ b ∈ frs outer, H b = none
  hok : HOk P w H s.heap
  bare : AllBare s.gens
def CE (outer : List Env) (P : Program) (w : World) (H : Hp) (s : Shared) (Q : VK) (u : Value) (s' : Shared) : Prop :=
  ∃ v H', s'.os = s.os ∧ AllBare s'.gens ∧ Un (frs outer) [] H H' s.heap s'.heap ∧ HOk P w H' s'.heap ∧ RelV v u ∧ Q v H'
def CR (CX : CXT) (outer : List Env) (P : Program) (w : World) (H : Hp) (s : Shared) (Q : VK) (E : XK) (r : Result) (s' : Shared) : Prop :=
  match r with
  | .ok (.ret u) => CE outer P w H s Q u s'
  | .ok _ => False
  | .error e => CX outer H s E e s'
structure FnOk (P : Program) (w : World) (K : PySem.W.Frag) (mg : Str → Option Value) (base : Heap) (CX : CXT) (k : Nat) (f : Addr) (fd : FuncData) (ps : List Str) (sp : Sp) : Prop where
  len : ∀ vs H Q E, sp vs H Q E → vs.length = ps.length
  run : ∀ (A : Around) (outer : List Env) (s : Shared) (H : Hp) (args : Args) (us : List Value) (vs : List V) (Q : VK) (E : XK), Room k A → Env0 P w K mg base A outer s H → BindsTo s fd args (ps.zip us) → Vals vs us → sp vs H Q E →
    codeAny (model P w) A (.call (.ref f) args) (CR CX outer P w H s Q E) s
theorem FnOk.mono {P : Program} {w : World} {K : PySem.W.Frag} {mg : Str → Option Value} {base : Heap} {CX : CXT} {j k : Nat} {f : Addr} {fd : FuncData} {ps : List Str} {sp : Sp} (F : FnOk P w K mg base CX j f fd ps sp) (h : j ≤ k) :
    FnOk P w K mg base CX k f fd ps sp := ⟨F.len, fun A outer s H args us vs Q E hr => F.run A outer s H args us vs Q E (hr.mono h)⟩
section
variable {X : Cx} {pins : List (Addr × Obj)} {σ : St} {H : Hp} {s s' : Shared}
theorem Inv.env0 (I : Inv X pins σ H s) : Env0 X.prog X.w X.K X.mg X.base X.A X.stack s H :=
  ⟨I.ok.frames, I.ok.mod, I.bs, Nat.le_trans I.ok.bsz I.sz, I.stack, I.stkFree, I.hok, I.bare⟩
theorem Inv.after {Q : VK} {u : Value} (I : Inv X pins σ H s) (h : CE X.stack X.prog X.w H s Q u s') : EP X pins σ Q u s' := by
  obtain ⟨v, H', os, bare, un, hok, r, q⟩ := h
  obtain ⟨hh, g, d, t, os'⟩ := s'
  obtain rfl : os' = s.os := os
  exact ⟨v, H', I.call (h' := hh) (g' := g) (d' := d) (t' := t) (ch := []) un hok bare (fun b z => absurd z (by simp)), r, q⟩
end
def tCall (sp : Sp) (dvs : List V) (E : XK) (t : TA) : TE := fun σ H Q => t σ H fun vs H1 => sp (vs ++ dvs) H1 Q E
def Binds (K : PySem.W.Frag) (fd : FuncData) (ps : List Str) (ds : List Value) : Prop :=
  ∀ (s : Shared) (us : List Value), K.In s.heap → (us ++ ds).length = ps.length → BindsTo s fd ⟨us, []⟩ (ps.zip (us ++ ds))
theorem Binds.all {K : PySem.W.Frag} {fd : FuncData} {ps : List Str} (h : ∀ us : List Value, us.length = ps.length → bindArgs fd ⟨us, []⟩ = pure (ps.zip us)) : Binds K fd ps [] := fun s us _ hl => by
  rw [List.append_nil] at hl ⊢
  exact .of_eq (h us hl)
def Passes (CX : CXT) (X : Cx) (E : XK) : Prop := ∀ (pins : List (Addr × Obj)) (σ : St) (H : Hp) (s : Shared) (e : Value) (s' : Shared), Inv X pins σ H s → CX X.stack H s E e s' → X.xe e s'
section
variable {X : Cx} {CX : CXT} {k : Nat} {f C : Addr} {fd : FuncData} {ps : List Str} {sp : Sp} {dvs : List V} {ds : List Value} {E : XK} {x m : Str} {p pos apos : Pos} {e o : Expr} {es : List Expr} {ta : TE} {t : TA}
theorem run_fn {pins : List (Addr × Obj)} {σ : St} {H : Hp} {s : Shared} {Q : VK} {us : List Value} {vs : List V} (F : FnOk X.prog X.w X.K X.mg X.base CX k f fd ps sp) (hr : Room k X.A) (hb : Binds X.K fd ps ds) (hd : Vals dvs ds) (hx : Passes CX X E)
    (I : Inv X pins σ H s) (r : Vals vs us) (h : sp (vs ++ dvs) H Q E) : wpAny (model X.prog X.w) X.A (call (.ref f) us) (EP X pins σ Q) X.xe s := by
  have r2 : Vals (vs ++ dvs) (us ++ ds) := r.append hd
  have hl : (us ++ ds).length = ps.length := by rw [← r2.length]; exact F.len _ _ _ _ h
  refine wpAny_call (codeAny_mono (F.run X.A X.stack s H ⟨us, []⟩ (us ++ ds) (vs ++ dvs) Q E hr I.env0 (hb s us I.kIn hl) r2 h) fun r s' hq => ?_)
  cases r with
  | error e => exact hx pins σ H s e s' I hq
  | ok fl =>
    cases fl with
    | ret u => exact I.after hq
    | next => exact False.elim hq
    | brk => exact False.elim hq
    | cont => exact False.elim hq
theorem pe_call (F : FnOk X.prog X.w X.K X.mg X.base CX k f fd ps sp) (hr : Room k X.A) (hg : Gl X x) (hm : X.mg x = some (.ref f)) (hk : PySem.W.keepIn X.K (.ref f) = true) (hb : Binds X.K fd ps ds) (hd : Vals dvs ds) (hx : Passes CX X E)
    (ha : PA X (e :: es) t) (hdb : (x == ("__debug__" : Str)) = false := by decide) (he : starEach (e :: es) X.env = (false, eval e X.env) :: starEach es X.env := by rfl) (hpl : (backTo pos (starEach es X.env)).any (·.1) = false := by rfl) :
    PE X (.Call (.Name x p) (e :: es) [] pos) (tCall sp dvs E t) := by
  intro pins s σ H Q I h
  refine wpAny_Call_Name_kw (ld_glob I hg hm ?_ hdb)
  refine PySem.W.callWith_K (h₀ := X.base) I.ok.mod.kin hk (thn (ha pos pins s σ H _ I h) fun us s1 ⟨vs, H1, I1, r, q⟩ => ⟨I1.kIn, ?_⟩) he hpl
  exact run_fn F hr hb hd hx I1 r q
end
section
variable {X : Cx} {CX : CXT} {k : Nat} {f C : Addr} {fd : FuncData} {ps ks : List Str} {sp : Sp} {E : XK} {x m : Str} {p pos apos kpos : Pos} {e o : Expr} {es : List Expr} {kws : List Keyword} {te ta : TE} {t tk : TA} {nm : Option Str}
variable {g : List Value → List Value → List Value} {gV : List V → List V → List V}
end
structure FnScope (N P : List Str) (sc : Scope) : Prop where
  kind : sc.kind = .function
  co : sc.isCoroutine = false
  gen : sc.isGenerator = false
  nd : N.Nodup
  pre : N.take P.length = P
  par : ∀ x ∈ P, sc.names.lookup x = some .local ∨ sc.names.lookup x = some .cell
  nofree : ∀ y ∈ sc.names, y.2 ≠ .free
theorem bindL_out {kindOf : Str → Option NameKind} {x : Str} : ∀ {binds : List (Str × Value)} {m : Str → Option Value}, (∀ v, (x, v) ∉ binds) → bindL kindOf binds m x = m x
  | [], _, _ => rfl
  | (n, v) :: r, m, h => by
    unfold bindL
    rw [bindL_out fun w hw => h w (List.mem_cons_of_mem _ hw)]
    split
    · have : x ≠ n := by rintro rfl; exact h v List.mem_cons_self
      simp [this]
    · rfl
theorem bindC_out {kindOf : Str → Option NameKind} {x : Str} : ∀ {binds : List (Str × Value)} {m : Str → Option Value}, (∀ v, (x, v) ∉ binds) → bindC kindOf binds m x = m x
  | [], _, _ => rfl
  | (n, v) :: r, m, h => by
    unfold bindC
    rw [bindC_out fun w hw => h w (List.mem_cons_of_mem _ hw)]
    split
    · rfl
    · have : x ≠ n := by rintro rfl; exact h v List.mem_cons_self
      simp [this]
theorem bindL_get {kindOf : Str → Option NameKind} {x : Str} {v : Value} : ∀ {P : List Str} {vs : List Value} {i : Nat} {m : Str → Option Value}, P.Nodup → P[i]? = some x → vs[i]? = some v → kindOf x = some .local →
    bindL kindOf (P.zip vs) m x = some v
  | [], _, _, _, _, h, _, _ => by simp at h
  | _ :: _, [], _, _, _, _, h, _ => by simp at h
  | p :: P, w :: vs, 0, m, nd, h1, h2, hk => by
    simp at h1 h2; subst h1; subst h2
    show bindL kindOf ((p, w) :: P.zip vs) m p = _
    unfold bindL
    rw [bindL_out fun v hv => (List.nodup_cons.mp nd).1 (List.of_mem_zip hv).1, if_pos hk]
    simp
  | p :: P, w :: vs, i + 1, m, nd, h1, h2, hk => by
    show bindL kindOf ((p, w) :: P.zip vs) m x = _
    unfold bindL
    exact bindL_get (i := i) (List.nodup_cons.mp nd).2 (by simpa using h1) (by simpa using h2) hk
theorem bindC_get {kindOf : Str → Option NameKind} {x : Str} {v : Value} : ∀ {P : List Str} {vs : List Value} {i : Nat} {m : Str → Option Value}, P.Nodup → P[i]? = some x → vs[i]? = some v → kindOf x ≠ some .local →
    bindC kindOf (P.zip vs) m x = some v
  | [], _, _, _, _, h, _, _ => by simp at h
  | _ :: _, [], _, _, _, _, h, _ => by simp at h
  | p :: P, w :: vs, 0, m, nd, h1, h2, hk => by
    simp at h1 h2; subst h1; subst h2
    show bindC kindOf ((p, w) :: P.zip vs) m p = _
    unfold bindC
    rw [bindC_out fun v hv => (List.nodup_cons.mp nd).1 (List.of_mem_zip hv).1, if_neg hk]
    simp
  | p :: P, w :: vs, i + 1, m, nd, h1, h2, hk => by
    show bindC kindOf ((p, w) :: P.zip vs) m x = _
    unfold bindC
    exact bindC_get (i := i) (List.nodup_cons.mp nd).2 (by simpa using h1) (by simpa using h2) hk
def start (N : List Str) (vs : List V) : St := vs.map some ++ List.replicate (N.length - vs.length) none
def cxOf (CX : CXT) (P : Program) (w : World) (K : PySem.W.Frag) (mg : Str → Option Value) (base : Heap) (N : List Str) (qual : Str) (scope : Scope) (f : Addr) (cd : Value) (A : Around) (outer : List Env) (s : Shared) (H : Hp) (E : XK) : Cx where
  prog := P
  w := w
  K := K
  mg := mg
  base := base
  A := A.deeper (envOfC qual scope s.heap.objs.size f cd)
  N := N
  s₀ := s
  H₀ := H
  env := envOfC qual scope s.heap.objs.size f cd
  outer := outer
  stack := envOfC qual scope s.heap.objs.size f cd :: outer
  ex := []
  calm := true
  fn := fun _ => true
  pn := []
  xe := fun e s' => wpAny (model P w) (A.deeper (envOfC qual scope s.heap.objs.size f cd)) (leaving (envOfC qual scope s.heap.objs.size f cd) e) (fun _ s'' => CX outer H s E e s'') (fun e' s'' => CX outer H s E e' s'') s'
theorem cell_has {sc : Scope} {n : Nat} {x : Str} (h : sc.names.lookup x = some .cell) : ∃ c, (cellsFrom n sc.names []).lookup x = some c := by
  have q := PySem.W.cellsFrom_some sc.names n [] (.inl h)
  exact Option.isSome_iff_exists.mp q
theorem inv_start {CX : CXT} {P : Program} {w : World} {K : PySem.W.Frag} {mg : Str → Option Value} {base : Heap} {N ps : List Str} {qual : Str} {scope : Scope} {f : Addr} {cd : Value} {A : Around} {outer : List Env} {s s1 : Shared} {H : Hp} {E : XK} {us : List Value} {vs : List V}
    (S : FnScope N ps scope) (hd : A.handled = none) (e0 : Env0 P w K mg base A outer s H) (hl : vs.length = ps.length) (r : Vals vs us)
    (x : InCallC s s.heap.objs.size (bindL (envOfC qual scope s.heap.objs.size f cd).kindOf (ps.zip us) fun _ => none) (cellsFrom (s.heap.objs.size + 1) scope.names []) (bindC (envOfC qual scope s.heap.objs.size f cd).kindOf (ps.zip us) fun _ => none) s1) :
    Inv (cxOf CX P w K mg base N qual scope f cd A outer s H E) [] (start N vs) H s1 := by
  have hpl : ps.length ≤ N.length := by have := congrArg List.length S.pre; rw [List.length_take] at this; omega
  obtain ⟨h1, tk, rfl, hk⟩ := x.done
  have noA : ∀ b : Addr, b ∉ (cxOf CX P w K mg base N qual scope f cd A outer s H E).ex := fun b z => absurd (show b ∈ ([] : List Addr) from z) (by simp)
  refine ⟨⟨e0.mod, S.kind, rfl, rfl, Nat.le_refl _, fun y z c h1 h2 => ?_, fun y hy => ?_, fun y c _ h => ?_, fun _ => hd, Around.frames_deeper e0.frames, .inr ⟨rfl, rfl⟩, fun b z => absurd z (noA b), e0.bs, e0.bsz, fun b _ _ => noA b, fun b z => absurd z (noA b), e0.funs, e0.frf⟩,
    rfl, e0.bare, Un.kept hk, ⟨_, x.toInCall.ns, fun i y v h1 h2 h3 => ?_⟩, fun y c h => ⟨_, x.cell y c h⟩, e0.hok.fresh (Nat.le_refl _), fun y c h => ?_, fun p hp => absurd (show p ∈ ([] : List (Addr × Obj)) from hp) (by simp), e0.hok.kept hk, ?_⟩
  · exact name_of_addr x.apart (PySem.mem_of_lookup h1) (PySem.mem_of_lookup h2)
  · have hy : scope.names.lookup y = some .cell ∨ scope.names.lookup y = some .free := hy
    rcases hy with hy | hy
    · exact cell_has hy
    · exact absurd rfl (S.nofree _ (PySem.mem_of_lookup hy))
  · exact Nat.le_of_lt (x.above y c (PySem.mem_of_lookup h))
  · have hi : i < vs.length := by
      unfold start at h2
      by_cases hi : i < vs.length
      · exact hi
      · rw [List.getElem?_append_right (by simpa using hi)] at h2
        rw [List.getElem?_replicate] at h2
        split at h2 <;> cases h2
    have ha : vs[i]? = some v := by
      unfold start at h2
      rw [List.getElem?_append_left (by simpa using hi), List.getElem?_map] at h2
      cases e : vs[i]? with
      | none => rw [e] at h2; cases h2
      | some a => rw [e] at h2; cases h2; rfl
    obtain ⟨u, hu, rv⟩ := r.get ha
    have hp : ps[i]? = some y := by
      rw [← S.pre, List.getElem?_take_of_lt (by omega)]; exact h1
    have ndP : ps.Nodup := by rw [← S.pre]; exact S.nd.sublist (List.take_sublist _ _)
    refine ⟨u, rv, ?_⟩
    rcases S.par y (List.mem_of_getElem? hp) with k | k
    · exact .inl ⟨k, bindL_get ndP hp hu k⟩
    · obtain ⟨c, e⟩ := cell_has (n := s.heap.objs.size + 1) k
      refine .inr ⟨.inl k, c, e, ?_⟩
      have q := x.cell y c e
      rw [bindC_get ndP hp hu (by show scope.names.lookup y ≠ _; rw [k]; decide)] at q
      exact q
  · exact e0.hok.fresh (Nat.le_of_lt (x.above y c (PySem.mem_of_lookup h)))
  · unfold start
    show _ = N.length
    rw [List.length_append, List.length_map, List.length_replicate]
    omega
theorem fn_of {CX : CXT} {P : Program} {w : World} {K : PySem.W.Frag} {mg : Str → Option Value} {base : Heap} {k : Nat} {f : Addr} {name qual : Str} {params : Arguments} {body : List Stmt} {scope : Scope} {dV kV doc pm cdv ct oc : Value} {an od : Option Addr}
    {osl : Array (Option Value)} {N ps : List Str} {sp : Sp} (lk : K.lookup f = some ⟨oc, od, .func (PySem.W.fnOf name qual params body scope dV kV doc pm an cdv ct), osl⟩) (hcd : PySem.W.codeIn K cdv qual = true) (S : FnScope N ps scope)
    (len : ∀ vs H Q E, sp vs H Q E → vs.length = ps.length)
    (hbody : ∀ (A : Around) (outer : List Env) (s : Shared) (H : Hp) (vs : List V) (Q : VK) (E : XK), Room k (A.deeper (envOfC qual scope s.heap.objs.size f cdv)) → sp vs H Q E →
      ∃ t, PSs (cxOf CX P w K mg base N qual scope f cdv A outer s H E) body t ∧ t { nx := fun _ H' => Q .non H', rt := Q } (start N vs) H) :
    FnOk P w K mg base CX (k + 1) f (PySem.W.fnOf name qual params body scope dV kV doc pm an cdv ct) ps sp := by
  refine ⟨len, fun A outer s H args us vs Q E hr e0 hb r hsp => ?_⟩
  have hl := len _ _ _ _ hsp
  have KX : K.In s.heap := e0.mod.kin.keeps fun b o e => (e0.bs b o e).1
  have lim : s.heap.NoLimit := e0.mod.nolimit.keeps fun b o e => (e0.bs b o e).1
  have hkind : ∀ y ∈ ps.zip us, scope.names.lookup y.1 = some .local ∨ (scope.names.lookup y.1 = some .cell ∧ ((cellsFrom (s.heap.objs.size + 1) scope.names []).lookup y.1).isSome = true) := fun ⟨n, v⟩ hy => by
    rcases S.par n (List.of_mem_zip hy).1 with q | q
    · exact .inl q
    · exact .inr ⟨q, PySem.W.cellsFrom_some _ _ _ (.inl q)⟩
  refine codeAny_call_function hr.depth (KX _ _ lk) rfl S.co S.gen rfl (PySem.W.codeRec_of KX hcd) (hb _ _ _ _ ?_)
  refine wpAny_newFunctionEnv_cells S.kind hkind fun env he s1 x => ?_
  subst he
  refine ⟨lim.keeps x.toInCall.keep, codeAny_func ?_⟩
  obtain ⟨t, ht, hq⟩ := hbody A outer s H vs Q E (hr.deeper _) hsp
  have I : Inv (cxOf CX P w K mg base N qual scope f cdv A outer s H E) [] (start N vs) H s1 := inv_start S hr.hd e0 hl r x
  refine wpAny_mono (ht [] s1 (start N vs) H _ I hq) (fun fl s' hs => ?_) fun e s' hs => hs
  have fin : ∀ {σ' : St} {H' : Hp} {v : V} {u : Value}, Inv (cxOf CX P w K mg base N qual scope f cdv A outer s H E) [] σ' H' s' → RelV v u → Q v H' → CE outer P w H s Q u s' :=
    fun {σ' H' v u} J rv q => ⟨v, H', J.os, J.bare, J.base, J.hok, rv, q⟩
  cases fl with
  | ret u =>
    obtain ⟨v, σ', H', J, rv, q⟩ := hs
    exact fin J rv q
  | next =>
    obtain ⟨σ', H', J, q⟩ := hs
    exact fin (v := V.non) (u := Value.none) J rfl q
  | brk =>
    obtain ⟨_, _, _, q⟩ := hs
    exact False.elim q
  | cont =>
    obtain ⟨_, _, _, q⟩ := hs
    exact False.elim q
end L2
namespace L2
open PySem PySem.Spec PyProof.Rows
section
variable {X : Cx} {x : Str} {p pos : Pos} {e : Expr} {es : List Expr} {t : TA} {id T : String} {r : List V → Hp → VK → Prop}
def tCB (r : List V → Hp → VK → Prop) (t : TA) : TE := fun σ H Q => t σ H fun vs H1 => r vs H1 Q
theorem pe_callB (hc : CallR X (.builtin id) r) (hg : Gl X x) (hm : X.mg x = none) (hv : bootBuiltins x = some (.builtin id)) (ha : PA X (e :: es) t) (hn : x ≠ "__name__" := by decide) (hdb : (x == ("__debug__" : Str)) = false := by decide)
    (he : starEach (e :: es) X.env = (false, eval e X.env) :: starEach es X.env := by rfl) (hpl : (backTo pos (starEach es X.env)).any (·.1) = false := by rfl) : PE X (.Call (.Name x p) (e :: es) [] pos) (tCB r t) := by
  intro pins s σ H Q I h
  refine wpAny_Call_Name_kw (ld_blt I hg hm hv ?_ hn hdb)
  exact PyProof.Rows.callWith_builtin1 (thn (ha pos pins s σ H _ I h) fun us s1 ⟨vs, H1, I1, r1, q1⟩ => hc pins s1 σ H1 vs us Q I1 r1 q1) he hpl
theorem pe_callTy (hc : CallR X (.type T) r) (hg : Gl X x) (hm : X.mg x = none) (hv : bootBuiltins x = some (.type T)) (ha : PA X (e :: es) t) (hn : x ≠ "__name__" := by decide) (hdb : (x == ("__debug__" : Str)) = false := by decide)
    (he : starEach (e :: es) X.env = (false, eval e X.env) :: starEach es X.env := by rfl) (hpl : (backTo pos (starEach es X.env)).any (·.1) = false := by rfl) : PE X (.Call (.Name x p) (e :: es) [] pos) (tCB r t) := by
  intro pins s σ H Q I h
  refine wpAny_Call_Name_kw (ld_blt I hg hm hv ?_ hn hdb)
  exact PyProof.Rows.callWith_type1 (thn (ha pos pins s σ H _ I h) fun us s1 ⟨vs, H1, I1, r1, q1⟩ => hc pins s1 σ H1 vs us Q I1 r1 q1) he hpl
end
end L2
namespace HT
open PySem PyProof.Rows
section
open PySem.SeqAt
open PySem.AutoSeq1 (wpAny_loadPart')
open PySem.MeetsSeq PySem.MeetsSeq2 PySem.MeetsSeq3
end
section
variable {prog : Program} {w : World} {A : Around} {E : Value → Shared → Prop} {s : Shared}
theorem cat_tup {t b : Addr} {vs ws : List Value} {Q : Value → Shared → Prop} (ht : IsTup s.heap t vs.toArray) (hb : IsTup s.heap b ws.toArray) (hv : vs ≠ [])
    (h1 : ws = [] → Q (.ref t) s) (h2 : ws ≠ [] → Q (.ref s.heap.objs.size) { s with heap := s.heap.push { cls := .type "tuple", data := .seq (vs ++ ws).toArray } })
    (hsz : vs.length + ws.length ≤ sizeLine) : wpAny (model prog w) A (binaryOp .Add (.ref t) (.ref b)) Q E s := by
  obtain ⟨⟨cls, dd, data, sl⟩, ho, hc, n, hd⟩ := id ht
  obtain ⟨⟨cls2, dd2, data2, sl2⟩, ho2, hc2, n2, hd2⟩ := id hb
  simp only at hc hd hc2 hd2
  subst hc hd hc2 hd2
  have e : vs.toArray ++ ws.toArray = (vs ++ ws).toArray := by simp
  by_cases hw : ws = []
  · exact concat_meets ⟨_, ho, rfl⟩ ⟨_, ho2, rfl⟩ noFill_tuple_add seq_tuple_add PySem.F.slot_tuple_add PySem.F.entry_tuple_add (PySem.F.args_tuple_add_2 _ _)
      (tuple_addW1 t b vs.toArray ws.toArray n n2 dd dd2 sl sl2 (by simpa using hv) (by simp [hw])) ⟨ho, ho2, h1 hw⟩
  · refine concat_meets ⟨_, ho, rfl⟩ ⟨_, ho2, rfl⟩ noFill_tuple_add seq_tuple_add PySem.F.slot_tuple_add PySem.F.entry_tuple_add (PySem.F.args_tuple_add_2 _ _)
      (tuple_addW2 t b vs.toArray ws.toArray n n2 dd dd2 sl sl2 (by simpa using hv) (by simpa using hw) (by rw [List.size_toArray, List.size_toArray]; exact hsz)) ⟨ho, ho2, ?_⟩
    rw [e]
    exact h2 hw
def sIx (n d : Nat) : Option Int → Nat
  | none => d
  | some v => if v < 0 then (v + (n : Int)).toNat else min v.toNat n
theorem sIx_nat (n d k : Nat) : sIx n d (some (k : Int)) = min k n := by
  show (if (k : Int) < 0 then ((k : Int) + (n : Int)).toNat else min (k : Int).toNat n) = min k n
  rw [if_neg (by omega), Int.toNat_natCast]
end
end HT
namespace L2
open PySem PySem.Spec PyProof.Rows
abbrev TO := St → Hp → (Option Int → Hp → Prop) → Prop
def PO (X : Cx) (e : Option Expr) (t : TO) : Prop :=
  ∀ (pins : List (Addr × Obj)) (s : Shared) (σ : St) (H : Hp) (Q : Option Int → Hp → Prop), Inv X pins σ H s → t σ H Q →
    wpAny (model X.prog X.w) X.A (evalPart e X.env) (fun u s' => ∃ o H', Inv X pins σ H' s' ∧ IsPart u o ∧ Q o H') X.xe s
def tNoPart : TO := fun _ H Q => Q none H
def tPart (t : TE) : TO := fun σ H Q => t σ H fun x H1 => ∃ i, x = .int i ∧ Q (some i) H1
section
variable {X : Cx} {e : Expr} {te : TE} {lo hi : Option Expr} {tl th : TO} {pos p2 : Pos}
theorem po_none : PO X none tNoPart := by
  intro pins s σ H Q I h
  rw [evalPart_none]
  exact wpAny_pure ⟨none, H, I, .none, h⟩
theorem po_some (h : PE X e te) : PO X (some e) (tPart te) := by
  intro pins s σ H Q I hw
  rw [evalPart_some]
  refine thn (h pins s σ H _ I hw) fun u s1 ⟨x, H1, I1, r1, q1⟩ => ?_
  obtain ⟨i, rfl, q⟩ := q1
  obtain ⟨t, rfl⟩ := r1
  exact ⟨some i, H1, I1, .int i t, q⟩
def SlR (X : Cx) (r : V → Option Int → Option Int → Hp → VK → Prop) : Prop :=
  ∀ (pins : List (Addr × Obj)) (s : Shared) (σ : St) (H : Hp) (x : V) (v vl vu : Value) (lo hi : Option Int) (sl : Addr) (Q : VK), Inv X pins σ H s → RelV x v → s.heap.IsSliceOf sl vl vu .none → IsPart vl lo → IsPart vu hi → r x lo hi H Q →
    ∃ T id, typeLookup (.type T) "__getitem__" = pure (some (.builtin id)) ∧ s.TypeIs v T ∧ wpAny (model X.prog X.w) X.A (getItem v (.ref sl)) (EP X pins σ Q) X.xe s
def tSl (r : V → Option Int → Option Int → Hp → VK → Prop) (te : TE) (tl th : TO) : TE := fun σ H Q => te σ H fun x H1 => tl σ H1 fun l H2 => th σ H2 fun u H3 => r x l u H3 Q
theorem pe_slice {r : V → Option Int → Option Int → Hp → VK → Prop} (hr : SlR X r) (he : PE X e te) (hl : PO X lo tl) (hu : PO X hi th) : PE X (.Subscript e (.Slice lo hi none p2) pos) (tSl r te tl th) := by
  intro pins s σ H Q I h
  refine Subscript_ (thn (he pins s σ H _ I h) fun v s1 ⟨x, H1, I1, r1, q1⟩ => ?_)
  refine wpAny_Slice (thn (hl pins s1 σ H1 _ I1 q1) fun vl s2 ⟨l, H2, I2, pl, q2⟩ => thn (hu pins s2 σ H2 _ I2 q2) fun vu s3 ⟨u, H3, I3, pu, q3⟩ => ?_)
  rw [evalPart_none]
  refine wpAny_pure ?_
  have I4 : Inv X pins σ H3 { s3 with heap := s3.heap.push { cls := .type "slice", data := .fields #[vl, vu, .none] } } := I3.kept (t' := s3.toks) fun b ob q => Heap.get?_push_of_some _ q
  obtain ⟨T, id, hT, ht, hg⟩ := hr pins { s3 with heap := s3.heap.push { cls := .type "slice", data := .fields #[vl, vu, .none] } } σ H3 x v vl vu l u s3.heap.objs.size Q I4 r1 (Heap.IsSliceOf.new ..) pl pu q3
  show wpAny (model X.prog X.w) X.A (subscriptTail e (.Slice lo hi none p2) v (.ref s3.heap.objs.size)) (EP X pins σ Q) X.xe { s3 with heap := s3.heap.push { cls := .type "slice", data := .fields #[vl, vu, .none] } }
  exact tail_any (ops := [.ref s3.heap.objs.size, v]) ht hT hg (by with_unfolding_all rfl)
def cutV (xs : List V) (lo hi : Option Int) : List V := (xs.drop (HT.sIx xs.length 0 lo)).take (HT.sIx xs.length xs.length hi - HT.sIx xs.length 0 lo)
theorem cutV_length (xs : List V) (lo hi : Option Int) : (cutV xs lo hi).length ≤ xs.length := by
  unfold cutV
  rw [List.length_take, List.length_drop]
  omega
def rCatT (K : PySem.W.Frag) : R2 := fun x y H Q => ∃ a b xs ys, x = .ref a ∧ y = .ref b ∧ SqT K H a xs ∧ SqT K H b ys ∧ xs ≠ [] ∧ xs.length + ys.length ≤ sizeLine ∧
  (ys = [] → Q (.ref a) H) ∧ (ys ≠ [] → ∀ p, H p = none → Q (.ref p) (upd H p (.tup (xs ++ ys))))
theorem Vals.nil_iff {xs : List V} {us : List Value} (r : Vals xs us) : us = [] ↔ xs = [] := by
  cases r with
  | nil => simp
  | cons _ _ => simp
theorem op_catT : OpR X (binaryOp .Add) (rCatT X.K) := by
  intro pins s σ H x y v u Q I rx ry h
  obtain ⟨a, b, xs, ys, rfl, rfl, ha, hb, hx, hz, q1, q2⟩ := h
  cases rx
  cases ry
  obtain ⟨its, r1, p1, _⟩ := I.tuple ha
  obtain ⟨its2, r2, p2, _⟩ := I.tuple hb
  refine HT.cat_tup p1 p2 (fun z => hx (r1.nil_iff.mp z)) (fun z => ⟨.ref a, H, I, rfl, q1 (r2.nil_iff.mp z)⟩) (fun z => ?_) (by rw [← r1.length, ← r2.length]; exact hz)
  refine ⟨.ref s.heap.objs.size, _, I.laid (t' := s.toks) (o := .tup (xs ++ ys)) (fun b ob q => Heap.get?_push_of_some _ q) (Nat.le_refl _) ?_, rfl, q2 (fun w => z (r2.nil_iff.mpr w)) _ (I.hok.fresh (Nat.le_refl _))⟩
  exact ⟨by rw [List.length_append]; exact hz, _, r1.append r2, IsTup.new _ _⟩
end
end L2
namespace L2
open PySem PySem.Spec PyProof.Rows
def ixN (n : Nat) (i : Int) : Option Nat := if 0 ≤ i then (if i < n then some i.toNat else none) else if -(n : Int) ≤ i then some (i + n).toNat else none
def atI {α : Type} (xs : List α) (i : Int) : Option α := (ixN xs.length i).bind fun j => xs[j]?
theorem ixN_seq {n : Nat} {i : Int} {j : Nat} (h : ixN n i = some j) : seqIndex? i n = some j ∧ j < n ∧ -(n : Int) ≤ i ∧ i < n := by
  unfold ixN at h
  by_cases h0 : 0 ≤ i
  · rw [if_pos h0] at h
    by_cases h1 : i < n
    · rw [if_pos h1] at h
      have e : i.toNat = j := Option.some.inj h
      exact ⟨by rw [seqIndex_of h0 h1, e], by omega, by omega, h1⟩
    · rw [if_neg h1] at h; cases h
  · rw [if_neg h0] at h
    by_cases h1 : -(n : Int) ≤ i
    · rw [if_pos h1] at h
      have e : (i + n).toNat = j := Option.some.inj h
      exact ⟨by rw [seqIndex_neg (by omega) h1, e], by omega, h1, by omega⟩
    · rw [if_neg h1] at h; cases h
theorem atI_get {α : Type} {xs : List α} {i : Int} {v : α} (h : atI xs i = some v) : ∃ j, seqIndex? i xs.length = some j ∧ xs[j]? = some v ∧ j < xs.length ∧ -(xs.length : Int) ≤ i ∧ i < xs.length := by
  unfold atI at h
  cases e : ixN xs.length i with
  | none => rw [e] at h; cases h
  | some j =>
    rw [e] at h
    obtain ⟨h1, h2, h3, h4⟩ := ixN_seq e
    exact ⟨j, h1, h, h2, h3, h4⟩
theorem atI_nat {α : Type} {xs : List α} {j : Nat} {v : α} (h : xs[j]? = some v) : atI xs (j : Int) = some v := by
  have hj : j < xs.length := (List.getElem?_eq_some_iff.mp h).1
  have e : ixN xs.length (j : Int) = some j := by
    unfold ixN
    rw [if_pos (by omega), if_pos (by omega)]; simp
  unfold atI; rw [e]; exact h
def PlainIx (b : Expr) : Prop := ∀ o i, subscripted b false o i = operate [o, i] (getItem o i)
def IxR (X : Cx) (r : R2) : Prop :=
  ∀ (value slice : Expr) (pins : List (Addr × Obj)) (s : Shared) (σ : St) (H : Hp) (x y : V) (v u : Value) (Q : VK), Inv X pins σ H s → RelV x v → RelV y u → r x y H Q →
    subscripted slice false v u = operate [v, u] (getItem v u) → wpAny (model X.prog X.w) X.A (subscriptTail value slice v u) (EP X pins σ Q) X.xe s
def MtR (X : Cx) (id : String) (r : V → List V → Hp → VK → Prop) : Prop :=
  ∀ (pins : List (Addr × Obj)) (s : Shared) (σ : St) (H : Hp) (x : V) (xs : List V) (v : Value) (us : List Value) (Q : VK), Inv X pins σ H s → RelV x v → Vals xs us → r x xs H Q →
    wpAny (model X.prog X.w) X.A (call (.builtin id) (v :: us)) (EP X pins σ Q) X.xe s
section
variable {X : Cx} {a b : Expr} {ta tb : TE} {pos : Pos}
theorem pe_ix {r : R2} (hr : IxR X r) (ha : PE X a ta) (hb : PE X b tb) (hs : PlainIx b) : PE X (.Subscript a b pos) (tOp r ta tb) := by
  intro pins s σ H Q I h
  exact Subscript_ (binT ha hb I h fun v u s2 x y H2 I2 rx ry q => hr a b pins s2 σ H2 x y v u Q I2 rx ry q (hs _ _))
def rIxL (K : PySem.W.Frag) : R2 := fun x y H Q => ∃ p xs i v, x = .ref p ∧ y = .int i ∧ SqL K H p xs ∧ atI xs i = some v ∧ Q v H
def rIxS : R2 := fun x y H Q => ∃ z i c, x = .str z ∧ y = .int i ∧ z.length ≤ sizeLine ∧ atI z.cps.toList i = some c ∧ Q (.str ⟨#[c]⟩) H
theorem ix_list : IxR X (rIxL X.K) := by
  intro value slice pins s σ H x y v u Q I rx ry h hs
  obtain ⟨p, xs, i, z, rfl, rfl, hq, he, q⟩ := h
  cases rx
  obtain ⟨t, rfl⟩ := ry
  obtain ⟨its, r, pl, hz⟩ := I.list hq
  obtain ⟨j, h1, h2, h3, h4, h5⟩ := atI_get he
  obtain ⟨w, ew, rw'⟩ := r.get h2
  have hl := r.length
  have hn := line63
  have fin : EP X pins σ Q w s := ⟨z, H, I, rw', q⟩
  by_cases h0 : 0 ≤ i
  · have hj : i.toNat = j := by
      rw [seqIndex_of h0 h5] at h1
      exact Option.some.inj h1
    exact item_listR pl.isList h0 (by omega) (by rw [hj]; simpa using ew) fin hs
  · have hj : (i + (its.toArray.size : Int)).toNat = j := by
      rw [seqIndex_neg (by omega) h4] at h1
      rw [List.size_toArray, ← hl]
      exact Option.some.inj h1
    exact subscriptTail_builtinR (x := w) pl.isList.typeIs slot_list_getitem.lookup
      (wpAny_getItem_list_neg (Q := fun r s' => r = w ∧ EP X pins σ Q r s') pl.isList (by omega) (by rw [List.size_toArray] <;> omega) (by omega) (by rw [hj]; simpa using ew) ⟨rfl, fin⟩) hs
theorem ix_str : IxR X rIxS := by
  intro value slice pins s σ H x y v u Q I rx ry h hs
  obtain ⟨z, i, c, rfl, rfl, hz, he, q⟩ := h
  obtain ⟨t, rfl⟩ := rx
  obtain ⟨t', rfl⟩ := ry
  obtain ⟨j, h1, h2, h3, h4, h5⟩ := atI_get he
  have hl : z.cps.toList.length = z.length := by simp [Str.length]
  rw [hl] at h1 h4 h5
  have hn := line63
  exact tail_any (typeIs_str s z t) slot_str_getitem.lookup (getItem_str (c := c) (by
    have e1 : decide (i < -(2 ^ 63 : Int)) = false := decide_eq_false (by omega)
    have e2 : decide (i ≥ 2 ^ 63) = false := decide_eq_false (by omega)
    rw [e1, e2, Bool.or_false]) (by rw [h1]; simpa using h2) ⟨.str ⟨#[c]⟩, H, I.tok _, ⟨_, rfl⟩, q⟩) hs
theorem slice_bounds (lo hi : Option Int) (n : Nat) : (sliceBounds lo hi none n).1 = ((HT.sIx n 0 lo : Nat) : Int) ∧ (sliceBounds lo hi none n).2.1 = ((HT.sIx n n hi : Nat) : Int) ∧ (sliceBounds lo hi none n).2.2 = 1 := by
  refine ⟨?_, ?_, rfl⟩
  · cases lo with
    | none => simp [sliceBounds, HT.sIx]
    | some i =>
      simp only [sliceBounds, HT.sIx, Option.getD_none, show (1 : Int) > 0 by decide, if_true]
      by_cases h : i < 0
      · simp only [h, if_true] <;> omega
      · simp only [h, if_false] <;> omega
  · cases hi with
    | none => simp [sliceBounds, HT.sIx]
    | some i =>
      simp only [sliceBounds, HT.sIx, Option.getD_none, show (1 : Int) > 0 by decide, if_true]
      by_cases h : i < 0
      · simp only [h, if_true] <;> omega
      · simp only [h, if_false] <;> omega
theorem slicePick_cut (its : List Value) (lo hi : Option Int) : slicePick its.toArray lo hi none = ((its.drop (HT.sIx its.length 0 lo)).take (HT.sIx its.length its.length hi - HT.sIx its.length 0 lo)).toArray := by
  obtain ⟨h1, h2, h3⟩ := slice_bounds lo hi its.toArray.size
  unfold slicePick
  rw [h1, h2, h3]
  simp only [sliceRange_one, pick_run, List.size_toArray] <;> rfl
def rSlL (K : PySem.W.Frag) : V → Option Int → Option Int → Hp → VK → Prop := fun x lo hi H Q => ∃ a xs, x = .ref a ∧ SqL K H a xs ∧ ∀ p, H p = none → Q (.ref p) (upd H p (.lst (cutV xs lo hi)))
theorem sl_list : SlR X (rSlL X.K) := by
  intro pins s σ H x v vl vu lo hi sl Q I rx hs pl pu h
  obtain ⟨a, xs, rfl, hx, q⟩ := h
  cases rx
  obtain ⟨its, r, ht, hz⟩ := I.list hx
  have hlen := r.length
  refine ⟨"list", _, slot_list_getitem.lookup, ht.isList.typeIs, ?_⟩
  refine wpAny_getItem_list_slice ht.isList hs pl pu .none (by simp) ?_ (by rw [List.size_toArray] <;> omega)
  rw [slicePick_cut, ← hlen]
  refine ⟨.ref s.heap.objs.size, _, I.laid (t' := s.toks) (o := .lst (cutV xs lo hi)) (fun b ob q => Heap.get?_push_of_some _ q) (Nat.le_refl _) ?_, rfl, q _ (I.hok.fresh (Nat.le_refl _))⟩
  exact ⟨Nat.le_trans (cutV_length xs lo hi) hz, _, 0, (r.drop (HT.sIx xs.length 0 lo)).take (HT.sIx xs.length xs.length hi - HT.sIx xs.length 0 lo), Heap.get?_push_size _ rfl⟩
def flatV : V → Bool
  | .non => true
  | .bl _ => true
  | .int _ => true
  | .str _ => true
  | _ => false
def eqV : V → V → Bool
  | .non, .non => true
  | .bl a, .bl b => a == b
  | .bl a, .int b => (if a then 1 else 0) == b
  | .int a, .bl b => a == (if b then 1 else 0)
  | .int a, .int b => a == b
  | .str a, .str b => a == b
  | _, _ => false
theorem eqAt_V {A : Around} {s : Shared} {y x : V} {u v : Value} (ry : RelV y u) (rx : RelV x v) (fy : flatV y = true) (fx : flatV x = true) : SeqAt.EqAt A s u v (eqV y x) := by
  cases y with
  | non =>
    cases ry
    cases x with
    | non => cases rx; exact SeqAt.EqAt.same _
    | bl b => cases rx; exact SeqAt.EqAt.none_bool b
    | int b => obtain ⟨t, rfl⟩ := rx; exact SeqAt.EqAt.none_int b t
    | str b => obtain ⟨t, rfl⟩ := rx; exact SeqAt.EqAt.none_str b t
    | _ => exact absurd (show false = true from fx) Bool.false_ne_true
  | bl a =>
    cases ry
    cases x with
    | non => cases rx; exact SeqAt.EqAt.bool_none a
    | bl b => cases rx; exact SeqAt.EqAt.bool_bool a b
    | int b => obtain ⟨t, rfl⟩ := rx; exact SeqAt.EqAt.bool_int a b t
    | str b => obtain ⟨t, rfl⟩ := rx; exact SeqAt.EqAt.bool_str a b t
    | _ => exact absurd (show false = true from fx) Bool.false_ne_true
  | int a =>
    obtain ⟨t', rfl⟩ := ry
    cases x with
    | non => cases rx; exact SeqAt.EqAt.int_none a t'
    | bl b => cases rx; exact SeqAt.EqAt.int_bool a t' b
    | int b => obtain ⟨t, rfl⟩ := rx; exact SeqAt.EqAt.int_int a t' b t
    | str b => obtain ⟨t, rfl⟩ := rx; exact SeqAt.EqAt.int_str a t' b t
    | _ => exact absurd (show false = true from fx) Bool.false_ne_true
  | str a =>
    obtain ⟨t', rfl⟩ := ry
    cases x with
    | non => cases rx; exact SeqAt.EqAt.str_none a t'
    | bl b => cases rx; exact SeqAt.EqAt.str_bool a t' b
    | int b => obtain ⟨t, rfl⟩ := rx; exact SeqAt.EqAt.str_int a t' b t
    | str b => obtain ⟨t, rfl⟩ := rx; exact SeqAt.EqAt.str_str a t' b t
    | _ => exact absurd (show false = true from fx) Bool.false_ne_true
  | _ => exact absurd (show false = true from fy) Bool.false_ne_true
def eqU (x : V) (u : Value) : Bool := match u with
  | .none => eqV .non x
  | .bool b => eqV (.bl b) x
  | .int i _ => eqV (.int i) x
  | .str z _ => eqV (.str z) x
  | _ => false
theorem eqU_of {x y : V} {u : Value} (r : RelV y u) (f : flatV y = true) : eqU x u = eqV y x := by
  cases y with
  | non => cases r; rfl
  | bl b => cases r; rfl
  | int i => obtain ⟨t, rfl⟩ := r; rfl
  | str z => obtain ⟨t, rfl⟩ := r; rfl
  | _ => exact absurd (show false = true from f) Bool.false_ne_true
theorem any_eqU {x : V} : ∀ {xs : List V} {us : List Value}, Vals xs us → xs.all flatV = true → us.any (eqU x) = xs.any fun y => eqV y x
  | _, _, .nil, _ => rfl
  | y :: xs, u :: us, .cons r t, f => by
    rw [List.all_cons, Bool.and_eq_true] at f
    rw [List.any_cons, List.any_cons, eqU_of r f.1, any_eqU t f.2]
theorem mem_eqAt {A : Around} {s : Shared} {x : V} {v : Value} (rx : RelV x v) (fx : flatV x = true) : ∀ {xs : List V} {us : List Value}, Vals xs us → xs.all flatV = true → ∀ u ∈ us, SeqAt.EqAt A s u v (eqU x u)
  | _, _, .nil, _ => fun u hu => by cases hu
  | y :: xs, u :: us, .cons r t, f => fun u' hu => by
    rw [List.all_cons, Bool.and_eq_true] at f
    rcases List.mem_cons.mp hu with rfl | hu
    · rw [eqU_of r f.1]; exact eqAt_V r rx f.1 fx
    · exact mem_eqAt rx fx t f.2 u' hu
def inV (x : V) (xs : List V) : Bool := xs.any fun y => eqV y x
def rIn (K : PySem.W.Frag) (neg : Bool) : R2 := fun x y H Q => ∃ p xs, y = .ref p ∧ (SqL K H p xs ∨ SqT K H p xs) ∧ flatV x = true ∧ xs.all flatV = true ∧ Q (.bl (if neg then !inV x xs else inV x xs)) H
theorem op_in_seq : OpR X (compareOp .In) (rIn X.K false) := by
  intro pins s σ H x y v u Q I rx ry h
  obtain ⟨p, xs, rfl, hq, fx, fs, q⟩ := h
  cases ry
  rcases hq with hq | hq
  · obtain ⟨its, r, pl, hz⟩ := I.list hq
    refine SeqAt.in_listAt (eqU x) pl.isList (fun w hw => mem_eqAt rx fx r fs w (by simpa using hw)) ⟨.bl _, H, I, rfl, ?_⟩
    rw [show its.toArray.any (eqU x) = its.any (eqU x) by simp, any_eqU r fs]
    exact q
  · obtain ⟨its, r, pl, hz⟩ := I.tuple hq
    refine SeqAt.in_tupleAt (eqU x) pl (fun w hw => mem_eqAt rx fx r fs w (by simpa using hw)) ⟨.bl _, H, I, rfl, ?_⟩
    rw [show its.toArray.any (eqU x) = its.any (eqU x) by simp, any_eqU r fs]
    exact q
theorem call_len_seq : CallR X (.builtin "len") (fun xs H Q => ∃ p ys, xs = [.ref p] ∧ (SqL X.K H p ys ∨ SqT X.K H p ys) ∧ Q (.int ys.length) H) := by
  intro pins s σ H xs us Q I r h
  obtain ⟨p, ys, rfl, hq, q⟩ := h
  obtain ⟨u, rfl, rx⟩ := vals1 r
  cases rx
  have hn := line63
  rcases hq with hq | hq
  · obtain ⟨its, r', pl, hz⟩ := I.list hq
    have hlen := r'.length
    exact Calls.call_len_list pl.isList (by simp only [List.size_toArray] <;> omega) ⟨.int ys.length, H, I.tok _, ⟨s.toks + 1, by rw [List.size_toArray, hlen]⟩, q⟩
  · obtain ⟨its, r', pl, hz⟩ := I.tuple hq
    have hlen := r'.length
    exact len_tuple pl (by simp only [List.size_toArray] <;> omega) ⟨.int ys.length, H, I.tok _, ⟨s.toks + 1, by rw [List.size_toArray, hlen]⟩, q⟩
theorem call_tuple_of : CallR X (.type "tuple") (fun xs H Q => ∃ p ys, xs = [.ref p] ∧ ((SqL X.K H p ys ∧ ∀ l, H l = none → Q (.ref l) (upd H l (.tup ys))) ∨ (SqT X.K H p ys ∧ Q (.ref p) H))) := by
  intro pins s σ H xs us Q I r h
  obtain ⟨p, ys, rfl, h⟩ := h
  obtain ⟨u, rfl, rx⟩ := vals1 r
  cases rx
  rcases h with ⟨hq, q⟩ | ⟨hq, q⟩
  · obtain ⟨its, r', pl, hz⟩ := I.list hq
    have hlen := r'.length
    refine call_tuple_list pl.isList (fun h' kp => ?_) (by simp only [List.size_toArray] <;> omega)
    have I1 : Inv X pins σ H { s with heap := h' } := I.kept (t' := s.toks) kp
    have I2 : Inv X pins σ (upd H h'.objs.size (.tup ys)) { s with heap := h'.push { cls := .type "tuple", data := .seq its.toArray } } :=
      I1.laid (t' := s.toks) (fun b o e => Heap.get?_push_of_some _ e) (Nat.le_refl _) (show ObjOk X.prog X.w _ _ _ (.tup ys) from ⟨hz, its, r', IsTup.new _ _⟩)
    exact ⟨.ref h'.objs.size, _, I2, rfl, q _ (I1.hok.fresh (Nat.le_refl _))⟩
  · obtain ⟨its, r', pl, hz⟩ := I.tuple hq
    exact call_tuple_same pl ⟨.ref p, H, I, rfl, q⟩
def tyV (K : PySem.W.Frag) (T : String) (x : V) (H : Hp) : Prop := match x with
  | .str _ => T = "str"
  | .int _ => T = "int"
  | .ref p => (T = "list" ∧ ∃ xs, SqL K H p xs) ∨ (T = "tuple" ∧ ∃ o, K.lookup p = some o ∧ o.cls = .type "tuple" ∧ o.dict = none) ∨
      (T = "dict" ∧ ((∃ kvs, H p = some (.dK kvs)) ∨ ∃ kvs, H p = some (.dT kvs))) ∨ (T = "set" ∧ ∃ S n, H p = some (.set S n))
  | _ => False
theorem tyV_is {pins : List (Addr × Obj)} {σ : St} {H : Hp} {s : Shared} {T : String} {x : V} {v : Value} (I : Inv X pins σ H s) (r : RelV x v) (ty : tyV X.K T x H) :
    s.TypeIs v T ∧ ∀ a, v = .ref a → ∃ ob, s.heap.get? a = some ob ∧ ob.dict = none := by
  cases x with
  | str z =>
    obtain ⟨t, rfl⟩ := r
    cases (show T = "str" from ty)
    exact ⟨typeIs_str s z t, fun _ e => nomatch e⟩
  | int i =>
    obtain ⟨t, rfl⟩ := r
    cases (show T = "int" from ty)
    exact ⟨typeIs_int s i t, fun _ e => nomatch e⟩
  | ref p =>
    cases r
    rcases ty with ⟨rfl, xs, hq⟩ | ⟨rfl, o, hk, hc, hd⟩ | ⟨rfl, hk⟩ | ⟨rfl, S, n, hk⟩
    · obtain ⟨its, _, pl, _⟩ := I.list hq
      refine ⟨pl.isList.typeIs, fun a e => ?_⟩
      cases e
      obtain ⟨o, n, e, c, hd, _⟩ := pl
      exact ⟨o, e, hd⟩
    · refine ⟨⟨o, I.kIn p o hk, hc⟩, fun a e => ?_⟩
      cases e
      exact ⟨o, I.kIn _ o hk, hd⟩
    · have z : ∃ o, s.heap.get? p = some o ∧ o.ExactDict := by
        rcases hk with ⟨kvs, hk⟩ | ⟨kvs, hk⟩
        · obtain ⟨_, _, _, _, o, _, _, e, ex, _⟩ := I.hok p _ hk
          exact ⟨o, e, ex⟩
        · obtain ⟨_, _, _, _, o, _, _, e, ex, _⟩ := I.hok p _ hk
          exact ⟨o, e, ex⟩
      obtain ⟨o, e, ex⟩ := z
      refine ⟨⟨o, e, ex.1⟩, fun a e2 => ?_⟩
      cases e2
      exact ⟨o, e, ex.2.1⟩
    · obtain ⟨o, _, _, _, e, ex, _⟩ := I.hok p _ hk
      refine ⟨⟨o, e, ex.1⟩, fun a e2 => ?_⟩
      cases e2
      exact ⟨o, e, ex.2.1⟩
  | _ => exact False.elim ty
def tBM (K : PySem.W.Frag) (T : String) (r : V → List V → Hp → VK → Prop) (to : TE) (t : TA) : TE := fun σ H Q => to σ H fun x H1 => tyV K T x H1 ∧ t σ H1 fun xs H2 => r x xs H2 Q
variable {o e : Expr} {es : List Expr} {to : TE} {t : TA} {name : Str} {apos cpos : Pos} {T id : String} {r : V → List V → Hp → VK → Prop}
theorem pe_bm (pa : PlainAttrs T) (slot : Slot T name id) (hty : typeOf (.builtin id) = pure (.type "method_descriptor")) (hm : MtR X id r) (ho : PE X o to) (ha : PA X (e :: es) t)
    (hbase : attributeBase o name X.env (eval o X.env) = eval o X.env := by rfl)
    (hfew : ((backTo cpos (starEach (e :: es) X.env)).all (fun x => !x.1) && (backToKw cpos (keywordEach [] X.env)).all (fun x => x.1.isSome)
      && decide ((e :: es).length + ([] : List Keyword).length + (if ([] : List Keyword).isEmpty then 0 else 1) < 30)) = true := by rfl)
    (hline : (apos.endLine == cpos.line) = true := by rfl) (hs : starEach (e :: es) X.env = (false, eval e X.env) :: starEach es X.env := by rfl) (hplain : (backTo cpos (starEach es X.env)).any (·.1) = false := by rfl) :
    PE X (.Call (.Attribute o name apos) (e :: es) [] cpos) (tBM X.K T r to t) := by
  intro pins s σ H Q I h
  refine wpAny_Call_method_late hbase hfew hline rfl (thn (ho pins s σ H _ I h) fun v s1 ⟨x, H1, I1, r1, ty, q1⟩ => ?_)
  obtain ⟨h1, h2⟩ := tyV_is I1 r1 ty
  refine ⟨T, id, pa, slot, hty, h1, h2, ?_⟩
  have hA := ha cpos pins s1 σ H1 _ I1 q1
  rw [hs] at hA ⊢
  refine Calls.callWith_builtin (by show (false || (backTo cpos (starEach es X.env)).any (·.1)) = false; rw [hplain] <;> rfl) (Calls.evalArgs_plain ?_)
  exact thn hA fun us s2 ⟨vs, H2, I2, r2, q2⟩ => hm pins s2 σ H2 x vs v us Q I2 r1 r2 q2
end
end L2
namespace L2
open PySem PySem.Spec PyProof.Rows
def MtM (X : Cx) (id : String) (r : V → List V → Hp → VK → Prop) : Prop :=
  ∀ (pins : List (Addr × Obj)) (s : Shared) (σ : St) (H : Hp) (x : V) (xs : List V) (v : Value) (us : List Value) (Q : VK), Inv X pins σ H s → RelV x v → Vals xs us → r x xs H Q →
    wpAny (model X.prog X.w) X.A (call (.builtin id) (v :: us)) (EP X pins σ Q) X.xe s
theorem Vals.one : ∀ {x : V} {us : List Value}, Vals [x] us → ∃ u, us = [u] ∧ RelV x u
  | _, _, .cons r .nil => ⟨_, rfl, r⟩
section
variable {X : Cx} {pins : List (Addr × Obj)} {σ : St} {H : Hp} {s : Shared} {l b : Addr} {xs ys zs : List V}
theorem Inv.lset {its its' : List Value} {n : Nat} {f : Array Value → Array Value} {t' : Nat} (I : Inv X pins σ H s) (hH : H l = some (.lst xs))
    (e : s.heap.get? l = some { cls := .type "list", data := .seq its.toArray n }) (hf : f its.toArray = its'.toArray) (hv : Vals ys its') (hz : ys.length ≤ sizeLine) :
    Inv X pins σ (upd H l (.lst ys)) { s with heap := s.heap.update l (Obj.mapSeq f), toks := t' } := by
  have q := PySem.IsL.update e f
  rw [hf] at q
  refine I.write (x := l) (e := l) (by rw [hH]; exact trivial) (.inl rfl) (fun b' u hb hu => (Heap.get?_update_other s.heap (Obj.mapSeq f) (Ne.symm hb)).trans hu) ⟨_, q⟩ ?_
  exact ⟨hz, its', _, hv, q⟩
theorem Inv.lnew {its : List Value} {t' : Nat} (I : Inv X pins σ H s) (hv : Vals ys its) (hz : ys.length ≤ sizeLine) :
    Inv X pins σ (upd H s.heap.objs.size (.lst ys)) { s with heap := s.heap.push { cls := .type "list", data := .seq its.toArray }, toks := t' } :=
  I.laid (fun _ _ q => Heap.get?_push_of_some _ q) (Nat.le_refl _) ⟨hz, its, 0, hv, Heap.get?_push_size _ rfl⟩
theorem Inv.fresh (I : Inv X pins σ H s) : H s.heap.objs.size = none := I.hok.fresh (Nat.le_refl _)
theorem Inv.lstM (I : Inv X pins σ H s) (hH : H l = some (.lst xs)) : xs.length ≤ sizeLine ∧ ∃ (its : List Value) (n : Nat), Vals xs its ∧ xs.length = its.length ∧ s.heap.get? l = some { cls := .type "list", data := .seq its.toArray n } := by
  obtain ⟨z, its, n, r, e⟩ := I.hok l _ hH
  exact ⟨z, its, n, r, r.length, e⟩
end
section
variable {X : Cx}
def rAppend : V → List V → Hp → VK → Prop := fun x vs H Q => ∃ l xs y, x = .ref l ∧ vs = [y] ∧ H l = some (.lst xs) ∧ xs.length < sizeLine ∧ Q .non (upd H l (.lst (xs ++ [y])))
theorem mt_append : MtM X "list.append" rAppend := by
  intro pins s σ H x vs v us Q I rx rv h
  obtain ⟨l, xs, y, rfl, rfl, hH, hz, q⟩ := h
  cases rx
  obtain ⟨u, rfl, ru⟩ := rv.one
  obtain ⟨z, its, n, r, hl, e⟩ := I.lstM hH
  refine call_meets F.slot_list_append ⟨_, e, rfl⟩ F.entry_list_append (F.args_list_append_2 _ _) (PySem.list_append l its.toArray n u (by rw [List.size_toArray]; omega)) ⟨e, ?_⟩
  refine ⟨.non, _, I.lset (its' := its ++ [u]) hH e (by simp) (r.append (.cons ru .nil)) ?_, rfl, q⟩
  rw [List.length_append, List.length_singleton]
  omega
end
section
variable {prog : Program} {w : World} {A : Around} {E : Value → Shared → Prop} {s : Shared}
end
section
variable {X : Cx}
end
end L2
namespace L2
open PySem PySem.Spec PyProof.Rows
section
variable {κ : Type} [DecidableEq κ]
def valV (kvs : List (κ × V)) (k : κ) : Option V := (kvs.find? fun kv => decide (kv.1 = k)).map (·.2)
def putK (kvs : List (κ × V)) (k : κ) (v : V) : List (κ × V) :=
  if (kvs.any fun kv => decide (kv.1 = k)) = true then kvs.map (fun kv => if kv.1 = k then (kv.1, v) else kv) else kvs ++ [(k, v)]
theorem valV_pos {p : κ × V} {r : List (κ × V)} {k : κ} (e : p.1 = k) : valV (p :: r) k = some p.2 := by simp [valV, List.find?_cons, e]
theorem valV_neg {p : κ × V} {r : List (κ × V)} {k : κ} (e : ¬ p.1 = k) : valV (p :: r) k = valV r k := by simp [valV, List.find?_cons, e]
theorem valV_any (k : κ) : ∀ kvs : List (κ × V), (kvs.any fun kv => decide (kv.1 = k)) = (valV kvs k).isSome
  | [] => rfl
  | p :: r => by
    rw [List.any_cons]
    by_cases e : p.1 = k
    · simp only [valV_pos e, decide_eq_true e, Bool.true_or, Option.isSome_some]
    · rw [valV_neg e, decide_eq_false e, Bool.false_or]; exact valV_any k r
theorem valV_map (k j : κ) (y : V) : ∀ kvs : List (κ × V), valV (kvs.map fun kv => if kv.1 = k then (kv.1, y) else kv) j = (valV kvs j).map fun x => if j = k then y else x
  | [] => rfl
  | p :: r => by
    have ih := valV_map k j y r
    rw [List.map_cons]
    by_cases h : p.1 = k
    · rw [if_pos h]
      by_cases e : p.1 = j
      · rw [valV_pos (p := (p.1, y)) e, valV_pos e, Option.map_some, if_pos (e.symm.trans h)]
      · rw [valV_neg (p := (p.1, y)) e, valV_neg e, ih]
    · rw [if_neg h]
      by_cases e : p.1 = j
      · rw [valV_pos (p := p) e, valV_pos e, Option.map_some, if_neg (fun z => h (e.trans z))]
      · rw [valV_neg (p := p) e, valV_neg e, ih]
theorem valV_snoc (k j : κ) (y : V) : ∀ kvs : List (κ × V), valV kvs k = none → valV (kvs ++ [(k, y)]) j = if j = k then some y else valV kvs j
  | [], _ => by
    by_cases e : k = j
    · rw [if_pos e.symm]; exact valV_pos (p := (k, y)) e
    · rw [if_neg (fun z => e z.symm)]; exact valV_neg (p := (k, y)) e
  | p :: r, hn => by
    rw [List.cons_append]
    have hk : ¬ p.1 = k := fun z => by rw [valV_pos z] at hn; cases hn
    rw [valV_neg hk] at hn
    have ih := valV_snoc k j y r hn
    by_cases e : p.1 = j
    · rw [valV_pos e, valV_pos e, if_neg (fun z => hk (e.trans z))]
    · rw [valV_neg e, valV_neg e, ih]
theorem valV_put (kvs : List (κ × V)) (k j : κ) (y : V) : valV (putK kvs k y) j = if j = k then some y else valV kvs j := by
  unfold putK
  by_cases a : (kvs.any fun kv => decide (kv.1 = k)) = true
  · rw [if_pos a, valV_map]
    rw [valV_any] at a
    by_cases e : j = k
    · obtain ⟨x, hx⟩ := Option.isSome_iff_exists.mp a
      rw [if_pos e, e, hx, Option.map_some, if_pos rfl]
    · rw [if_neg e]
      cases valV kvs j with
      | none => rfl
      | some x => rw [Option.map_some, if_neg e]
  · rw [if_neg a]
    refine valV_snoc k j y kvs ?_
    rw [valV_any] at a
    cases q : valV kvs k with
    | none => rfl
    | some x => rw [q] at a; exact (a rfl).elim
theorem length_putK (kvs : List (κ × V)) (k : κ) (v : V) : (putK kvs k v).length ≤ kvs.length + 1 := by
  unfold putK
  split
  · rw [List.length_map]; omega
  · rw [List.length_append, List.length_cons, List.length_nil]; omega
theorem RelO.isSome_eq {o : Option V} {u : Option Value} (r : RelO o u) : o.isSome = u.isSome := by
  cases o with
  | none => cases u with
    | none => rfl
    | some _ => exact (show False from r).elim
  | some _ => cases u with
    | none => exact (show False from r).elim
    | some _ => rfl
theorem RelO.getD {o : Option V} {u : Option Value} {d : V} {d' : Value} (r : RelO o u) (rd : RelV d d') : RelV (o.getD d) (u.getD d') := by
  cases o with
  | none => cases u with
    | none => exact rd
    | some _ => exact (show False from r).elim
  | some _ => cases u with
    | none => exact (show False from r).elim
    | some _ => exact r
end
section
variable {P : Program} {w : World} {H : Hp} {h : Heap} {a : Addr}
theorem rd_of {u : HO} (ok : HOk P w H h) (e : Rd H a u) : ObjOk P w H h a u := e.ok ok
theorem dk_rd {kvs : List (Key × V)} (ok : HOk P w H h) (e : Rd H a (.dK kvs)) : kvs.length ≤ sizeLine ∧ (a == sysModules) = false ∧ ∃ vs, KV kvs vs ∧ h.DictOf (mixKind P w) a vs :=
  show ObjOk P w H h a (.dK kvs) from rd_of ok e
theorem dk_of {kvs : List (Key × V)} (ok : HOk P w H h) (e : H a = some (.dK kvs)) : kvs.length ≤ sizeLine ∧ (a == sysModules) = false ∧ ∃ vs, KV kvs vs ∧ h.DictOf (mixKind P w) a vs := dk_rd ok (.inl e)
end
section
variable {X : Cx} {pins : List (Addr × Obj)} {σ : St} {H : Hp} {s : Shared} {a : Addr} {y v : V} {u r : Value} {o : Option V} {A : Around} {E : Value → Shared → Prop}
theorem Inv.big (I : Inv X pins σ H s) : sysModules < s.heap.objs.size := by
  have h : mainGlobals < s.heap.objs.size := (I.mod.glob.keeps I.bk).lt
  exact Nat.lt_trans (by decide) h
theorem d_write {h' : Heap} {t' : Nat} {ob : HO} (I : Inv X pins σ H s) (mu : Mut (H a)) (hs : Heap.SameBut a s.heap h') (he : ∃ q, h'.get? a = some q) (new : ObjOk X.prog X.w (upd H a ob) h' a ob) :
    Inv X pins σ (upd H a ob) { s with heap := h', toks := t' } :=
  I.write (x := a) (e := a) mu (.inl rfl) (fun b q hb z => (hs.2 b hb).trans z) he new
end
section
variable {X : Cx} {pins : List (Addr × Obj)} {σ : St} {H : Hp} {s : Shared} {a : Addr} {kvs : List (Key × V)} {k : Key} {u : Value} {A : Around} {E : Value → Shared → Prop}
end
def NoSl (i : Expr) : Prop := ∀ ov iv, subscripted i false ov iv = operate [ov, iv] (getItem ov iv)
theorem subD_of {prog : Program} {w : World} {A : Around} {E : Value → Shared → Prop} {s : Shared} {env : Env} {value slice : Expr} {pos : Pos} {T id : String} {Q : Value → Shared → Prop}
    (hl : typeLookup (.type T) "__getitem__" = pure (some (.builtin id))) (hs : NoSl slice)
    (h : wpAny (model prog w) A (eval value env) (fun o s₁ => wpAny (model prog w) A (eval slice env) (fun i s₂ => s₂.TypeIs o T ∧ wpAny (model prog w) A (getItem o i) Q E s₂) E s₁) E s) :
    wpAny (model prog w) A (eval (.Subscript value slice pos) env) Q E s := by
  refine Subscript_ (wpAny_mono h (fun o s₁ h₁ => wpAny_mono h₁ (fun i s₂ h₂ => ?_) fun _ _ x => x) fun _ _ x => x)
  obtain ⟨hT, h₂⟩ := h₂
  unfold subscriptTail
  refine wpAny_bind ?_
  rw [getitemInPython_of_ne hT.not_modules]
  refine wpAny_bind (wpAny_specialOf hT hl ?_)
  have fin : wpAny (model prog w) A (subscripted slice false o i) (fun r s₃ => wpAny (model prog w) A (letTemporaryGo value o r >>= fun _ => pure r) Q E s₃) E s₂ := by
    rw [hs o i]
    exact wpAny_operating (wpAny_mono h₂ (fun r s₃ h₃ => wpAny_bind (wpAny_letTemporaryGo (wpAny_pure h₃))) fun _ _ x => x)
  first
    | exact wpAny_pure (wpAny_bind fin)
    | exact wpAny_bind (wpAny_pure (wpAny_bind fin))
    | exact wpAny_bind fin
section
variable {X : Cx} {o i e value : Expr} {pos pos' tpos : Pos} {td ty tv : TE}
end
theorem dk_empty {P : Program} {w : World} {H : Hp} (h : Heap) (hb : sysModules < h.objs.size) : ObjOk P w H (h.push { cls := .type "dict", data := .dict #[] }) h.objs.size (.dK []) :=
  ⟨Nat.zero_le _, beq_eq_false_iff_ne.mpr (Ne.symm (Nat.ne_of_lt hb)), [], .nil, Heap.DictOf.new h⟩
def tDNewK : TE := fun _ H Q => ∀ p, H p = none → Q (.ref p) (upd H p (.dK []))
section
variable {X : Cx} {pos : Pos}
theorem pe_dnewK : PE X (.Dict [] [] pos) tDNewK := fun pins s σ H Q I h =>
  wpAny_Dict_empty ⟨.ref s.heap.objs.size, _, I.laid (a := s.heap.objs.size) (o := .dK []) (t' := s.toks) (fun _ _ q => Heap.get?_push_of_some _ q) (Nat.le_refl _) (dk_empty s.heap I.big), rfl, h _ (I.hok.fresh (Nat.le_refl _))⟩
end
structure M2 (X : Cx) (o : Expr) (m : Str) (apos : Pos) (e f : Expr) (cpos : Pos) : Prop where
  base : attributeBase o m X.env (eval o X.env) = eval o X.env
  few : ((backTo cpos (starEach [e, f] X.env)).all (fun x => !x.1) && (backToKw cpos (keywordEach [] X.env)).all (fun x => x.1.isSome)
    && decide (([e, f] : List Expr).length + ([] : List Keyword).length + (if ([] : List Keyword).isEmpty then 0 else 1) < 30)) = true
  line : (apos.endLine == cpos.line) = true
  trees : backTo cpos (starEach [e, f] X.env) = [(false, eval e X.env), (false, eval f X.env)]
section
variable {X : Cx} {pins : List (Addr × Obj)} {σ : St} {H : Hp} {s : Shared} {a : Addr} {y d : V} {u r : Value} {o : Option V} {A : Around} {E : Value → Shared → Prop}
end
section
variable {X : Cx} {o e f : Expr} {apos cpos : Pos} {td ty tx : TE}
end
section
variable {X : Cx} {pins : List (Addr × Obj)} {σ : St} {H : Hp} {s : Shared} {a : Addr} {kvs : List (Key × V)} {A : Around} {E : Value → Shared → Prop}
end
section
variable {X : Cx} {pins : List (Addr × Obj)} {σ : St} {H : Hp} {s : Shared} {a : Addr} {y : V} {u : Value} {A : Around} {E : Value → Shared → Prop}
end
end L2
namespace Att
open PySem PySem.W PySem.Calls PyProof.Rows
theorem ints_of_wellAll {P : Params} {h : Heap} : ∀ (ns : List Int) (vs : List Value), WellAll P h vs (ns.map WData.int) → IntsAre vs ns := by
  intro ns
  induction ns with
  | nil =>
    intro vs w
    rw [List.map_nil] at w
    cases w
    exact .nil
  | cons n ns ih =>
    intro vs w
    rw [List.map_cons] at w
    cases w with
    | cons a b =>
      cases a
      exact .cons _ _ (ih _ b)
theorem script_of {l : OpenLaw} {n : Nat} (hn : l.most = some n) {P : Params} {h : Heap} {args : List WData} {vals : List Value}
    (hpre : l.row.toRowW.claim.pre args = true) (hwl : WellAll P h vals args) :
    ∃ a vs ns, vals = [Value.ref a] ∧ args = [WData.list (ns.map WData.int)] ∧ h.get? a = some { cls := .type "list", data := .seq vs.toArray } ∧ IntsAre vs ns ∧ ns.length ≤ n := by
  have hsh : WShape.hasAll [] args [.list .int] = true := (pre_splitW hpre).1
  have hc : l.pre.holds [] { args := args } = true := (pre_splitW hpre).2
  obtain ⟨d, r, rfl, h1, h2⟩ := hasAllW_cons hsh
  obtain rfl := hasAllW_nil h2
  obtain ⟨xs, rfl, h3⟩ := hasW_list h1
  obtain ⟨ns, rfl⟩ := items_int h3
  have hlen : ns.length ≤ n := by
    unfold OpenLaw.pre at hc
    have h4 : (WTm.not (.lt (.lit (.int (n : Int))) (.len (.arg 0)))).holds [] { args := [.list (ns.map .int)] } = true := by
      have h4 := (holds_andW hc).1
      rw [hn] at h4
      exact h4
    have h5 := condW_of h4 (w_not (w_lt w_lit (w_len_list (w_arg rfl))))
    rw [List.length_map] at h5
    refine Nat.le_of_not_lt fun q => ?_
    have q' : (n : Int) < ((ns.length : Nat) : Int) := by omega
    first
      | (rw [decide_eq_true q'] at h5; exact absurd h5 (by decide))
      | (simp at h5; omega)
  cases hwl with
  | cons w1 w2 =>
    cases w2
    cases w1 with
    | list ho hall => exact ⟨_, _, ns, rfl, rfl, ho, ints_of_wellAll ns _ hall, hlen⟩
theorem post_true (l : OpenLaw) (args : List WData) : l.row.toRowW.claim.post args (.bool true) args = true :=
  postW_of (r := l.row.toRowW) (X := (true == true))
    (show WShape.has [] (.bool true) .bool = true by first | rfl | decide | simp [WShape.has, WShape.arms, WShape.armsAll])
    (show (WTm.eq .res (.lit (.bool true))).value [] { args := args, res := some (.bool true), after := args } = some (.bool (true == true)) from w_eq_bool (w_res rfl) w_lit) rfl
theorem attach_call {l : OpenLaw} {n : Nat} {q : Program} {loose : List Str} {XP : (Str → Option Value) → Heap → Prop} {YP : World → Heap → Prop} {d : DefRec}
    (hn : l.most = some n) (hdf : d.params.defaults = [])
    (call : ∀ (w : World) (s₀ s₁ : Shared) (mg mb : Str → Option Value) (fa : Addr) (o : Obj) (pm cd doc : Value) (a : Addr) (vs : List Value) (ns : List Int),
      Ground q loose [] XP w s₀ mg mb s₁.heap → YP w s₁.heap →
      s₁.heap.get? fa = some o → o.data = .func (docDef d.name d.params d.body d.scope pm cd doc) → s₁.heap.CodeRec cd d.name → mg d.name = some (.ref fa) →
      s₁.heap.get? a = some { cls := .type "list", data := .seq vs.toArray } → IntsAre vs ns → ns.length ≤ n → s₁.gens = #[] →
      codeAny (model l.prog w) callerA (.call (.ref fa) ⟨[.ref a], []⟩) (fun r s' => r = .ok (.ret (.bool true)) ∧ OldK s₁.heap s'.heap ∧ s'.os = s₁.os ∧ AllBare s'.gens) s₁) :
    WalkO q loose XP YP l.row.toRowW d [] (fun f vs => PySem.call f vs) := by
  intro w s₀ s₁ mg mb G Y fa o pm cd doc dV kV ho hd hcd hD hmg hg args vals as hpre hlay hrd hwl hlo
  obtain rfl : dV = .none := Dflts.none hD hdf
  obtain rfl : kV = .none := Dflts.noKw hD
  obtain ⟨a, vs, ns, rfl, rfl, hobj, hints, hlen⟩ := script_of hn hpre hwl
  refine enter_call (codeAny_mono (call w s₀ s₁ mg mb fa o pm cd doc a vs ns G Y ho (fd_plain hd) hcd hmg hobj hints hlen hg) fun r s' hq => ?_)
  obtain ⟨rfl, h2, h3, h4⟩ := hq
  exact ⟨.inl ⟨.bool true, .bool true, [], rfl, fun _ => rfl, .bool true, post_true l _, fun _ => ⟨List.Pairwise.nil, fun _ hm => (nomatch hm)⟩⟩, h2, h3, h4⟩
section
variable {prog : Program} {w : World} {A : Around} {E : Value → Shared → Prop} {s : Shared} {K : Frag}
end
end Att
namespace L2
open PySem PySem.Spec PyProof.Rows
theorem vals_ints : ∀ {vs : List Value} {ns : List Int}, IntsAre vs ns → Vals (ns.map V.int) vs
  | _, _, .nil => .nil
  | _, _, .cons n t h => .cons ⟨t, rfl⟩ (vals_ints h)
def Only (H : Hp) : Prop := ∀ b, H b = none ∨ ∃ o xs, H b = some (.frz o (.lst xs))
theorem law_call {P : Program} {w : World} {K : PySem.W.Frag} {mg mb : Str → Option Value} {CX : CXT} {k : Nat} {fa a : Addr} {fd : FuncData} {x : Str} {sp : Sp} {s₁ : Shared} {vs : List Value} {ns : List Int}
    (KX : K.In s₁.heap) (hns : s₁.heap.Ns mainGlobals mg) (hb : s₁.heap.Ns builtinsNs mb) (hbb : ∀ x : Str, x ≠ "__name__" → mb x = bootBuiltins x) (hlim : s₁.heap.NoLimit) (hg : s₁.gens = #[])
    (ha : s₁.heap.get? a = some { cls := .type "list", data := .seq vs.toArray }) (hi : IntsAre vs ns) (hl : ns.length ≤ sizeLine) (hr : Room k callerA)
    (F : ∀ base : Heap, K.In base → base.Ns mainGlobals mg → FnOk P w K mg base CX k fa fd [x] sp) (hbind : ∀ (s : Shared) (u : Value), BindsTo s fd ⟨[u], []⟩ [(x, u)])
    (hsp : ∀ H : Hp, Only H → SqL K H a (ns.map V.int) → sp [.ref a] H (fun v _ => v = .bl true) fun _ _ _ => False)
    (hCX : ∀ H e s', CX [] H s₁ (fun _ _ _ => False) e s' → False) :
    codeAny (model P w) callerA (.call (.ref fa) ⟨[.ref a], []⟩) (fun r s' => r = .ok (.ret (.bool true)) ∧ OldK s₁.heap s'.heap ∧ s'.os = s₁.os ∧ AllBare s'.gens) s₁ := by
  have rv := vals_ints hi
  have lenV := hi.length
  have core : ∀ H : Hp, Only H → SqL K H a (ns.map V.int) → HOk P w H s₁.heap → (∀ b, H b ≠ none → b = a) → (H a ≠ none → K.lookup a = none) →
      codeAny (model P w) callerA (.call (.ref fa) ⟨[.ref a], []⟩) (fun r s' => r = .ok (.ret (.bool true)) ∧ OldK s₁.heap s'.heap ∧ s'.os = s₁.os ∧ AllBare s'.gens) s₁ := by
    intro H hO hS hok hA hK
    have base_of : ∀ {b : Addr} {o : Obj}, s₁.heap.get? b = some o → H b = none → (hidT s₁.heap H).get? b = some o := fun e n => hidT_get e n
    have noA : ∀ {b : Addr} {o : Obj} {es : Array DictEntry} {ep : Nat}, s₁.heap.get? b = some o → o.data = .dict es ep → H b = none := fun {b o es ep} e d => by
      cases q : H b with
      | none => rfl
      | some u =>
        have e' : b = a := hA b (by rw [q]; simp)
        subst e'
        rw [ha] at e; cases e
        have d' : Data.seq vs.toArray _ = Data.dict es ep := d
        cases d'
    have nsK : ∀ {b : Addr} {m : Str → Option Value}, s₁.heap.Ns b m → (hidT s₁.heap H).Ns b m := fun {b m} ⟨o, es, ep, e, d, r⟩ => ⟨o, es, ep, base_of e (noA e d), d, r⟩
    have hKb : K.In (hidT s₁.heap H) := fun b o e => base_of (KX b o e) (by
      cases q : H b with
      | none => rfl
      | some u =>
        have e' : b = a := hA b (by rw [q]; simp)
        subst e'
        rw [hK (by rw [q]; simp)] at e; cases e)
    have hM : Mod K mg (hidT s₁.heap H) := ⟨hKb, nsK hns, ⟨mb, nsK hb, hbb⟩, let ⟨mc, h1, h2⟩ := hlim; ⟨mc, nsK h1, h2⟩⟩
    have e0 : Env0 P w K mg (hidT s₁.heap H) callerA [] s₁ H := ⟨rfl, hM, fun b o e => of_hidT e, Nat.le_of_eq (hidT_size _ _), trivial, fun b hb => absurd (show b ∈ ([] : List Addr) from hb) (by simp), hok, .of_eq hg⟩
    refine codeAny_mono ((F _ hKb (nsK hns)).run callerA [] s₁ H ⟨[.ref a], []⟩ [.ref a] [.ref a] _ _ hr e0 (hbind s₁ (.ref a)) (.cons rfl .nil) (hsp H hO hS)) fun r s' h => ?_
    cases r with
    | error e => exact (hCX H e s' h).elim
    | ok fl =>
      cases fl with
      | next => exact False.elim h
      | brk => exact False.elim h
      | cont => exact False.elim h
      | ret u =>
        obtain ⟨v, H', os, bare, un, hok', r', q⟩ := h
        have q' : v = .bl true := q
        subst q'
        obtain rfl : u = Value.bool true := r'
        refine ⟨rfl, OldK.of_keep fun b o e => ?_, os, bare⟩
        cases q : H b with
        | none => exact un.keep b o e q (by intro z; exact absurd (show b ∈ ([] : List Addr) from z) (by simp)) (by simp)
        | some u =>
          rcases hO b with z | ⟨ob, xs, z⟩
          · rw [q] at z; cases z
          · have z2 := un.frzs b ob _ z
            obtain ⟨e1, _⟩ := hok b _ z
            obtain ⟨e2, _⟩ := hok' b _ z2
            rw [e] at e1; cases e1
            exact e2
  cases hk : K.lookup a with
  | some o =>
    have e := KX a o hk
    rw [ha] at e
    cases e
    refine core (fun _ => none) (fun _ => .inl rfl) (.inr ⟨_, vs.toArray, _, hk, rfl, rfl, rfl, by rw [List.size_toArray, lenV]; exact hl, by simpa using rv⟩) (fun b u z => by have z' : (none : Option HO) = some u := z; cases z') (fun b z => absurd rfl z) fun z => absurd rfl z
  | none =>
    refine core (fun b => if b = a then some (.frz { cls := .type "list", data := .seq vs.toArray } (.lst (ns.map V.int))) else none) (fun b => ?_) (.inl (.inr ⟨{ cls := .type "list", data := .seq vs.toArray }, if_pos rfl⟩)) (fun b u z => ?_) (fun b z => ?_) fun _ => hk
    · by_cases hb : b = a
      · exact .inr ⟨_, _, if_pos hb⟩
      · exact .inl (if_neg hb)
    · by_cases hb : b = a
      · have z' := (if_pos hb).symm.trans z
        cases z'
        subst hb
        exact ⟨ha, by rw [List.length_map]; exact hl, vs, _, rv, ha⟩
      · have z' := (if_neg hb).symm.trans z
        cases z'
    · by_cases hb : b = a
      · exact hb
      · exact absurd (if_neg hb) z
end L2
namespace L2
open PySem PySem.Spec PyProof.Rows
theorem walk_of {l : PySem.W.OpenLaw} {n k : Nat} {q : Program} {loose : List Str} {XP : (Str → Option Value) → Heap → Prop} {YP : World → Heap → Prop} {d : DefRec} {K : Params → PySem.W.Frag} {CX : World → CXT} {sp : World → Sp} {x : Str}
    (hn : l.most = some n) (hn2 : n ≤ sizeLine) (hdf : d.params.defaults = []) (hr : Room k callerA)
    (hY : ∀ (w : World) (h : Heap), YP w h → (K w.params).In h)
    (F : ∀ (w : World) (mg : Str → Option Value) (fa : Addr) (h : Heap), (K w.params).In h → h.Ns mainGlobals mg → mg d.name = some (.ref fa) →
      ∃ fd : FuncData, (∀ (s : Shared) (u : Value), BindsTo s fd ⟨[u], []⟩ [(x, u)]) ∧
        ∀ base : Heap, (K w.params).In base → base.Ns mainGlobals mg → FnOk l.prog w (K w.params) mg base (CX w) k fa fd [x] (sp w))
    (hsp : ∀ (w : World) (H : Hp) (a : Addr) (ns : List Int), ns.length ≤ n → Only H → SqL (K w.params) H a (ns.map V.int) → sp w [.ref a] H (fun v _ => v = .bl true) fun _ _ _ => False)
    (hCX : ∀ (w : World) (H : Hp) (s : Shared) (e : Value) (s' : Shared), CX w [] H s (fun _ _ _ => False) e s' → False) :
    PySem.W.WalkO q loose XP YP l.row.toRowW d [] (fun f vs => PySem.call f vs) := by
  refine Att.attach_call hn hdf fun w s₀ s₁ mg mb fa o pm cd doc a vs ns G Y ho hd hcd hmg hobj hints hlen hg => ?_
  have KX := hY w _ Y
  obtain ⟨fd, hb, hF⟩ := F w mg fa _ KX G.T.g hmg
  exact law_call KX G.T.g G.T.b G.T.builtins G.T.nolimit hg hobj hints (Nat.le_trans hlen hn2) hr hF hb (fun H hO hS => hsp w H a ns hlen hO hS) fun H e s' => hCX w H s₁ e s'
end L2
namespace L2
open PySem PySem.Spec PyProof.Rows
def defArgs (s : Stmt) : Arguments := match s with
  | .FunctionDef _ a _ _ _ _ _ _ _ _ => a
  | _ => { posonlyargs := [], args := [], vararg := none, kwonlyargs := [], kw_defaults := [], kwarg := none, defaults := [] }
def defBody (s : Stmt) : List Stmt := match s with
  | .FunctionDef _ _ b _ _ _ _ _ _ _ => b
  | _ => []
def defScope (s : Stmt) : Scope := match s with
  | .FunctionDef _ _ _ _ _ _ sc _ _ _ => sc
  | _ => { kind := .function, names := [], isGenerator := false, isCoroutine := false }
abbrev CX0 : CXT := fun _ _ _ _ _ _ => False
abbrev E0 : XK := fun _ _ _ => False
theorem pass0 {X : Cx} : Passes CX0 X E0 := fun _ _ _ _ _ _ _ h => h.elim
structure Fun (K : PySem.W.Frag) (x qual : Str) (st : Stmt) (f : Addr) (fd : FuncData) : Prop where
  ex : ∃ (oc : Value) (od : Option Addr) (kV doc pm : Value) (an : Option Addr) (cdv ct : Value) (osl : Array (Option Value)),
    fd = PySem.W.fnOf x qual (defArgs st) (defBody st) (defScope st) .none kV doc pm an cdv ct ∧ K.lookup f = some ⟨oc, od, .func fd, osl⟩ ∧ PySem.W.codeIn K cdv qual = true
  kp : PySem.W.keepIn K (.ref f) = true
section
variable {P : Program} {w : World} {K : PySem.W.Frag} {mg : Str → Option Value} {base : Heap}
theorem Fun.ok {x qual : Str} {st : Stmt} {f : Addr} {fd : FuncData} {N ps : List Str} {k : Nat} {sp : Sp} (F : Fun K x qual st f fd) (S : FnScope N ps (defScope st)) (len : ∀ vs H Q E, sp vs H Q E → vs.length = ps.length)
    (hbody : ∀ (cdv : Value) (A : Around) (outer : List Env) (s : Shared) (H : Hp) (vs : List V) (Q : VK) (E : XK), Room k (A.deeper (envOfC qual (defScope st) s.heap.objs.size f cdv)) → sp vs H Q E →
      ∃ t, PSs (cxOf CX0 P w K mg base N qual (defScope st) f cdv A outer s H E).nox (defBody st) t ∧ t { nx := fun _ H' => Q .non H', rt := Q } (start N vs) H) : FnOk P w K mg base CX0 (k + 1) f fd ps sp := by
  obtain ⟨oc, od, kV, doc, pm, an, cdv, ct, osl, rfl, lk, hcd⟩ := F.ex
  refine fn_of lk hcd S len fun A outer s H vs Q E hr hsp => ?_
  obtain ⟨t, h, q⟩ := hbody cdv A outer s H vs Q E hr hsp
  exact ⟨t, h.nox, q⟩
theorem Fun.binds {x qual : Str} {st : Stmt} {f : Addr} {fd : FuncData} {ps : List Str} (F : Fun K x qual st f fd)
    (h : ∀ (kV doc pm : Value) (an : Option Addr) (cdv ct : Value) (us : List Value), us.length = ps.length → bindArgs (PySem.W.fnOf x qual (defArgs st) (defBody st) (defScope st) .none kV doc pm an cdv ct) ⟨us, []⟩ = pure (ps.zip us)) : Binds K fd ps [] := by
  obtain ⟨oc, od, kV, doc, pm, an, cdv, ct, osl, rfl, lk, hcd⟩ := F.ex
  exact .all (h kV doc pm an cdv ct)
theorem fun_mk {x qual : Str} {st : Stmt} {f : Addr} {oc : Value} {od an : Option Addr} {osl : Array (Option Value)} {kV doc pm cdv ct : Value} (l : K.lookup f = some ⟨oc, od, .func (PySem.W.fnOf x qual (defArgs st) (defBody st) (defScope st) .none kV doc pm an cdv ct), osl⟩)
    (c : PySem.W.codeIn K cdv qual = true) (k : PySem.W.keepIn K (.ref f) = true) : Fun K x qual st f (PySem.W.fnOf x qual (defArgs st) (defBody st) (defScope st) .none kV doc pm an cdv ct) := ⟨⟨oc, od, kV, doc, pm, an, cdv, ct, osl, rfl, l, c⟩, k⟩
end
theorem hu_of {A : Around} {k : Nat} (hr : Room k A) : A.units + 1 < cLine := Nat.lt_of_le_of_lt (Nat.add_le_add_left (by decide : 1 ≤ 64) _) hr.units
theorem small1000 {n : Nat} (h : n ≤ 1000) : n < sizeLine := Nat.lt_of_le_of_lt h (by decide)
section
variable {X : Cx}
theorem pv (i : Nat) {x : Str} {pos : Pos} (hN : X.N[i]? = some x := by rfl) (hv : Vis X.env.scope x := by first | exact Or.inl rfl | exact Or.inr (Or.inl rfl) | exact Or.inr (Or.inr rfl)) (hd : (x == ("__debug__" : Str)) = false := by decide)
    (hcd : (x == ("__classdict__" : Str)) = false := by decide) : PE X (.Name x pos) (tVar i) := pe_var hN hv hd hcd
end
theorem ite2 {c A B : Prop} [Decidable c] (h1 : c → A) (h2 : ¬ c → B) : if c then A else B := by
  by_cases h : c
  · rw [if_pos h]
    exact h1 h
  · rw [if_neg h]
    exact h2 h
def Same (H H' : Hp) : Prop := ∀ b o, H b = some o → H' b = some o
theorem Same.refl (H : Hp) : Same H H := fun _ _ h => h
theorem Same.trans {H H1 H2 : Hp} (a : Same H H1) (b : Same H1 H2) : Same H H2 := fun c o h => b c o (a c o h)
theorem Same.free {H H' : Hp} (e : Same H H') {l : Addr} (h : H' l = Option.none) : H l = Option.none := by
  cases q : H l with
  | none => rfl
  | some o =>
    rw [e l o q] at h
    cases h
theorem Same.seq {K : PySem.W.Frag} {H H' : Hp} {a : Addr} {xs : List V} (e : Same H H') (h : SqL K H a xs) : SqL K H' a xs := by
  rcases h with (h | ⟨o, h⟩) | h
  · exact .inl (.inl (e _ _ h))
  · exact .inl (.inr ⟨o, e _ _ h⟩)
  · exact .inr h
section
variable {κ : Type} [DecidableEq κ]
end
end L2
set_option Elab.async false
set_option linter.all false
set_option maxRecDepth 100000
set_option maxHeartbeats 4000000
namespace L2
open PySem PySem.Spec PyProof.Rows
abbrev NoX : Value → Shared → Prop := fun _ _ => False
theorem noX {al : Type} {t : Sem al} {Q : al → Shared → Prop} {M : Model} {A : Around} {E : Value → Shared → Prop} {s : Shared} (h : wpAny M A t Q NoX s) : wpAny M A t Q E s :=
  wpAny_mono h (fun _ _ q => q) fun _ _ z => z.elim
def capSt (cap : List (Option Nat)) (σ : St) : St := cap.map fun o => match o with
  | none => none
  | some j => (σ[j]?).join
inductive Ext : St → St → Prop
  | nil : Ext [] []
  | skip {a b : St} {x : Option V} : Ext a b → Ext (none :: a) (x :: b)
  | keep {a b : St} {x : Option V} : Ext a b → Ext (x :: a) (x :: b)
theorem Ext.len {a b : St} (h : Ext a b) : a.length = b.length := by
  induction h with
  | nil => rfl
  | skip _ ih => simp [ih]
  | keep _ ih => simp [ih]
theorem Ext.get {a b : St} (h : Ext a b) : ∀ (i : Nat) v, a[i]? = some (some v) → b[i]? = some (some v) := by
  induction h with
  | nil => intro i v e; simp at e
  | skip _ ih =>
    intro i v e
    cases i with
    | zero => simp at e
    | succ i => simpa using ih i v (by simpa using e)
  | keep _ ih =>
    intro i v e
    cases i with
    | zero => simpa using e
    | succ i => simpa using ih i v (by simpa using e)
def Cx.block (X : Cx) (sc : Scope) (cl : List (Str × Addr)) (N : List Str) (s : Shared) (H : Hp) (C : Addr) (ex : List Addr) : Cx where
  prog := X.prog
  w := X.w
  K := X.K
  mg := X.mg
  base := X.base
  A := X.A
  N := N
  s₀ := s
  H₀ := H
  env := compEnvC sc cl C X.env
  outer := X.stack
  stack := X.stack
  ex := ex
  fn := fun _ => false
  calm := X.calm
  pn := []
  xe := NoX
theorem closure_ok {env : Env} : ∀ (names : List (Str × NameKind)) (cs : List (Str × Addr)), (∀ n, (n, NameKind.free) ∈ names → ∃ c, env.cells.lookup n = some c) →
    (∀ x c, cs.lookup x = some c → env.cells.lookup x = some c) →
    ∃ cl : List (Str × Addr), (forIn names cs fun (x : Str × NameKind) (r : List (Str × Addr)) => (if (x.2 == NameKind.free) = true then do let c ← cellOf env x.1; pure (ForInStep.yield ((x.1, c) :: r)) else pure (ForInStep.yield r)) : Sem (List (Str × Addr))) = pure cl ∧
      (∀ x c, cl.lookup x = some c → env.cells.lookup x = some c) ∧ (∀ n, (n, NameKind.free) ∈ names → ∃ c, cl.lookup n = some c) ∧ (∀ n c, cs.lookup n = some c → ∃ c, cl.lookup n = some c)
  | [], cs, _, hc => ⟨cs, rfl, hc, fun _ h => (nomatch h), fun n c e => ⟨c, e⟩⟩
  | (n, k) :: r, cs, h, hc => by
    by_cases hk : k = .free
    · subst hk
      obtain ⟨c, ec⟩ := h n List.mem_cons_self
      have hc' : ∀ x c', ((n, c) :: cs).lookup x = some c' → env.cells.lookup x = some c' := fun x c' e => by
        rw [List.lookup_cons] at e
        cases hx : x == n with
        | true => rw [hx] at e; cases e; rw [eq_of_beq hx]; exact ec
        | false => rw [hx] at e; exact hc x c' e
      obtain ⟨cl, e1, e2, e3, e4⟩ := closure_ok r ((n, c) :: cs) (fun m hm => h m (List.mem_cons_of_mem _ hm)) hc'
      refine ⟨cl, ?_, e2, fun m hm => ?_, fun m c' e => ?_⟩
      · rw [List.forIn_cons, ← e1]
        simp only [beq_self_eq_true, if_true, cellOf, ec]
        rfl
      · rcases List.mem_cons.mp hm with z | z
        · cases z
          exact e4 n c (by simp)
        · exact e3 m z
      · by_cases hm : m = n
        · subst hm; exact e4 m c (by simp)
        · exact e4 m c' (by rw [List.lookup_cons, beq_eq_false_iff_ne.mpr hm]; exact e)
    · have hb : (k == NameKind.free) = false := by simpa using hk
      obtain ⟨cl, e1, e2, e3, e4⟩ := closure_ok r cs (fun m hm => h m (List.mem_cons_of_mem _ hm)) hc
      refine ⟨cl, ?_, e2, fun m hm => ?_, e4⟩
      · rw [List.forIn_cons, ← e1]
        simp only [hb, Bool.false_eq_true, if_false]
        rfl
      · rcases List.mem_cons.mp hm with z | z
        · cases z; exact absurd rfl hk
        · exact e3 m z
theorem closure_of {sc : Scope} {env : Env} (h : ∀ n, (n, NameKind.free) ∈ sc.names → ∃ c, env.cells.lookup n = some c) :
    ∃ cl : List (Str × Addr), closureFor sc env = pure cl ∧ (∀ x c, cl.lookup x = some c → env.cells.lookup x = some c) ∧ (∀ n, (n, NameKind.free) ∈ sc.names → ∃ c, cl.lookup n = some c) := by
  obtain ⟨cl, e1, e2, e3, _⟩ := closure_ok (env := env) sc.names [] h (fun x c e => by simp at e)
  refine ⟨cl, ?_, e2, e3⟩
  unfold closureFor
  rw [← bind_pure (pure cl), ← e1]
theorem lookup_mem {names : List (Str × NameKind)} {x : Str} {k : NameKind} (h : names.lookup x = some k) : (x, k) ∈ names := by
  induction names with
  | nil => simp at h
  | cons p r ih =>
    obtain ⟨n, j⟩ := p
    rw [List.lookup_cons] at h
    cases hx : x == n with
    | true => rw [hx] at h; cases h; rw [eq_of_beq hx]; exact List.mem_cons_self
    | false => rw [hx] at h; exact List.mem_cons_of_mem _ (ih h)
theorem relabel_free {sc : Scope} {env : Env} {x : Str} {k : NameKind} (hk : k = .cell ∨ k = .free) (nc : ∀ y ∈ sc.names, y.2 ≠ .cell) (h : (relabel sc env).names.lookup x = some k) : (x, NameKind.free) ∈ sc.names := by
  have m := lookup_mem h
  obtain ⟨⟨n, j⟩, hm, e⟩ := List.mem_map.mp m
  have q : (if (j == NameKind.free && env.scope.kind == .function && env.kindOf n == some .cell) = true then (n, NameKind.cell) else (n, j)) = (x, k) := e
  split at q
  · rename_i c
    rw [Bool.and_eq_true, Bool.and_eq_true] at c
    have j' : j = .free := by simpa using c.1.1
    cases q
    rw [j'] at hm
    exact hm
  · cases q
    rcases hk with z | z
    · exact absurd z (nc _ hm)
    · rw [z] at hm; exact hm
theorem lookup_relabel_free {sc : Scope} {env : Env} {x : Str} : ∀ {names : List (Str × NameKind)}, names.lookup x = some .free →
    (names.map fun (n, k) => if (k == NameKind.free && env.scope.kind == .function && env.kindOf n == some .cell) then (n, NameKind.cell) else (n, k)).lookup x = some .cell ∨
    (names.map fun (n, k) => if (k == NameKind.free && env.scope.kind == .function && env.kindOf n == some .cell) then (n, NameKind.cell) else (n, k)).lookup x = some .free
  | [], h => by simp at h
  | (n, k) :: r, h => by
    have ih := @lookup_relabel_free sc env x r
    rw [List.lookup_cons] at h
    by_cases c : (k == NameKind.free && env.scope.kind == .function && env.kindOf n == some .cell) = true
    · rw [List.map_cons]
      simp only [c, if_true, List.lookup_cons]
      cases hx : x == n with
      | true => exact .inl rfl
      | false => rw [hx] at h; exact ih h
    · rw [List.map_cons]
      have c' := Bool.eq_false_iff.mpr c
      simp only [c', Bool.false_eq_true, if_false, List.lookup_cons]
      cases hx : x == n with
      | true => rw [hx] at h; cases h; exact .inr rfl
      | false => rw [hx] at h; exact ih h
theorem comp_loop {P : Program} {w : World} {A : Around} {R : Result → Shared → Prop} {s : Shared} {elt tg iter : Expr} {ifs : List Expr} {sc : Scope} {pos : Pos} {it acc : Value} {env : Env} (J : Nat → Shared → Prop)
    (turn : ∀ n s, J n s → wpAny (model P w) A (pyNext it) (fun r s1 => match r with
      | none => R (.ok .next) s1
      | some v => wpAny (model P w) A (letOwnedTupleGo tg it v) (fun _ s2 => wpAny (model P w) A (assign tg env v) (fun _ s3 =>
          wpAny (model P w) A (forIn ifs true fun c r => if r = true then do let ok ← isTrue c env (eval c env); pure (ForInStep.yield ok) else pure (ForInStep.yield r)) (fun ok s4 =>
            if ok = true then wpAny (model P w) A (eval elt env) (fun x s5 => wpAny (model P w) A (call (.builtin "list.append") [acc, x]) (fun _ s6 => ∃ m, m < n ∧ J m s6) NoX s5) NoX s4
            else ∃ m, m < n ∧ J m s4) NoX s3) NoX s2) NoX s1) NoX s) (n : Nat) (h : J n s) :
    codeAny (model P w) A (.compLoop (.ListComp elt [⟨tg, iter, ifs, 0⟩] sc pos) 0 it acc env) R s := by
  refine codeAny_loop rfl J (fun n s hJ => ?_) n h
  refine wpAny_noted ?_
  rw [compTurn_list]
  refine wpAny_bind (wpAny_standAt (wpAny_bind (noX (thn (turn n s hJ) fun r s1 h1 => ?_))))
  cases r with
  | none => exact wpAny_pure h1
  | some v =>
    refine wpAny_bind (noX (thn h1 fun _ s2 h2 => ?_))
    refine wpAny_bind (noX (thn h2 fun _ s3 h3 => ?_))
    refine wpAny_bind (noX (thn h3 fun ok s4 h4 => ?_))
    cases ok with
    | false => exact wpAny_pure ⟨rfl, h4⟩
    | true => exact wpAny_bind (wpAny_bind (noX (thn h4 fun x s5 h5 => wpAny_bind (noX (thn h5 fun _ s6 h6 => wpAny_pure (wpAny_pure ⟨rfl, h6⟩))))))
def PTs (X : Cx) (ifs : List Expr) (t : TT) : Prop :=
  ∀ (pins : List (Addr × Obj)) (s : Shared) (σ : St) (H : Hp) (Q : Bool → Hp → Prop), Inv X pins σ H s → t σ H Q →
    wpAny (model X.prog X.w) X.A (forIn ifs true fun c r => if r = true then do let ok ← isTrue c X.env (eval c X.env); pure (ForInStep.yield ok) else pure (ForInStep.yield r)) (TP X pins σ Q) X.xe s
def tYes : TT := fun _ H Q => Q true H
theorem pts_nil {X : Cx} : PTs X [] tYes := fun _ _ _ H _ I h => wpAny_tests_nil ⟨H, I, h⟩
theorem pts_one {X : Cx} {c : Expr} {t : TT} (h : PT X c t) : PTs X [c] t := fun pins s σ H Q I hq => wpAny_tests_one (h pins s σ H Q I hq)
def tComp (cap : List (Option Nat)) (wi : TI) (g : TG) (tt : TT) (te : TE) : TE := fun σ H Q => wi σ H fun J H1 => ∀ acc, H1 acc = none →
  ∃ W : Nat → Nat → Hp → Prop, (∃ m, W 0 m (upd H1 acc (.lst []))) ∧ ∀ i m H2, W i m H2 →
    (J.stop i H2 ∧ Q (.ref acc) H2) ∨ (J.go i H2 ∧ ∃ N : Hp → Prop, (∀ H', N H' → ∃ m', m' < m ∧ W (i + 1) m' H') ∧ ∀ x H3, J.yld i H2 x H3 → g x (capSt cap σ) H3 fun σ2 H4 => Ext (capSt cap σ) σ2 ∧ tt σ2 H4 fun b H5 =>
      if b = true then te σ2 H5 fun y H6 => ∃ zs, H6 acc = some (.lst zs) ∧ zs.length < sizeLine ∧ N (upd H6 acc (.lst (zs ++ [y])))
      else N H5)
theorem HOk.but {P : Program} {w : World} {H : Hp} {h h' : Heap} {C : Addr} (x : HOk P w H h) (n : H C = none) (sb : Heap.SameBut C h h') : HOk P w H h' := fun a o e =>
  (x a o e).stay (fun b u hb q => (sb.2 b (fun z => by
    subst z
    rcases hb with z | z
    · subst z; rw [n] at e; cases e
    · rw [n] at z; cases z)).trans q) (fun _ q => q) fun _ _ q => q
theorem Un.but {fs ex : List Addr} {H H' : Hp} {h h1 h2 : Heap} {C : Addr} (u : Un fs ex H H' h h1) (lt : h.objs.size ≤ C) (sb : Heap.SameBut C h1 h2) : Un fs ex H H' h h2 := by
  have ne : ∀ b o, h.get? b = some o → b ≠ C := fun b o e => Nat.ne_of_lt (Nat.lt_of_lt_of_le (Heap.lt_size e) lt)
  refine ⟨fun b o e n hb hx => (sb.2 b (ne b o e)).trans (u.keep b o e n hb hx), fun b o e n hb hx => ?_, u.free, fun b o e hx => ?_, u.tups, u.frzs, u.tbls⟩
  · obtain ⟨sl, q⟩ := u.slot b o e n hb hx
    exact ⟨sl, (sb.2 b (ne b o e)).trans q⟩
  · obtain ⟨o', q⟩ := u.there b o e hx
    exact ⟨o', (sb.2 b (ne b o e)).trans q⟩
section
variable {X : Cx}
theorem block_ok {pins : List (Addr × Obj)} {σ : St} {H : Hp} {s : Shared} {sc : Scope} {cl : List (Str × Addr)} {N : List Str} {C : Addr} {fp : List Addr} (I : Inv X pins σ H s) (hk : sc.kind = .function) (nc : ∀ y ∈ sc.names, y.2 ≠ .cell)
    (hC : s.heap.objs.size ≤ C) (hf : ∀ b ∈ fp, FpOk X pins H b) (hfo : ∀ b ∈ fp, ∃ o, s.heap.get? b = some o) (c1 : ∀ x c, cl.lookup x = some c → X.env.cells.lookup x = some c) (c2 : ∀ n, (n, NameKind.free) ∈ sc.names → ∃ c, cl.lookup n = some c) :
    (X.block sc cl N s H C fp).Ok where
  mod := I.ok.mod
  kind := hk
  glob := I.ok.glob
  blt := I.ok.blt
  above := hC
  inj := fun x y c e e' => I.ok.inj x y c (c1 x c e) (c1 y c e')
  has := fun x h => c2 x (h.elim (relabel_free (.inl rfl) nc) (relabel_free (.inr rfl) nc))
  cab := fun x c e => (nomatch e)
  hd := I.ok.hd
  frames := I.ok.frames
  stk := .inl rfl
  exf := fun b hb => ⟨fun z => by
    obtain ⟨o, e⟩ := hfo b hb
    have lt := Heap.lt_size e
    rw [z] at lt
    exact absurd (Nat.lt_of_lt_of_le lt hC) (Nat.lt_irrefl _), fun x c e => (hf b hb).2.2.2.2.1 x c (c1 x c e)⟩
  bs := I.bs
  bsz := Nat.le_trans I.ok.bsz I.sz
  noex := fun b o e hb => by
    rcases (hf b hb).2.2.2.1 with z | z
    · exact I.ok.noex b o e z
    · exact absurd (Nat.lt_of_lt_of_le (Heap.lt_size (I.ok.bs b o e).1) z) (Nat.lt_irrefl _)
  exfs := fun b hb hs => by
    rcases List.mem_cons.mp (I.stkSub b hs) with z | z
    · exact (hf b hb).2.1 z
    · exact (hf b hb).2.2.1 z
  funs := I.stack
  frf := I.stkFree
theorem pe_comp {elt tg iter : Expr} {ifs : List Expr} {sc : Scope} {pos : Pos} {wi : TI} {g : TG} {tt : TT} {te : TE} (N : List Str) (cap : List (Option Nat)) (hc : X.calm = true) (hi : PI X tg iter wi)
    (hg : ∀ cl s H C ex, PG (X.block sc cl N s H C ex) tg g) (ht : ∀ cl s H C ex, PTs (X.block sc cl N s H C ex) ifs tt) (he : ∀ cl s H C ex, PE (X.block sc cl N s H C ex) elt te)
    (hk : sc.kind = .function) (nc : ∀ y ∈ sc.names, y.2 ≠ .cell) (hnames : ∀ y ∈ sc.names, y.2 = .local → sc.names.lookup y.1 = some .local)
    (hfree : ∀ n, (n, NameKind.free) ∈ sc.names → X.env.kindOf n = some .cell)
    (hcap : ∀ (i j : Nat), cap[i]? = some (some j) → ∃ x, N[i]? = some x ∧ X.N[j]? = some x ∧ sc.names.lookup x = some .free) (hlen : cap.length = N.length)
    (hs : ∀ x, foldedSetIterable iter X.env x = pure x := by intro _; rfl) : PE X (.ListComp elt [⟨tg, iter, ifs, 0⟩] sc pos) (tComp cap wi g tt te) := by
  intro pins s σ H Q I h
  obtain ⟨cl, hclos, c1, c2⟩ := closure_of (sc := sc) (env := X.env) fun n hn => I.ok.has n (.inl (hfree n hn))
  rw [eval_ListComp]
  refine wpAny_comprehension_free (use := none) rfl hs hclos hk hnames ?_
  refine thn (hi pins s σ H _ I h) fun v s1 h1 => thn h1 fun itv s2 h2 => ?_
  obtain ⟨it, fp, tn, J, H2, e, I2, T, st2, f2, q2⟩ := h2
  subst e
  have hfr : H2 s2.heap.objs.size = none := I2.fresh
  obtain ⟨W, ⟨m0, w0⟩, turn⟩ := q2 s2.heap.objs.size hfr
  have I3 := I2.lnew (ys := []) (its := []) (t' := s2.toks) .nil (Nat.zero_le _)
  have hacc : H2 s2.heap.objs.size = none := hfr
  refine wpAny_newObj_type (wpAny_newFunctionEnv nc (by intro y hy; simp at hy) (fun h4 hns hsb => ?_) hk)
  generalize hs3 : ({ s2 with heap := s2.heap.push { cls := .type "list", data := .seq ([] : List Value).toArray } } : Shared) = s3 at hns hsb I3 ⊢
  have hheap : s3.heap = s2.heap.push { cls := .type "list", data := .seq ([] : List Value).toArray } := by rw [← hs3]
  generalize hH3 : upd H2 s2.heap.objs.size (.lst []) = H3 at I3 w0
  have up2 : ∀ b o, s2.heap.get? b = some o → s3.heap.get? b = some o := fun b o q => by rw [hheap]; exact Heap.get?_push_of_some _ q
  have neA : ∀ b ∈ fp, b ≠ s2.heap.objs.size := fun b hb => by
    obtain ⟨o, q, _⟩ := T.obj _ _ st2 b hb
    exact Nat.ne_of_lt (Heap.lt_size q)
  have f3 : ∀ b ∈ fp, FpOk X pins H3 b := fun b hb => ⟨by rw [← hH3, upd_ne (neA b hb)]; exact (f2 b hb).1, (f2 b hb).2⟩
  have o3 : ∀ b ∈ fp, ∃ o, s3.heap.get? b = some o := fun b hb => by
    obtain ⟨o, q, _⟩ := T.obj _ _ st2 b hb
    exact ⟨o, up2 b o q⟩
  have ok' := block_ok (N := N) (C := s3.heap.objs.size) I3 hk nc (Nat.le_refl _) f3 o3 c1 c2
  generalize hC : s3.heap.objs.size = C at hns hsb ok' ⊢
  have ltC : ∀ b o, s3.heap.get? b = some o → b ≠ C := fun b o q => by rw [← hC]; exact Nat.ne_of_lt (Heap.lt_size q)
  have up4 : ∀ b o, s3.heap.get? b = some o → h4.get? b = some o := fun b o q => hsb.extBut b o (ltC b o q) (Heap.get?_push_of_some _ q)
  have st4 : tn 0 h4 := T.keep _ _ _ st2 fun b hb o q => up4 b o (up2 b o q)
  have I4 : Inv (X.block sc cl N s3 H3 C fp) [] (capSt cap σ) H3 { s3 with heap := h4, toks := s3.toks + ([] : List (Str × Value)).length } := by
    refine ⟨ok', rfl, I3.bare, Un.kept up4, ⟨_, hns, fun i x v e1 e2 e3 => ?_⟩, fun x c q => ?_, ?_, fun x c q => I3.freeC x c (c1 x c q), fun p hp => (nomatch hp), I3.hok.kept up4, ?_⟩
    · have ee : ∃ j, cap[i]? = some (some j) ∧ σ[j]? = some (some v) := by
        unfold capSt at e2
        rw [List.getElem?_map] at e2
        cases q : cap[i]? with
        | none => rw [q] at e2; cases e2
        | some o =>
          rw [q] at e2
          cases o with
          | none => cases e2
          | some j =>
            refine ⟨j, rfl, ?_⟩
            have e2' : some ((σ[j]?).join) = some (some v) := e2
            cases z : σ[j]? with
            | none => rw [z] at e2'; cases e2'
            | some o' =>
              rw [z] at e2'
              have e2'' : o' = some v := Option.some.inj e2'
              rw [e2'']
      obtain ⟨j, ej, es⟩ := ee
      obtain ⟨x', n1, n2, n3⟩ := hcap i j ej
      have e1' : N[i]? = some x := e1
      rw [n1] at e1'
      cases e1'
      have hfr' : (x, NameKind.free) ∈ sc.names := lookup_mem n3
      have kc := hfree x hfr'
      obtain ⟨m, _, hl⟩ := I3.loc
      obtain ⟨u, r, l⟩ := hl j x v n2 es (.inr (.inl kc))
      refine ⟨u, r, ?_⟩
      rcases l with ⟨l, _⟩ | ⟨_, c, ec, z⟩
      · rw [kc] at l; cases l
      · obtain ⟨c', ec'⟩ := c2 x hfr'
        have := c1 x c' ec'
        rw [ec] at this
        cases this
        obtain ⟨oc, q1, q2⟩ := z
        exact .inr ⟨lookup_relabel_free (sc := sc) n3, c, ec', oc, up4 _ _ q1, q2⟩
    · obtain ⟨v, oc, q1, q2⟩ := I3.cell x c (c1 x c q)
      exact ⟨v, oc, up4 _ _ q1, q2⟩
    · exact I3.hok.fresh (by rw [hC]; exact Nat.le_refl _)
    · show (capSt cap σ).length = N.length
      unfold capSt
      rw [List.length_map, hlen]
  have loop : codeAny (model X.prog X.w) X.A (.compLoop (.ListComp elt [⟨tg, iter, ifs, 0⟩] sc pos) 0 (.ref it) (.ref s2.heap.objs.size) (compEnvC sc cl C X.env)) (compPost (model X.prog X.w) X.A X.xe none (EP X pins σ Q) (.ref s2.heap.objs.size) C)
      { s3 with heap := h4, toks := s3.toks + ([] : List (Str × Value)).length } := by
    have stat : ∀ {H' : Hp}, (∀ b ∈ fp, H' b = none) → ∀ b ∈ fp, FpOk (X.block sc cl N s3 H3 C fp) [] H' b := fun hn b hb =>
      ⟨hn b hb, (ok'.exf b hb).1, ok'.exfs b hb, .inl hb, (ok'.exf b hb).2, fun p hp => (nomatch hp)⟩
    refine comp_loop (fun n s' => ∃ i H', Inv (X.block sc cl N s3 H3 C fp) [] (capSt cap σ) H' s' ∧ tn i s'.heap ∧ (∀ b ∈ fp, H' b = none) ∧ W i n H') ?_ m0 ⟨0, H3, I4, st4, fun b hb => (f3 b hb).1, w0⟩
    rintro n s5 ⟨i, H5, I5, st5, fr5, w5⟩
    rcases turn i n H5 w5 with ⟨stop, qn⟩ | ⟨go, N', hN', step⟩
    · refine thn (T.done (X.block sc cl N s3 H3 C fp) rfl rfl rfl hc i [] s5 _ H5 NoX I5 (stat fr5) st5 stop) fun r s6 ⟨hr, I6⟩ => ?_
      subst hr
      obtain ⟨m, hm, _⟩ := I6.loc
      refine ⟨m, hm, fun h' sb => ⟨.ref s2.heap.objs.size, H5, ?_, rfl, qn⟩⟩
      refine I3.call' (s' := { s6 with heap := h' }) (ch := fp) I6.os (I6.base.but (by rw [← hC]; exact Nat.le_refl _) sb) (I6.hok.but I6.free sb) I6.bare fun b hb => ?_
      obtain ⟨g0, g1, g2, g3, g4, g5⟩ := f3 b hb
      exact ⟨g3, g1, g4, g5⟩
    · refine thn (T.item (X.block sc cl N s3 H3 C fp) rfl rfl rfl hc i [] s5 _ H5 NoX I5 (stat fr5) st5 go) fun r s6 ⟨u, hr, h6⟩ => ?_
      subst hr
      refine thn h6 fun _ s7 ⟨x, H7, I7, r7, y7, st7, fr7⟩ => ?_
      have I7' := I7.pinned (stat fr7) (T.obj _ _ st7)
      have again : ∀ {σ8 : St} {H8 : Hp} {s8 : Shared}, Inv (X.block sc cl N s3 H3 C fp) ([] ++ pinsAt fp s7.heap) σ8 H8 s8 → Ext (capSt cap σ) σ8 → N' H8 →
          ∃ m, m < n ∧ ∃ i H', Inv (X.block sc cl N s3 H3 C fp) [] (capSt cap σ) H' s8 ∧ tn i s8.heap ∧ (∀ b ∈ fp, H' b = none) ∧ W i m H' := fun {σ8 H8 s8} I8 ex n8 => by
        obtain ⟨m', hm, w8⟩ := hN' H8 n8
        have I8' := I8.unpinned.weak ex.len ex.get
        refine ⟨m', hm, i + 1, H8, I8', T.keep _ _ _ st7 fun b hb o q => (I8.pin (b, o) (List.mem_append_right _ (List.mem_append_right _ (mem_pinsAt hb q)))).1, fun b hb => ?_, w8⟩
        obtain ⟨o, q, d⟩ := T.obj _ _ st7 b hb
        exact (I8.pin (b, o) (List.mem_append_right _ (List.mem_append_right _ (mem_pinsAt hb q)))).2.1
      refine thn (hg cl s3 H3 C fp _ s7 _ H7 x u _ I7' r7 (step x H7 y7)) fun _ s8 ⟨σ8, H8, I8, ex8, q8⟩ => ?_
      refine thn (ht cl s3 H3 C fp _ s8 σ8 H8 _ I8 q8) fun b s9 ⟨H9, I9, q9⟩ => ?_
      cases b with
      | false => exact again I9 ex8 q9
      | true =>
        rw [if_pos rfl] at q9 ⊢
        refine thn (he cl s3 H3 C fp _ s9 σ8 H9 _ I9 q9) fun yv s10 ⟨y, H10, I10, r10, zs, e10, l10, q10⟩ => ?_
        refine thn (mt_append (X := X.block sc cl N s3 H3 C fp) _ s10 σ8 H10 (.ref s2.heap.objs.size) [y] (.ref s2.heap.objs.size) [yv] (fun _ H' => N' H') I10 rfl (.cons r10 .nil) ⟨_, zs, y, rfl, rfl, e10, l10, q10⟩) fun _ s11 ⟨_, H11, I11, _, q11⟩ => ?_
        exact again I11 ex8 q11
  exact codeAny_compStart_list loop (T.self X.A 0 _ _ _ st4 loop)
end
theorem comp_range {lo : Int} {n : Nat} {acc : Addr} {g : TG} {tt : TT} {te : TE} {σ : St} {H : Hp} {Q : VK} (Pv : Nat → Hp → Prop) (h0 : Pv 0 (upd H acc (.lst [])))
    (hs : ∀ i H, i < n → Pv i H → g (.int (lo + i)) σ H fun σ2 H4 => Ext σ σ2 ∧ tt σ2 H4 fun b H5 =>
      if b = true then te σ2 H5 fun y H6 => ∃ zs, H6 acc = some (.lst zs) ∧ zs.length < sizeLine ∧ Pv (i + 1) (upd H6 acc (.lst (zs ++ [y]))) else Pv (i + 1) H5) (hd : ∀ H, Pv n H → Q (.ref acc) H) :
    ∃ W : Nat → Nat → Hp → Prop, (∃ m, W 0 m (upd H acc (.lst []))) ∧ ∀ i m H2, W i m H2 →
      ((Itr lo n).stop i H2 ∧ Q (.ref acc) H2) ∨ ((Itr lo n).go i H2 ∧ ∃ N : Hp → Prop, (∀ H', N H' → ∃ m', m' < m ∧ W (i + 1) m' H') ∧ ∀ x H3, (Itr lo n).yld i H2 x H3 → g x σ H3 fun σ2 H4 => Ext σ σ2 ∧ tt σ2 H4 fun b H5 =>
        if b = true then te σ2 H5 fun y H6 => ∃ zs, H6 acc = some (.lst zs) ∧ zs.length < sizeLine ∧ N (upd H6 acc (.lst (zs ++ [y])))
        else N H5) := by
  refine ⟨fun i m H => m = n - i ∧ i ≤ n ∧ Pv i H, ⟨n, by simp, Nat.zero_le _, h0⟩, ?_⟩
  rintro i m H2 ⟨rfl, hi, p⟩
  by_cases hlt : i < n
  · refine .inr ⟨hlt, Pv (i + 1), fun H' p' => ⟨n - (i + 1), by omega, rfl, hlt, p'⟩, fun x H' y => ?_⟩
    obtain ⟨e, y⟩ := y
    subst e y
    exact hs i _ hlt p
  · have e : i = n := by omega
    subst e
    exact .inl ⟨Nat.le_refl _, hd H2 p⟩
def compCk (sc : Scope) (env : Env) (XN N : List Str) (cap : List (Option Nat)) : Bool :=
  (sc.kind == .function) && (sc.names.all fun y => y.2 != .cell) && (sc.names.all fun y => y.2 != .local || sc.names.lookup y.1 == some .local) &&
  (sc.names.all fun y => y.2 != .free || env.kindOf y.1 == some .cell) &&
  ((List.range cap.length).all fun i => match cap[i]? with
    | some (some j) => (match N[i]? with | some x => XN[j]? == some x && sc.names.lookup x == some .free | none => false)
    | _ => true) && (cap.length == N.length)
theorem pe_compB {X : Cx} {elt tg iter : Expr} {ifs : List Expr} {sc : Scope} {pos : Pos} {wi : TI} {g : TG} {tt : TT} {te : TE} (N : List Str) (cap : List (Option Nat)) (hc : X.calm = true) (hi : PI X tg iter wi)
    (hg : ∀ cl s H C ex, PG (X.block sc cl N s H C ex) tg g) (ht : ∀ cl s H C ex, PTs (X.block sc cl N s H C ex) ifs tt) (he : ∀ cl s H C ex, PE (X.block sc cl N s H C ex) elt te)
    (ck : compCk sc X.env X.N N cap = true) (hs : ∀ x, foldedSetIterable iter X.env x = pure x := by intro _; rfl) : PE X (.ListComp elt [⟨tg, iter, ifs, 0⟩] sc pos) (tComp cap wi g tt te) := by
  unfold compCk at ck
  simp only [Bool.and_eq_true] at ck
  obtain ⟨⟨⟨⟨⟨k1, k2⟩, k3⟩, k4⟩, k5⟩, k6⟩ := ck
  refine pe_comp N cap hc hi hg ht he (by simpa using k1) (fun y hy => ?_) (fun y hy z => ?_) (fun n hn => ?_) (fun i j e => ?_) (by simpa using k6) hs
  · have := List.all_eq_true.mp k2 y hy
    simpa using this
  · have := List.all_eq_true.mp k3 y hy
    rw [z] at this
    simpa using this
  · have := List.all_eq_true.mp k4 _ hn
    simpa using this
  · have hi : i < cap.length := (List.getElem?_eq_some_iff.mp e).1
    have := List.all_eq_true.mp k5 i (List.mem_range.mpr hi)
    rw [e] at this
    dsimp only at this
    cases q : N[i]? with
    | none => rw [q] at this; cases this
    | some x =>
      rw [q] at this
      dsimp only at this
      rw [Bool.and_eq_true] at this
      exact ⟨x, rfl, by simpa using this.1, by simpa using this.2⟩
end L2
set_option Elab.async false
set_option linter.all false
set_option maxRecDepth 100000
set_option maxHeartbeats 4000000
namespace L2
open PySem PySem.Spec PyProof.Rows
section
variable {prog : Program} {w : World} {A : Around} {E : Value → Shared → Prop} {s : Shared}
end
section
variable {X : Cx} {pins : List (Addr × Obj)} {σ : St} {H : Hp} {s : Shared} {h' : Heap}
end
end L2
set_option Elab.async false
set_option linter.all false
set_option maxRecDepth 100000
set_option maxHeartbeats 4000000
namespace L2
open PySem PySem.Spec PyProof.Rows
section
variable {X : Cx}
theorem same_upd {H : Hp} {p : Addr} {o : HO} (h : H p = none) : Same H (upd H p o) := fun b u q => by rw [upd_ne (ne_of_none q h)]; exact q
end
end L2
set_option Elab.async false
set_option linter.all false
set_option maxRecDepth 100000
set_option maxHeartbeats 4000000
namespace L2
open PySem PySem.Spec PyProof.Rows
structure FnB (P : Program) (w : World) (K : PySem.W.Frag) (mg : Str → Option Value) (base : Heap) (k : Nat) (x : Str) (f : Addr) (fd : FuncData) (ps : List Str) (sp : Sp) : Prop where
  ok : FnOk P w K mg base CX0 k f fd ps sp
  bd : Binds K fd ps []
  kp : PySem.W.keepIn K (.ref f) = true
  gl : mg x = some (.ref f)
theorem FnB.up {P : Program} {w : World} {K : PySem.W.Frag} {mg : Str → Option Value} {base : Heap} {j k : Nat} {x : Str} {f : Addr} {fd : FuncData} {ps : List Str} {sp : Sp} (F : FnB P w K mg base j x f fd ps sp) (h : j ≤ k) : FnB P w K mg base k x f fd ps sp :=
  ⟨F.ok.mono h, F.bd, F.kp, F.gl⟩
def Tk (H H' : Hp) : Prop := ∀ b xs, H b = some (.tup xs) → H' b = some (.tup xs)
theorem Tk.trans {H H1 H2 : Hp} (a : Tk H H1) (b : Tk H1 H2) : Tk H H2 := fun c xs h => b c xs (a c xs h)
theorem Same.tk {H H' : Hp} (h : Same H H') : Tk H H' := fun b xs e => h b _ e
theorem Tk.lst {H : Hp} {p : Addr} {xs : List V} {o : HO} (h : H p = some (.lst xs)) : Tk H (upd H p o) := fun b ys e => by
  rw [upd_ne (fun z => by subst z; rw [h] at e; cases e)]; exact e
section
variable {X : Cx}
def rCatV : R2 := fun x y H Q => ∃ a b xs ys, x = .ref a ∧ y = .ref b ∧ H a = some (.tup xs) ∧ H b = some (.tup ys) ∧ xs.length + ys.length ≤ sizeLine ∧
  ∀ p H', Same H H' → H' p = some (.tup (xs ++ ys)) → Q (.ref p) H'
theorem op_catV : OpR X (binaryOp .Add) rCatV := by
  intro pins s σ H x y v u Q I rx ry h
  obtain ⟨a, b, xs, ys, rfl, rfl, ha, hb, hz, q⟩ := h
  by_cases hx : xs = []
  · subst hx
    cases rx
    cases ry
    obtain ⟨its, r1, p1, _⟩ := I.tuple (SqT.of ha)
    obtain ⟨its2, r2, p2, _⟩ := I.tuple (SqT.of hb)
    have e0 : its = [] := r1.nil_iff.mpr rfl
    subst e0
    obtain ⟨⟨cls, dd, data, sl⟩, ho, hc, n, hd⟩ := id p1
    obtain ⟨⟨cls2, dd2, data2, sl2⟩, ho2, hc2, n2, hd2⟩ := id p2
    simp only at hc hd hc2 hd2
    subst hc hd hc2 hd2
    exact concat_meets ⟨_, ho, rfl⟩ ⟨_, ho2, rfl⟩ noFill_tuple_add seq_tuple_add PySem.F.slot_tuple_add PySem.F.entry_tuple_add (PySem.F.args_tuple_add_2 _ _) (tuple_addW0 a b _ _ n n2 dd dd2 sl sl2 rfl) ⟨ho, ho2, ⟨.ref b, H, I, rfl, q b H (.refl H) hb⟩⟩
  · refine op_catT pins s σ H (.ref a) (.ref b) v u Q I rx ry ⟨a, b, xs, ys, rfl, rfl, SqT.of ha, SqT.of hb, hx, hz, fun e => ?_, fun e p hp => ?_⟩
    · subst e
      exact q a H (.refl H) (by rw [List.append_nil]; exact ha)
    · exact q p _ (same_upd hp) upd_same
end
inductive Atom where
  | name (x : Str) | num (n : Int) | gap (g : Str)
inductive Bin where
  | add | sub | mul | thn
def Bin.s : Bin → Str
  | .add => "add" | .sub => "sub" | .mul => "mul" | .thn => "then"
inductive Tr where
  | num (n : Int) | name (x : Str) | ask (x : Str) | stop (x : Str) | gap (g : Str) (as : List Atom)
  | say (a : Tr) | bin (o : Bin) (a b : Tr) | ite (a b c : Tr) | lett (x : Str) (a b : Tr)
inductive Kd where
  | num | name | ask | stop | gap | say | add | sub | mul | thn | ite | lett
  deriving DecidableEq
def Kd.s : Kd → Str
  | .num => "num" | .name => "name" | .ask => "ask" | .stop => "stop" | .gap => "gap"
  | .say => "say" | .add => "add" | .sub => "sub" | .mul => "mul" | .thn => "then" | .ite => "if" | .lett => "let"
def Bin.kd : Bin → Kd
  | .add => .add | .sub => .sub | .mul => .mul | .thn => .thn
def Tr.kd : Tr → Kd
  | .num _ => .num | .name _ => .name | .ask _ => .ask | .stop _ => .stop | .gap _ _ => .gap
  | .say _ => .say | .bin o _ _ => o.kd | .ite _ _ _ => .ite | .lett _ _ _ => .lett
def Tr.head : Tr → Nat
  | .gap _ _ => 3 | .say _ => 1 | .bin _ _ _ => 1 | .ite _ _ _ => 1
  | _ => 2
def Tr.size : Tr → Nat
  | .say a => a.size + 1 | .bin _ a b => a.size + b.size + 1 | .ite a b c => a.size + b.size + c.size + 1 | .lett _ a b => a.size + b.size + 1
  | _ => 1
theorem same_set {H H' : Hp} {p : Addr} {o : HO} (g : Same H H') (h : H p = none) : Same H (upd H' p o) := fun b u q => by rw [upd_ne (ne_of_none q h)]; exact g b u q
def Atom.names : Atom → List Str
  | .name x => [x]
  | _ => []
def Tr.names : Tr → List Str
  | .name x => [x]
  | .gap _ as => as.flatMap Atom.names
  | _ => []
theorem line1000 {n : Nat} (h : n ≤ 1000) : n ≤ sizeLine := Nat.le_of_lt (small1000 h)
def constVs : List Expr → Option (List V)
  | [] => some []
  | .Constant (.str x) _ _ :: r => (constVs r).map fun l => V.str x :: l
  | .Constant (.int i) _ _ :: r => (constVs r).map fun l => V.int i :: l
  | _ => none
def tRow (vs : List V) : TA := fun _ H Q => Q vs H
theorem pa_row {X : Cx} : ∀ {es : List Expr} (vs : List V), constVs es = some vs → PA X es (tRow vs)
  | [], vs, h => by cases h; exact pa_nil
  | .Constant (.str x) j p :: r, vs, h => by
    obtain ⟨l, hl, e⟩ := Option.map_eq_some_iff.mp (show (constVs r).map (fun l => V.str x :: l) = some vs from h)
    subst e
    exact pa_cons pe_str (pa_row l hl)
  | .Constant (.int x) j p :: r, vs, h => by
    obtain ⟨l, hl, e⟩ := Option.map_eq_some_iff.mp (show (constVs r).map (fun l => V.int x :: l) = some vs from h)
    subst e
    exact pa_cons pe_int (pa_row l hl)
def rowL : Expr → Option (List V)
  | .List es _ => constVs es
  | _ => none
theorem pe_lstR {X : Cx} {e : Expr} (vs : List V) (h : rowL e = some vs) : PE X e (tLst (tRow vs)) := by
  unfold rowL at h
  split at h
  · exact pe_lst (pa_row vs h)
  · cases h
end L2
set_option Elab.async false
set_option linter.all false
set_option maxRecDepth 100000
set_option maxHeartbeats 4000000
namespace L2
open PySem
abbrev DRow := Str × (Str ⊕ Int)
abbrev En := Str → Int
abbrev Res := List DRow × (Int ⊕ Str)
def askR (x : Str) : DRow := ("ask", .inl x)
def sayR (n : Int) : DRow := ("say", .inr n)
def Bin.op : Bin → Int → Int → Int
  | .add, m, n => (m + n) % 10 ^ 30
  | .sub, m, n => (m - n) % 10 ^ 30
  | .mul, m, n => (m * n) % 10 ^ 30
  | .thn, _, n => n
def En.set (e : En) (x : Str) (n : Int) : En := fun y => if y = x then n else e y
def pre (D : List DRow) (o : Option Res) : Option Res := o.map fun q => (D ++ q.1, q.2)
def seqR (r : Option Res) (k : Int → Option Res) : Option Res := r.bind fun r => match r.2 with
  | .inr w => some (r.1, .inr w)
  | .inl n => pre r.1 (k n)
def ev (a : En) : Tr → En → Option Res
  | .num n, _ => some ([], .inl n)
  | .name x, e => some ([], .inl (e x))
  | .ask x, _ => some ([askR x], .inl (a x))
  | .stop x, _ => some ([], .inr x)
  | .gap _ _, _ => none
  | .say t, e => seqR (ev a t e) fun n => some ([sayR n], .inl n)
  | .bin o s t, e => seqR (ev a s e) fun m => seqR (ev a t e) fun n => some ([], .inl (o.op m n))
  | .ite c s t, e => seqR (ev a c e) fun n => if n = 0 then ev a t e else ev a s e
  | .lett x s t, e => seqR (ev a s e) fun n => ev a t (e.set x n)
def aft (a : En) (t : Tr) (e : En) (E : List Int) : Option (Option Res × List Int) :=
  match t with
  | .say _ => match E with
    | n :: E => some (some ([sayR n], .inl n), E)
    | _ => none
  | .bin .thn _ t => match E with
    | _ :: E => some (ev a t e, E)
    | _ => none
  | .bin o _ _ => match E with
    | n :: m :: E => some (some ([], .inl (o.op m n)), E)
    | _ => none
  | .ite _ s t => match E with
    | n :: E => some (if n = 0 then ev a t e else ev a s e, E)
    | _ => none
  | .lett x _ t => match E with
    | n :: E => some (ev a t (e.set x n), E)
    | _ => none
  | _ => none
abbrev Item := Tr × En × Bool
def cont (a : En) : List Item → List Int → Option Res
  | [], [] => none
  | [], n :: _ => some ([], .inl n)
  | (t, e, false) :: W, E => seqR (ev a t e) fun n => cont a W (n :: E)
  | (t, e, true) :: W, E => (aft a t e E).bind fun p => seqR p.1 fun n => cont a W (n :: p.2)
section
variable {a e : En} {W : List Item} {E : List Int}
end
end L2
set_option Elab.async false
set_option linter.all false
set_option maxRecDepth 100000
set_option maxHeartbeats 4000000
namespace L2
open PySem PySem.Spec PyProof.Rows
theorem bits100 {k : Int} (h : k.natAbs < 2 ^ 100) : Builtin.Int.intBits k ≤ 100 := by
  unfold Builtin.Int.intBits
  split
  · exact Nat.zero_le _
  · have : k.natAbs.log2 < 100 := by
      rcases Nat.eq_zero_or_pos k.natAbs with h0 | hp
      · rw [h0]; decide
      · exact (Nat.log2_lt (Nat.ne_of_gt hp)).mpr h
    omega
def CMulB (i j : Int) : Prop := i.natAbs < 2 ^ 100 ∧ j.natAbs < 2 ^ 100
theorem op_mulB {X : Cx} : OpR X (binaryOp .Mult) (rI CMulB fun i j => .int (i * j)) := opI fun _ _ _ _ _ _ _ hc q => mul_int q (IntMulOk.of_le (bits100 hc.1) (bits100 hc.2) (by decide))
section
variable {P : Program} {w : World} {K : PySem.W.Frag} {mg : Str → Option Value} {base : Heap}
end
end L2
set_option Elab.async false
set_option linter.all false
set_option maxRecDepth 100000
set_option maxHeartbeats 4000000
namespace L2
open PySem PySem.Spec PyProof.Rows
section
variable {prog : Program} {w : World} {A : Around} {E : Value → Shared → Prop} {s : Shared}
end
end L2
set_option Elab.async false
set_option linter.all false
set_option maxRecDepth 100000
set_option maxHeartbeats 4000000
namespace L2
open PySem PySem.Spec PyProof.Rows
theorem strs_back : ∀ {ys : List Str} {us : List Value}, Vals (ys.map V.str) us → StrsAre us ys
  | [], _, h => by cases h; exact .nil
  | y :: ys, _, h => by
    cases h with
    | cons r t =>
      obtain ⟨tk, rfl⟩ := r
      exact .cons y tk (strs_back t)
def rJoin : V → List V → Hp → VK → Prop := fun x xs H Q => ∃ (z : Str) (l : Addr) (ys : List Str), x = .str z ∧ xs = [.ref l] ∧ H l = some (.lst (ys.map V.str)) ∧ z.length ≤ 16 ∧ (ys.map (·.length)).sum + ys.length ≤ 1048576 ∧ Q (.str (Txt.join z ys)) H
theorem mt_join {X : Cx} : MtR X "str.join" rJoin := by
  intro pins s σ H x xs v us Q I rx rs h
  obtain ⟨z, l, ys, rfl, rfl, hl, hz, hw, q⟩ := h
  obtain ⟨t, rfl⟩ := rx
  obtain ⟨u, rfl, ru⟩ := Vals.one rs
  cases ru
  obtain ⟨_, its, n, r, le, e⟩ := I.lstM hl
  have L1 : s.heap.IsList l its.toArray := ⟨_, e, rfl, _, rfl⟩
  exact join_listW L1 (strs_back r) hz hw fun t' k => ⟨.str _, H, I.tok k, ⟨t', rfl⟩, q⟩
theorem comp_rangeR {lo : Int} {n : Nat} {acc : Addr} {g : TG} {tt : TT} {te : TE} {σ : L2.St} {H : Hp} {R : Hp → Prop} (Pv : Nat → Hp → Prop) (h0 : Pv 0 (upd H acc (.lst [])))
    (hs : ∀ i H, i < n → Pv i H → g (.int (lo + i)) σ H fun σ2 H4 => Ext σ σ2 ∧ tt σ2 H4 fun b H5 =>
      if b = true then te σ2 H5 fun y H6 => ∃ zs, H6 acc = some (.lst zs) ∧ zs.length < sizeLine ∧ Pv (i + 1) (upd H6 acc (.lst (zs ++ [y]))) else Pv (i + 1) H5) (hd : ∀ H, Pv n H → R H) :
    ∃ W : Nat → Nat → Hp → Prop, (∃ m, W 0 m (upd H acc (.lst []))) ∧ ∀ i m H2, W i m H2 →
      ((Itr lo n).stop i H2 ∧ R H2) ∨ ((Itr lo n).go i H2 ∧ ∃ N : Hp → Prop, (∀ H', N H' → ∃ m', m' < m ∧ W (i + 1) m' H') ∧ ∀ x H3, (Itr lo n).yld i H2 x H3 → g x σ H3 fun σ2 H4 => Ext σ σ2 ∧ tt σ2 H4 fun b H5 =>
        if b = true then te σ2 H5 fun y H6 => ∃ zs, H6 acc = some (.lst zs) ∧ zs.length < sizeLine ∧ N (upd H6 acc (.lst (zs ++ [y])))
        else N H5) := comp_range (Q := fun _ H => R H) Pv h0 hs hd
end L2
set_option Elab.async false
set_option linter.all false
set_option maxRecDepth 100000
set_option maxHeartbeats 4000000
namespace L2
open PySem PySem.Spec PyProof.Rows
theorem comp_listR {K : PySem.W.Frag} {a : Addr} {xs : List V} {acc : Addr} {g : TG} {tt : TT} {te : TE} {σ : L2.St} {H : Hp} {R : Hp → Prop} (Pv : Nat → Hp → Prop) (h0 : Pv 0 (upd H acc (.lst []))) (hl : ∀ i H, i ≤ xs.length → Pv i H → SqL K H a xs)
    (hs : ∀ i x H, xs[i]? = some x → Pv i H → g x σ H fun σ2 H4 => Ext σ σ2 ∧ tt σ2 H4 fun b H5 =>
      if b = true then te σ2 H5 fun y H6 => ∃ zs, H6 acc = some (.lst zs) ∧ zs.length < sizeLine ∧ Pv (i + 1) (upd H6 acc (.lst (zs ++ [y]))) else Pv (i + 1) H5) (hd : ∀ H, Pv xs.length H → R H) :
    ∃ W : Nat → Nat → Hp → Prop, (∃ m, W 0 m (upd H acc (.lst []))) ∧ ∀ i m H2, W i m H2 →
      ((Itl K a).stop i H2 ∧ R H2) ∨ ((Itl K a).go i H2 ∧ ∃ N : Hp → Prop, (∀ H', N H' → ∃ m', m' < m ∧ W (i + 1) m' H') ∧ ∀ x H3, (Itl K a).yld i H2 x H3 → g x σ H3 fun σ2 H4 => Ext σ σ2 ∧ tt σ2 H4 fun b H5 =>
        if b = true then te σ2 H5 fun y H6 => ∃ zs, H6 acc = some (.lst zs) ∧ zs.length < sizeLine ∧ N (upd H6 acc (.lst (zs ++ [y])))
        else N H5) := by
  refine ⟨fun i m H => m = xs.length - i ∧ i ≤ xs.length ∧ Pv i H, ⟨xs.length, by simp, Nat.zero_le _, h0⟩, ?_⟩
  rintro i m H2 ⟨rfl, hi, p⟩
  have q := hl i H2 hi p
  by_cases hlt : i < xs.length
  · refine .inr ⟨⟨xs, xs[i], q, by simp [hlt]⟩, Pv (i + 1), fun H' p' => ⟨xs.length - (i + 1), by omega, rfl, hlt, p'⟩, fun x H' y => ?_⟩
    obtain ⟨e, y⟩ := y
    subst e
    exact hs i x _ (y xs q) p
  · have e : i = xs.length := by omega
    subst e
    exact .inl ⟨⟨xs, q, Nat.le_refl _⟩, hd H2 p⟩
end L2
set_option Elab.async false
set_option linter.all false
set_option maxRecDepth 100000
set_option maxHeartbeats 4000000
namespace L2
open PySem PySem.Spec PyProof.Rows
section
variable {prog : Program} {w : World}
open AutoSeq1 (wpAny_loadPart')
open MeetsSeq MeetsSeq2 MeetsSeq3 SeqAt
end
end L2
set_option Elab.async false
set_option linter.all false
set_option maxRecDepth 100000
set_option maxHeartbeats 1000000
namespace L2
open PySem PySem.Spec PyProof.Rows
section
variable {X : Cx}
theorem ps_comp {elt tg iter : Expr} {y : Str} {py spos : Pos} {jj : Nat} {ifs : List Expr} {sc : Scope} {pos : Pos} {wi : TI} {g : TG} {tt : TT} {te : TE} (N : List Str) (cap : List (Option Nat)) (hc : X.calm = true) (hi : PI X tg iter wi)
    (hg : ∀ cl s H C ex, PG (X.block sc cl N s H C ex) tg g) (ht : ∀ cl s H C ex, PTs (X.block sc cl N s H C ex) ifs tt) (he : ∀ cl s H C ex, PE (X.block sc cl N s H C ex) elt te)
    (hk : sc.kind = .function) (nc : ∀ y ∈ sc.names, y.2 ≠ .cell) (hnames : ∀ y ∈ sc.names, y.2 = .local → sc.names.lookup y.1 = some .local)
    (hfree : ∀ n, (n, NameKind.free) ∈ sc.names → X.env.kindOf n = some .cell)
    (hcap : ∀ (i j : Nat), cap[i]? = some (some j) → ∃ x, N[i]? = some x ∧ X.N[j]? = some x ∧ sc.names.lookup x = some .free) (hlen : cap.length = N.length)
    (hN : X.N.Nodup) (hjj : X.N[jj]? = some y) (hxx : Loc X.env.scope y) (hf : X.fn y = true ∨ X.env.scope.names.lookup y = some .local)
    (hsw : swapsWith (.ListComp elt [⟨tg, iter, ifs, 0⟩] sc pos) (some (.Name y py)) spos.line X.env = pure true)
    (hs : ∀ x, foldedSetIterable iter X.env x = pure x := by intro _; rfl) : PS X (.Assign [.Name y py] (.ListComp elt [⟨tg, iter, ifs, 0⟩] sc pos) spos) (tAsg (tComp cap wi g tt te) (gName jj)) := by
  intro pins s σ H D I h
  obtain ⟨cl, hclos, c1, c2⟩ := closure_of (sc := sc) (env := X.env) fun n hn => I.ok.has n (.inl (hfree n hn))
  rw [exec_Assign_Name_used _ _ _ _ hsw]; refine wpAny_bind (wpAny_standAt (wpAny_bind ?_)); show wpAny _ X.A (do let _ ← comprehension (.ListComp elt [⟨tg, iter, ifs, 0⟩] sc pos) sc X.env _ (newList []) false (eval iter X.env) (some (assign (.Name y py) X.env))) _ _ s
  refine wpAny_bind (wpAny_mono (wpAny_comprehension_free (use := some (assign (.Name y py) X.env)) (Q := fun _ s' => SP X pins D .next s') rfl hs hclos hk hnames ?_) (fun _ s' hq => wpAny_pure (wpAny_pure hq)) fun _ _ e => e)
  refine thn (hi pins s σ H _ I h) fun v s1 h1 => thn h1 fun itv s2 h2 => ?_
  obtain ⟨it, fp, tn, J, H2, e, I2, T, st2, f2, q2⟩ := h2
  subst e
  have hfr : H2 s2.heap.objs.size = none := I2.fresh
  obtain ⟨W, ⟨m0, w0⟩, turn⟩ := q2 s2.heap.objs.size hfr
  have I3 := I2.lnew (ys := []) (its := []) (t' := s2.toks) .nil (Nat.zero_le _)
  have hacc : H2 s2.heap.objs.size = none := hfr
  refine wpAny_newObj_type (wpAny_newFunctionEnv nc (by intro y hy; simp at hy) (fun h4 hns hsb => ?_) hk)
  generalize hs3 : ({ s2 with heap := s2.heap.push { cls := .type "list", data := .seq ([] : List Value).toArray } } : Shared) = s3 at hns hsb I3 ⊢
  have hheap : s3.heap = s2.heap.push { cls := .type "list", data := .seq ([] : List Value).toArray } := by rw [← hs3]
  generalize hH3 : upd H2 s2.heap.objs.size (.lst []) = H3 at I3 w0
  have up2 : ∀ b o, s2.heap.get? b = some o → s3.heap.get? b = some o := fun b o q => by rw [hheap]; exact Heap.get?_push_of_some _ q
  have neA : ∀ b ∈ fp, b ≠ s2.heap.objs.size := fun b hb => by
    obtain ⟨o, q, _⟩ := T.obj _ _ st2 b hb
    exact Nat.ne_of_lt (Heap.lt_size q)
  have f3 : ∀ b ∈ fp, FpOk X pins H3 b := fun b hb => ⟨by rw [← hH3, upd_ne (neA b hb)]; exact (f2 b hb).1, (f2 b hb).2⟩
  have o3 : ∀ b ∈ fp, ∃ o, s3.heap.get? b = some o := fun b hb => by
    obtain ⟨o, q, _⟩ := T.obj _ _ st2 b hb
    exact ⟨o, up2 b o q⟩
  have ok' := block_ok (N := N) (C := s3.heap.objs.size) I3 hk nc (Nat.le_refl _) f3 o3 c1 c2
  generalize hC : s3.heap.objs.size = C at hns hsb ok' ⊢
  have ltC : ∀ b o, s3.heap.get? b = some o → b ≠ C := fun b o q => by rw [← hC]; exact Nat.ne_of_lt (Heap.lt_size q)
  have up4 : ∀ b o, s3.heap.get? b = some o → h4.get? b = some o := fun b o q => hsb.extBut b o (ltC b o q) (Heap.get?_push_of_some _ q)
  have st4 : tn 0 h4 := T.keep _ _ _ st2 fun b hb o q => up4 b o (up2 b o q)
  have I4 : Inv (X.block sc cl N s3 H3 C fp) [] (capSt cap σ) H3 { s3 with heap := h4, toks := s3.toks + ([] : List (Str × Value)).length } := by
    refine ⟨ok', rfl, I3.bare, Un.kept up4, ⟨_, hns, fun i x v e1 e2 e3 => ?_⟩, fun x c q => ?_, ?_, fun x c q => I3.freeC x c (c1 x c q), fun p hp => (nomatch hp), I3.hok.kept up4, ?_⟩
    · have ee : ∃ j, cap[i]? = some (some j) ∧ σ[j]? = some (some v) := by
        unfold capSt at e2
        rw [List.getElem?_map] at e2
        cases q : cap[i]? with
        | none => rw [q] at e2; cases e2
        | some o =>
          rw [q] at e2
          cases o with
          | none => cases e2
          | some j =>
            refine ⟨j, rfl, ?_⟩
            have e2' : some ((σ[j]?).join) = some (some v) := e2
            cases z : σ[j]? with
            | none => rw [z] at e2'; cases e2'
            | some o' =>
              rw [z] at e2'
              have e2'' : o' = some v := Option.some.inj e2'
              rw [e2'']
      obtain ⟨j, ej, es⟩ := ee
      obtain ⟨x', n1, n2, n3⟩ := hcap i j ej
      have e1' : N[i]? = some x := e1
      rw [n1] at e1'
      cases e1'
      have hfr' : (x, NameKind.free) ∈ sc.names := lookup_mem n3
      have kc := hfree x hfr'
      obtain ⟨m, _, hl⟩ := I3.loc
      obtain ⟨u, r, l⟩ := hl j x v n2 es (.inr (.inl kc))
      refine ⟨u, r, ?_⟩
      rcases l with ⟨l, _⟩ | ⟨_, c, ec, z⟩
      · rw [kc] at l; cases l
      · obtain ⟨c', ec'⟩ := c2 x hfr'
        have := c1 x c' ec'
        rw [ec] at this
        cases this
        obtain ⟨oc, q1, q2⟩ := z
        exact .inr ⟨lookup_relabel_free (sc := sc) n3, c, ec', oc, up4 _ _ q1, q2⟩
    · obtain ⟨v, oc, q1, q2⟩ := I3.cell x c (c1 x c q)
      exact ⟨v, oc, up4 _ _ q1, q2⟩
    · exact I3.hok.fresh (by rw [hC]; exact Nat.le_refl _)
    · show (capSt cap σ).length = N.length
      unfold capSt
      rw [List.length_map, hlen]
  have loop : codeAny (model X.prog X.w) X.A (.compLoop (.ListComp elt [⟨tg, iter, ifs, 0⟩] sc pos) 0 (.ref it) (.ref s2.heap.objs.size) (compEnvC sc cl C X.env)) (compPost (model X.prog X.w) X.A X.xe (some (assign (.Name y py) X.env)) (fun _ s' => SP X pins D .next s') (.ref s2.heap.objs.size) C)
      { s3 with heap := h4, toks := s3.toks + ([] : List (Str × Value)).length } := by
    have stat : ∀ {H' : Hp}, (∀ b ∈ fp, H' b = none) → ∀ b ∈ fp, FpOk (X.block sc cl N s3 H3 C fp) [] H' b := fun hn b hb =>
      ⟨hn b hb, (ok'.exf b hb).1, ok'.exfs b hb, .inl hb, (ok'.exf b hb).2, fun p hp => (nomatch hp)⟩
    refine comp_loop (fun n s' => ∃ i H', Inv (X.block sc cl N s3 H3 C fp) [] (capSt cap σ) H' s' ∧ tn i s'.heap ∧ (∀ b ∈ fp, H' b = none) ∧ W i n H') ?_ m0 ⟨0, H3, I4, st4, fun b hb => (f3 b hb).1, w0⟩
    rintro n s5 ⟨i, H5, I5, st5, fr5, w5⟩
    rcases turn i n H5 w5 with ⟨stop, qn⟩ | ⟨go, N', hN', step⟩
    · refine thn (T.done (X.block sc cl N s3 H3 C fp) rfl rfl rfl hc i [] s5 _ H5 NoX I5 (stat fr5) st5 stop) fun r s6 ⟨hr, I6⟩ => ?_
      subst hr
      obtain ⟨m, hm, _⟩ := I6.loc
      have I7 : Inv X pins σ H5 s6 := by
        refine I3.call' (s' := s6) (ch := fp) I6.os I6.base I6.hok I6.bare fun b hb => ?_
        obtain ⟨g0, g1, g2, g3, g4, g5⟩ := f3 b hb
        exact ⟨g3, g1, g4, g5⟩
      have hCl : X.env.locals ≠ C := by
        obtain ⟨_, hn3, _⟩ := I3.loc
        rw [← hC]
        exact Nat.ne_of_lt hn3.lt
      have hCc : ∀ x c, X.env.cells.lookup x = some c → c ≠ C := fun x c q => by
        obtain ⟨v, oc, q1, q2⟩ := I3.cell x c q
        exact ltC _ _ q1
      refine wpAny_assign_Name (store_ok2 I7 hN hjj hxx (v := .ref s2.heap.objs.size) rfl (fun s9 I9 ⟨a9, sb9, ha9⟩ => ?_) hf)
      have hCa : a9 ≠ C := by
        rcases ha9 with rfl | z
        · exact hCl
        · exact hCc _ _ z
      refine ⟨m, hm.sameBut sb9 (Ne.symm hCa), fun h' sb => ⟨_, H5, ?_, qn⟩⟩
      refine I9.call' (s' := { s9 with heap := h' }) (ch := [C]) rfl ?_ (I9.hok.but I6.free sb) I9.bare fun b hb => ?_
      · have st : ∀ b o, s9.heap.get? b = some o → b ∉ [C] → h'.get? b = some o := fun b o q hx => (sb.2 b (fun z => hx (by rw [z]; exact List.mem_singleton.mpr rfl))).trans q
        exact ⟨fun b o q _ _ hx => st b o q hx, fun b o q _ _ hx => ⟨o.slots, st b o q hx⟩, fun b o q n _ => n, fun b o q hx => ⟨o, st b o q hx⟩, fun _ _ q => q, fun _ _ _ q => q, fun b ps q => ⟨#[], by simpa using q⟩⟩
      · rw [List.mem_singleton.mp hb]
        exact ⟨.inr (by rw [← hC]; exact I3.sz), Ne.symm hCl, hCc, fun p hp => ltC _ _ (I3.pin p hp).1⟩
    · refine thn (T.item (X.block sc cl N s3 H3 C fp) rfl rfl rfl hc i [] s5 _ H5 NoX I5 (stat fr5) st5 go) fun r s6 ⟨u, hr, h6⟩ => ?_
      subst hr
      refine thn h6 fun _ s7 ⟨x, H7, I7, r7, y7, st7, fr7⟩ => ?_
      have I7' := I7.pinned (stat fr7) (T.obj _ _ st7)
      have again : ∀ {σ8 : St} {H8 : Hp} {s8 : Shared}, Inv (X.block sc cl N s3 H3 C fp) ([] ++ pinsAt fp s7.heap) σ8 H8 s8 → Ext (capSt cap σ) σ8 → N' H8 →
          ∃ m, m < n ∧ ∃ i H', Inv (X.block sc cl N s3 H3 C fp) [] (capSt cap σ) H' s8 ∧ tn i s8.heap ∧ (∀ b ∈ fp, H' b = none) ∧ W i m H' := fun {σ8 H8 s8} I8 ex n8 => by
        obtain ⟨m', hm, w8⟩ := hN' H8 n8
        have I8' := I8.unpinned.weak ex.len ex.get
        refine ⟨m', hm, i + 1, H8, I8', T.keep _ _ _ st7 fun b hb o q => (I8.pin (b, o) (List.mem_append_right _ (List.mem_append_right _ (mem_pinsAt hb q)))).1, fun b hb => ?_, w8⟩
        obtain ⟨o, q, d⟩ := T.obj _ _ st7 b hb
        exact (I8.pin (b, o) (List.mem_append_right _ (List.mem_append_right _ (mem_pinsAt hb q)))).2.1
      refine thn (hg cl s3 H3 C fp _ s7 _ H7 x u _ I7' r7 (step x H7 y7)) fun _ s8 ⟨σ8, H8, I8, ex8, q8⟩ => ?_
      refine thn (ht cl s3 H3 C fp _ s8 σ8 H8 _ I8 q8) fun b s9 ⟨H9, I9, q9⟩ => ?_
      cases b with
      | false => exact again I9 ex8 q9
      | true =>
        rw [if_pos rfl] at q9 ⊢
        refine thn (he cl s3 H3 C fp _ s9 σ8 H9 _ I9 q9) fun yv s10 ⟨y, H10, I10, r10, zs, e10, l10, q10⟩ => ?_
        refine thn (mt_append (X := X.block sc cl N s3 H3 C fp) _ s10 σ8 H10 (.ref s2.heap.objs.size) [y] (.ref s2.heap.objs.size) [yv] (fun _ H' => N' H') I10 rfl (.cons r10 .nil) ⟨_, zs, y, rfl, rfl, e10, l10, q10⟩) fun _ s11 ⟨_, H11, I11, _, q11⟩ => ?_
        exact again I11 ex8 q11
  exact codeAny_compStart_list loop (T.self X.A 0 _ _ _ st4 loop)
theorem ps_compB {elt tg iter : Expr} {y : Str} {py spos : Pos} {jj : Nat} {ifs : List Expr} {sc : Scope} {pos : Pos} {wi : TI} {g : TG} {tt : TT} {te : TE} (N : List Str) (cap : List (Option Nat)) (hc : X.calm = true) (hi : PI X tg iter wi)
    (hg : ∀ cl s H C ex, PG (X.block sc cl N s H C ex) tg g) (ht : ∀ cl s H C ex, PTs (X.block sc cl N s H C ex) ifs tt) (he : ∀ cl s H C ex, PE (X.block sc cl N s H C ex) elt te)
    (ck : compCk sc X.env X.N N cap = true) (hN : X.N.Nodup) (hjj : X.N[jj]? = some y) (hxx : Loc X.env.scope y) (hf : X.fn y = true ∨ X.env.scope.names.lookup y = some .local)
    (hsw : swapsWith (.ListComp elt [⟨tg, iter, ifs, 0⟩] sc pos) (some (.Name y py)) spos.line X.env = pure true := by rfl) (hs : ∀ x, foldedSetIterable iter X.env x = pure x := by intro _; rfl) : PS X (.Assign [.Name y py] (.ListComp elt [⟨tg, iter, ifs, 0⟩] sc pos) spos) (tAsg (tComp cap wi g tt te) (gName jj)) := by
  unfold compCk at ck
  simp only [Bool.and_eq_true] at ck
  obtain ⟨⟨⟨⟨⟨k1, k2⟩, k3⟩, k4⟩, k5⟩, k6⟩ := ck
  refine ps_comp N cap hc hi hg ht he (by simpa using k1) (fun y hy => ?_) (fun y hy z => ?_) (fun n hn => ?_) (fun i j e => ?_) (by simpa using k6) hN hjj hxx hf hsw hs
  · have := List.all_eq_true.mp k2 y hy
    simpa using this
  · have := List.all_eq_true.mp k3 y hy
    rw [z] at this
    simpa using this
  · have := List.all_eq_true.mp k4 _ hn
    simpa using this
  · have hi : i < cap.length := (List.getElem?_eq_some_iff.mp e).1
    have := List.all_eq_true.mp k5 i (List.mem_range.mpr hi)
    rw [e] at this
    dsimp only at this
    cases q : N[i]? with
    | none => rw [q] at this; cases this
    | some x =>
      rw [q] at this
      dsimp only at this
      rw [Bool.and_eq_true] at this
      exact ⟨x, rfl, by simpa using this.1, by simpa using this.2⟩
end
end L2
set_option Elab.async false
set_option linter.all false
set_option maxRecDepth 100000
set_option maxHeartbeats 4000000
namespace L2
open PySem PySem.Spec PyProof.Rows
inductive Dt where
  | int (i : Int) | str (x : Str) | tup (ds : List Dt)
mutual
def Dt.beq : Dt → Dt → Bool
  | .int i, .int j => decide (i = j)
  | .str x, .str y => decide (x = y)
  | .tup ds, .tup es => Dt.beqs ds es
  | _, _ => false
def Dt.beqs : List Dt → List Dt → Bool
  | [], [] => true
  | d :: ds, e :: es => Dt.beq d e && Dt.beqs ds es
  | _, _ => false
end
mutual
theorem Dt.beq_iff : ∀ {d e : Dt}, Dt.beq d e = true ↔ d = e
  | .int i, .int j => by simp [Dt.beq]
  | .str x, .str y => by simp [Dt.beq]
  | .tup ds, .tup es => by
    have := Dt.beqs_iff (ds := ds) (es := es)
    simp [Dt.beq, this]
  | .int _, .str _ => by simp [Dt.beq]
  | .int _, .tup _ => by simp [Dt.beq]
  | .str _, .int _ => by simp [Dt.beq]
  | .str _, .tup _ => by simp [Dt.beq]
  | .tup _, .int _ => by simp [Dt.beq]
  | .tup _, .str _ => by simp [Dt.beq]
theorem Dt.beqs_iff : ∀ {ds es : List Dt}, Dt.beqs ds es = true ↔ ds = es
  | [], [] => by simp [Dt.beqs]
  | [], _ :: _ => by simp [Dt.beqs]
  | _ :: _, [] => by simp [Dt.beqs]
  | d :: ds, e :: es => by
    have h1 := Dt.beq_iff (d := d) (e := e)
    have h2 := Dt.beqs_iff (ds := ds) (es := es)
    simp [Dt.beqs, h1, h2]
end
mutual
def Dt.deep : Dt → Nat
  | .tup ds => Dt.deeps ds + 1
  | _ => 0
def Dt.deeps : List Dt → Nat
  | [] => 0
  | d :: ds => max (Dt.deep d) (Dt.deeps ds)
end
mutual
inductive DR (H : Hp) : Dt → V → Prop
  | int (i : Int) : DR H (.int i) (.int i)
  | str (x : Str) : DR H (.str x) (.str x)
  | tup {a : Addr} {xs : List V} {ds : List Dt} : H a = some (.tup xs) → DRs H ds xs → DR H (.tup ds) (.ref a)
inductive DRs (H : Hp) : List Dt → List V → Prop
  | nil : DRs H [] []
  | cons {d : Dt} {v : V} {ds : List Dt} {vs : List V} : DR H d v → DRs H ds vs → DRs H (d :: ds) (v :: vs)
end
mutual
theorem DR.mono {H H' : Hp} (k : Tk H H') : ∀ {d : Dt} {v : V}, DR H d v → DR H' d v
  | _, _, .int i => .int i
  | _, _, .str x => .str x
  | _, _, .tup h r => .tup (k _ _ h) (DRs.mono k r)
theorem DRs.mono {H H' : Hp} (k : Tk H H') : ∀ {ds : List Dt} {vs : List V}, DRs H ds vs → DRs H' ds vs
  | _, _, .nil => .nil
  | _, _, .cons r t => .cons (DR.mono k r) (DRs.mono k t)
end
theorem DRs.length {H : Hp} : ∀ {ds : List Dt} {vs : List V}, DRs H ds vs → ds.length = vs.length
  | _, _, .nil => rfl
  | _, _, .cons _ t => congrArg (· + 1) t.length
mutual
theorem DR.inj {H : Hp} : ∀ {d e : Dt} {v : V}, DR H d v → DR H e v → d = e
  | _, _, _, .int _, .int _ => rfl
  | _, _, _, .str _, .str _ => rfl
  | _, _, _, .tup h r, .tup h' r' => by
    rw [h] at h'
    cases h'
    rw [DRs.inj r r']
theorem DRs.inj {H : Hp} : ∀ {ds es : List Dt} {vs : List V}, DRs H ds vs → DRs H es vs → ds = es
  | _, _, _, .nil, .nil => rfl
  | _, _, _, .cons r t, .cons r' t' => by rw [DR.inj r r', DRs.inj t t']
end
theorem DRs.get {H : Hp} : ∀ {ds : List Dt} {vs : List V} {j : Nat} {v : V}, DRs H ds vs → vs[j]? = some v → ∃ d, ds[j]? = some d ∧ DR H d v
  | _, _, _, _, .nil, e => by simp at e
  | _, _, 0, _, .cons r _, e => by simp at e; subst e; exact ⟨_, rfl, r⟩
  | _, _, j + 1, v, .cons _ t, e => by
    obtain ⟨d, h1, h2⟩ := DRs.get (j := j) (v := v) t (by simpa using e)
    exact ⟨d, by simpa using h1, h2⟩
theorem deep_get : ∀ {ds : List Dt} {j : Nat} {d : Dt}, ds[j]? = some d → d.deep ≤ Dt.deeps ds
  | [], _, _, h => by simp at h
  | e :: ds, 0, d, h => by simp at h; subst h; simp [Dt.deeps]; omega
  | e :: ds, j + 1, d, h => by
    have := deep_get (ds := ds) (j := j) (d := d) (by simpa using h)
    simp [Dt.deeps]; omega
theorem beqs_all : ∀ (ds es : List Dt), Dt.beqs ds es = ((List.range (min ds.length es.length)).all (fun j => match ds[j]?, es[j]? with | some d, some e => Dt.beq d e | _, _ => false) && ds.length == es.length) := by
  intro ds es
  rw [Bool.eq_iff_iff, Dt.beqs_iff, Bool.and_eq_true, List.all_eq_true]
  constructor
  · rintro rfl
    refine ⟨fun j hj => ?_, by simp⟩
    have hj' : j < ds.length := by simpa using List.mem_range.mp hj
    simp [List.getElem?_eq_getElem hj', Dt.beq_iff]
  · rintro ⟨h, hl⟩
    have hl' : ds.length = es.length := by simpa using hl
    refine List.ext_getElem hl' fun j h1 h2 => ?_
    have := h j (List.mem_range.mpr (by omega))
    simpa [List.getElem?_eq_getElem h1, List.getElem?_eq_getElem h2, Dt.beq_iff] using this
section
variable {X : Cx} {pins : List (Addr × Obj)} {σ : St} {H : Hp} {s : Shared}
theorem eqAt_DR (I : Inv X pins σ H s) : ∀ (n : Nat) (A : Around) {d e : Dt} {v z : V} {u y : Value}, d.deep ≤ n → DR H d v → DR H e z → RelV v u → RelV z y → A.units + n < cLine → SeqAt.EqAt A s u y (Dt.beq d e) := by
  intro n
  induction n with
  | zero =>
    intro A d e v z u y hn rd re ru ry hu
    cases rd with
    | int i =>
      obtain ⟨t, rfl⟩ := ru
      cases re with
      | int j => obtain ⟨t', rfl⟩ := ry; rw [show Dt.beq (.int i) (.int j) = (i == j) by simp [Dt.beq, Bool.beq_eq_decide_eq]]; exact SeqAt.EqAt.int_int i t j t'
      | str x => obtain ⟨t', rfl⟩ := ry; exact SeqAt.EqAt.int_str i t x t'
      | tup h r =>
        cases ry
        obtain ⟨its, rv, p, _⟩ := I.tuple (SqT.of h)
        exact SeqAt.EqAt.int_tuple i t (show s.heap.IsTuple _ its.toArray from p) (by omega)
    | str x =>
      obtain ⟨t, rfl⟩ := ru
      cases re with
      | int j => obtain ⟨t', rfl⟩ := ry; exact SeqAt.EqAt.str_int x t j t'
      | str w' => obtain ⟨t', rfl⟩ := ry; rw [show Dt.beq (.str x) (.str w') = (x == w') by simp [Dt.beq, Bool.beq_eq_decide_eq]]; exact SeqAt.EqAt.str_str x t w' t'
      | tup h r =>
        cases ry
        obtain ⟨its, rv, p, _⟩ := I.tuple (SqT.of h)
        exact SeqAt.EqAt.str_tuple x t (show s.heap.IsTuple _ its.toArray from p) (by omega)
    | tup h r => simp [Dt.deep] at hn
  | succ n ih =>
    intro A d e v z u y hn rd re ru ry hu
    cases rd with
    | int i =>
      obtain ⟨t, rfl⟩ := ru
      cases re with
      | int j => obtain ⟨t', rfl⟩ := ry; rw [show Dt.beq (.int i) (.int j) = (i == j) by simp [Dt.beq, Bool.beq_eq_decide_eq]]; exact SeqAt.EqAt.int_int i t j t'
      | str x => obtain ⟨t', rfl⟩ := ry; exact SeqAt.EqAt.int_str i t x t'
      | tup h r =>
        cases ry
        obtain ⟨its, rv, p, _⟩ := I.tuple (SqT.of h)
        exact SeqAt.EqAt.int_tuple i t (show s.heap.IsTuple _ its.toArray from p) (by omega)
    | str x =>
      obtain ⟨t, rfl⟩ := ru
      cases re with
      | int j => obtain ⟨t', rfl⟩ := ry; exact SeqAt.EqAt.str_int x t j t'
      | str w' => obtain ⟨t', rfl⟩ := ry; rw [show Dt.beq (.str x) (.str w') = (x == w') by simp [Dt.beq, Bool.beq_eq_decide_eq]]; exact SeqAt.EqAt.str_str x t w' t'
      | tup h r =>
        cases ry
        obtain ⟨its, rv, p, _⟩ := I.tuple (SqT.of h)
        exact SeqAt.EqAt.str_tuple x t (show s.heap.IsTuple _ its.toArray from p) (by omega)
    | @tup a xs ds ha rs =>
      cases ru
      obtain ⟨its, rv, p, _⟩ := I.tuple (SqT.of ha)
      have hn' : Dt.deeps ds ≤ n := by simpa [Dt.deep] using hn
      cases re with
      | int j => obtain ⟨t', rfl⟩ := ry; exact SeqAt.EqAt.tuple_int j t' (show s.heap.IsTuple _ its.toArray from p) (by omega)
      | str w' => obtain ⟨t', rfl⟩ := ry; exact SeqAt.EqAt.tuple_str w' t' (show s.heap.IsTuple _ its.toArray from p) (by omega)
      | @tup b ys es hb rs' =>
        cases ry
        by_cases hab : a = b
        · subst hab
          rw [ha] at hb
          cases hb
          have : ds = es := DRs.inj rs rs'
          subst this
          rw [show Dt.beq (.tup ds) (.tup ds) = true from Dt.beq_iff.mpr rfl]
          exact SeqAt.EqAt.same _
        · obtain ⟨its2, rv2, p2, _⟩ := I.tuple (SqT.of hb)
          refine SeqAt.EqAt.of_refs hab ?_
          have l1 := rv.length
          have l2 := rv2.length
          have m1 := rs.length
          have m2 := rs'.length
          have key := SeqAt.RcAt.tuples (A := A) (s := s) (e := fun j => match ds[j]?, es[j]? with | some d, some e => Dt.beq d e | _, _ => false) (show s.heap.IsTuple _ its.toArray from p) (show s.heap.IsTuple _ its2.toArray from p2) (by omega) fun j h1 h2 => by
            have g1 : j < xs.length := by rw [l1]; simpa using h1
            have g2 : j < ys.length := by rw [l2]; simpa using h2
            obtain ⟨u1, eu, r1⟩ := rv.get (List.getElem?_eq_getElem g1)
            obtain ⟨u2, ev, r2⟩ := rv2.get (List.getElem?_eq_getElem g2)
            obtain ⟨d1, ed, rd1⟩ := rs.get (List.getElem?_eq_getElem g1)
            obtain ⟨d2, ed2, rd2⟩ := rs'.get (List.getElem?_eq_getElem g2)
            have e1 : its.toArray[j] = u1 := by obtain ⟨_, q⟩ := List.getElem?_eq_some_iff.mp eu; simpa using q
            have e2 : its2.toArray[j] = u2 := by obtain ⟨_, q⟩ := List.getElem?_eq_some_iff.mp ev; simpa using q
            simp only [ed, ed2, e1, e2]
            exact ih A.in1 (Nat.le_trans (deep_get ed) hn') rd1 rd2 r1 r2 (by rw [show A.in1.units = A.units + 1 from rfl]; omega)
          have ez : Dt.beq (.tup ds) (.tup es) = ((List.range (min its.toArray.size its2.toArray.size)).all (fun j => match ds[j]?, es[j]? with | some d, some e => Dt.beq d e | _, _ => false) && its.toArray.size == its2.toArray.size) := by
            rw [show Dt.beq (.tup ds) (.tup es) = Dt.beqs ds es by simp [Dt.beq], beqs_all]
            have a1 : its.toArray.size = ds.length := by simp; omega
            have a2 : its2.toArray.size = es.length := by simp; omega
            rw [a1, a2]
          rw [ez]
          exact key
def rEqD (neg : Bool) : R2 := fun x y H Q => ∃ (ds es : List Dt), DR H (.tup ds) x ∧ DR H (.tup es) y ∧ (Dt.tup ds).deep ≤ 150 ∧ Q (.bl (if neg then !Dt.beqs ds es else Dt.beqs ds es)) H
theorem eqD_parts (I : Inv X pins σ H s) {a b : Addr} {ds es : List Dt} (hd : DR H (.tup ds) (.ref a)) (he : DR H (.tup es) (.ref b)) (hdeep : (Dt.tup ds).deep ≤ 150) (hu : X.A.units + 150 < cLine) :
    ∃ its its2 : List Value, s.heap.IsTuple a its.toArray ∧ s.heap.IsTuple b its2.toArray ∧ its.toArray.size = ds.length ∧ its2.toArray.size = es.length ∧
      ∀ j (h1 : j < its.toArray.size) (h2 : j < its2.toArray.size), SeqAt.EqAt X.A.in1 s its.toArray[j] its2.toArray[j] ((fun j => match ds[j]?, es[j]? with | some d, some e => Dt.beq d e | _, _ => false) j) := by
  cases hd with
  | @tup _ xs _ ha rs =>
    cases he with
    | @tup _ ys _ hb rs' =>
      obtain ⟨its, rv, p, _⟩ := I.tuple (SqT.of ha)
      obtain ⟨its2, rv2, p2, _⟩ := I.tuple (SqT.of hb)
      have l1 := rv.length
      have l2 := rv2.length
      have m1 := rs.length
      have m2 := rs'.length
      refine ⟨its, its2, p, p2, by simp; omega, by simp; omega, fun j h1 h2 => ?_⟩
      have g1 : j < xs.length := by rw [l1]; simpa using h1
      have g2 : j < ys.length := by rw [l2]; simpa using h2
      obtain ⟨u1, eu, r1⟩ := rv.get (List.getElem?_eq_getElem g1)
      obtain ⟨u2, ev, r2⟩ := rv2.get (List.getElem?_eq_getElem g2)
      obtain ⟨d1, ed, rd1⟩ := rs.get (List.getElem?_eq_getElem g1)
      obtain ⟨d2, ed2, rd2⟩ := rs'.get (List.getElem?_eq_getElem g2)
      have e1 : its.toArray[j] = u1 := by obtain ⟨_, q⟩ := List.getElem?_eq_some_iff.mp eu; simpa using q
      have e2 : its2.toArray[j] = u2 := by obtain ⟨_, q⟩ := List.getElem?_eq_some_iff.mp ev; simpa using q
      simp only [ed, ed2, e1, e2]
      have dd : Dt.deeps ds + 1 ≤ 150 := by simpa [Dt.deep] using hdeep
      exact eqAt_DR I 149 X.A.in1 (Nat.le_trans (deep_get ed) (by omega)) rd1 rd2 r1 r2 (by rw [show X.A.in1.units = X.A.units + 1 from rfl]; omega)
theorem op_eqD (hu : X.A.units + 150 < cLine) : OpR X (compareOp .Eq) (rEqD false) := by
  intro pins s σ H x y v u Q I rx ry h
  obtain ⟨ds, es, hd, he, hdeep, q⟩ := h
  obtain ⟨a, rfl⟩ : ∃ a, x = .ref a := by cases hd; exact ⟨_, rfl⟩
  obtain ⟨b, rfl⟩ : ∃ b, y = .ref b := by cases he; exact ⟨_, rfl⟩
  cases rx
  cases ry
  obtain ⟨its, its2, p, p2, z1, z2, hall⟩ := eqD_parts I hd he hdeep hu
  refine SeqAt.eq_tupleAt p p2 (by omega) hall ?_
  rw [z1, z2, ← beqs_all]
  exact ⟨.bl (Dt.beqs ds es), H, I, rfl, by simpa using q⟩
theorem op_neD (hu : X.A.units + 150 < cLine) : OpR X (compareOp .NotEq) (rEqD true) := by
  intro pins s σ H x y v u Q I rx ry h
  obtain ⟨ds, es, hd, he, hdeep, q⟩ := h
  obtain ⟨a, rfl⟩ : ∃ a, x = .ref a := by cases hd; exact ⟨_, rfl⟩
  obtain ⟨b, rfl⟩ : ∃ b, y = .ref b := by cases he; exact ⟨_, rfl⟩
  cases rx
  cases ry
  obtain ⟨its, its2, p, p2, z1, z2, hall⟩ := eqD_parts I hd he hdeep hu
  refine SeqAt.RcNeAt.tuples p p2 (by omega) hall _ _ _ _ ?_
  rw [z1, z2, ← beqs_all]
  exact ⟨.bl (!Dt.beqs ds es), H, I, rfl, by simpa using q⟩
theorem hu150 {k : Nat} {A : Around} (hr : Room k A) : A.units + 150 < cLine := by have := hr.un; omega
end
end L2
set_option Elab.async false
set_option linter.all false
set_option maxRecDepth 100000
set_option maxHeartbeats 4000000
namespace L2
open PySem PySem.Spec PyProof.Rows
section
variable {prog : Program} {w : World} {A : Around} {E : Value → Shared → Prop} {s : Shared}
end
section
variable {prog : Program} {w : World} {A : Around} {E : Value → Shared → Prop} {s : Shared}
end
end L2
set_option Elab.async false
set_option linter.all false
set_option maxRecDepth 100000
set_option maxHeartbeats 4000000
namespace L2
open PySem PySem.Spec PyProof.Rows
end L2
set_option Elab.async false
set_option linter.all false
set_option maxRecDepth 100000
set_option maxHeartbeats 4000000
namespace L2
open PySem PySem.Spec PyProof.Rows
theorem comp_tupR {K : PySem.W.Frag} {a : Addr} {xs : List V} {acc : Addr} {g : TG} {tt : TT} {te : TE} {σ : L2.St} {H : Hp} {R : Hp → Prop} (Pv : Nat → Hp → Prop) (h0 : Pv 0 (upd H acc (.lst []))) (hl : ∀ i H, i ≤ xs.length → Pv i H → SqT K H a xs)
    (hs : ∀ i x H, xs[i]? = some x → Pv i H → g x σ H fun σ2 H4 => Ext σ σ2 ∧ tt σ2 H4 fun b H5 =>
      if b = true then te σ2 H5 fun y H6 => ∃ zs, H6 acc = some (.lst zs) ∧ zs.length < sizeLine ∧ Pv (i + 1) (upd H6 acc (.lst (zs ++ [y]))) else Pv (i + 1) H5) (hd : ∀ H, Pv xs.length H → R H) :
    ∃ W : Nat → Nat → Hp → Prop, (∃ m, W 0 m (upd H acc (.lst []))) ∧ ∀ i m H2, W i m H2 →
      ((Itt K a).stop i H2 ∧ R H2) ∨ ((Itt K a).go i H2 ∧ ∃ N : Hp → Prop, (∀ H', N H' → ∃ m', m' < m ∧ W (i + 1) m' H') ∧ ∀ x H3, (Itt K a).yld i H2 x H3 → g x σ H3 fun σ2 H4 => Ext σ σ2 ∧ tt σ2 H4 fun b H5 =>
        if b = true then te σ2 H5 fun y H6 => ∃ zs, H6 acc = some (.lst zs) ∧ zs.length < sizeLine ∧ N (upd H6 acc (.lst (zs ++ [y])))
        else N H5) := by
  refine ⟨fun i m H => m = xs.length - i ∧ i ≤ xs.length ∧ Pv i H, ⟨xs.length, by simp, Nat.zero_le _, h0⟩, ?_⟩
  rintro i m H2 ⟨rfl, hi, p⟩
  have q := hl i H2 hi p
  by_cases hlt : i < xs.length
  · refine .inr ⟨⟨xs, xs[i], q, by simp [hlt]⟩, Pv (i + 1), fun H' p' => ⟨xs.length - (i + 1), by omega, rfl, hlt, p'⟩, fun x H' y => ?_⟩
    obtain ⟨e, y⟩ := y
    subst e
    exact hs i x _ (y xs q) p
  · have e : i = xs.length := by omega
    subst e
    exact .inl ⟨⟨xs, q, Nat.le_refl _⟩, hd H2 p⟩
theorem pg_tupK {X : Cx} {K : PySem.W.Frag} {es : List Expr} {k : Nat} {t : TGs} {n : Nat} {pos : Pos} (hK : X.K = K) (hc : X.calm = true) (h : PGs X es t)
    (hn : (assignEach es X.env).length = n := by rfl) (hst : (assignEach es X.env).findIdx? (·.1) = none := by rfl) : PG X (.Tuple es k pos) (gTup K n t) := hK ▸ pg_tup hc h hn hst
section
variable {X : Cx}
end
section
variable {X : Cx} {st : Stmt} {rest : List Stmt} {t u : TS} {e a b : Expr} {es : List Expr} {te ta tb : TE} {tA : TA} {pos : Pos}
end
end L2
set_option Elab.async false
set_option linter.all false
set_option maxRecDepth 100000
set_option maxHeartbeats 4000000
namespace L2
open PySem PySem.Spec PyProof.Rows
section
variable {prog : Program} {w : World} {A : Around} {E : Value → Shared → Prop} {s : Shared}
end
end L2
set_option Elab.async false
set_option linter.all false
namespace L2
open PySem PySem.Spec PyProof.Rows
section
variable {X : Cx}
end
section
variable {prog : Program} {w : World} {A : Around} {E : Value → Shared → Prop} {s : Shared}
end
end L2
set_option Elab.async false
set_option linter.all false
set_option maxRecDepth 100000
set_option maxHeartbeats 4000000
namespace L2
open PySem PySem.Spec PyProof.Rows
section
variable {X : Cx}
end
end L2
set_option Elab.async false
set_option linter.all false
set_option maxRecDepth 100000
set_option maxHeartbeats 4000000
namespace L2
open PySem PySem.Spec PyProof.Rows
section
variable {X : Cx}
open Classical in
noncomputable def eqW (H : Hp) (dx : Dt) (w : Value) : Bool := decide (∃ x d, RelV x w ∧ DR H d x ∧ Dt.beq d dx = true)
end
end L2
set_option linter.all false
set_option maxRecDepth 100000
set_option maxHeartbeats 4000000
namespace PySem
open Sem (wp)
namespace F
end F
section
variable {prog : Program} {w : World} {K : Type} [DecidableEq K] {knd : KeyKind prog w K} {A : Around} {R : Result → Shared → Prop} {E : Value → Shared → Prop}
end
end PySem
set_option Elab.async false
set_option linter.all false
set_option maxRecDepth 100000
set_option maxHeartbeats 4000000
namespace L2
open PySem PySem.Spec PyProof.Rows
section
variable {X : Cx}
end
end L2
set_option linter.all false
set_option maxRecDepth 100000
set_option maxHeartbeats 4000000
namespace L2
open PySem PySem.W PyProof.Rows
section
variable {n : Nat} {r : Nat → Nat → Bool}
abbrev lt (r : Nat → Nat → Bool) (p : Array Nat) (i j : Nat) : Bool := r (p.getD i 0) (p.getD j 0)
end
end L2
set_option linter.all false
set_option maxRecDepth 100000
set_option maxHeartbeats 4000000
namespace L2
end L2
namespace PySem
open PySem.Calls PyProof.Rows PySem.W L2
open AutoSeq1 (wpAny_loadPart')
end PySem
set_option linter.all false
set_option maxRecDepth 100000
set_option maxHeartbeats 4000000
namespace PySem
open PySem.Calls PyProof.Rows PySem.W L2
section
variable {prog : Program} {w : World} {A : Around} {E : Value → Shared → Prop} {s : Shared}
theorem snds_few : ∀ {vs : List Value}, vs.length < 2 → (vs.toArray.zip vs.toArray).map (·.2) = List.toArray ((List.toArray (List.range vs.length)).toList.map fun i => vs.getD i Value.none)
  | [], _ => by simp
  | [x], _ => by simp [List.range_succ]
  | _ :: _ :: _, h => by simp at h; omega
end
end PySem
set_option Elab.async false
set_option linter.all false
set_option maxRecDepth 100000
set_option maxHeartbeats 4000000
namespace L2
open PySem PySem.Spec PyProof.Rows PySem.W
section
variable {X : Cx}
end
end L2
set_option Elab.async false
set_option linter.all false
set_option maxRecDepth 100000
set_option maxHeartbeats 4000000
namespace PySem
open AutoSeq1
end PySem
namespace L2
open PySem PySem.Spec PyProof.Rows
section
variable {X : Cx}
end
end L2
set_option linter.all false
set_option maxRecDepth 100000
set_option maxHeartbeats 4000000
namespace L2
open PySem PySem.W PyProof.Rows
section
variable {n : Nat} {r : Nat → Nat → Bool}
end
end L2
set_option Elab.async false
set_option linter.all false
set_option maxRecDepth 100000
set_option maxHeartbeats 4000000
namespace L2
open PySem PySem.Spec PyProof.Rows PySem.W
instance : DecidableEq Dt := fun d e => decidable_of_iff (Dt.beq d e = true) Dt.beq_iff
theorem beq_dec (d e : Dt) : Dt.beq d e = decide (d = e) := by
  by_cases h : d = e
  · rw [decide_eq_true h]; exact Dt.beq_iff.mpr h
  · rw [decide_eq_false h]
    cases z : Dt.beq d e with
    | false => rfl
    | true => exact absurd (Dt.beq_iff.mp z) h
mutual
inductive DA (h : Heap) : Dt → Value → Prop
  | int (i : Int) (t : Tok) : DA h (.int i) (.int i t)
  | str (x : Str) (t : Tok) : DA h (.str x) (.str x t)
  | tup {a : Addr} {items : Array Value} {ds : List Dt} : h.IsTuple a items → DAs h ds items.toList → DA h (.tup ds) (.ref a)
inductive DAs (h : Heap) : List Dt → List Value → Prop
  | nil : DAs h [] []
  | cons {d : Dt} {u : Value} {ds : List Dt} {us : List Value} : DA h d u → DAs h ds us → DAs h (d :: ds) (u :: us)
end
theorem istup_inj {h : Heap} {a : Addr} {x y : Array Value} (hx : h.IsTuple a x) (hy : h.IsTuple a y) : x = y := by
  obtain ⟨o, ho, _, n, hd⟩ := hx
  obtain ⟨o', ho', _, n', hd'⟩ := hy
  rw [ho] at ho'
  cases ho'
  rw [hd] at hd'
  cases hd'
  rfl
mutual
theorem DA.inj {h : Heap} : ∀ {d e : Dt} {u : Value}, DA h d u → DA h e u → d = e
  | _, _, _, .int _ _, .int _ _ => rfl
  | _, _, _, .str _ _, .str _ _ => rfl
  | _, _, _, .tup h1 r1, .tup h2 r2 => by
    have := istup_inj h1 h2
    subst this
    rw [DAs.inj r1 r2]
theorem DAs.inj {h : Heap} : ∀ {d e : List Dt} {u : List Value}, DAs h d u → DAs h e u → d = e
  | _, _, _, .nil, .nil => rfl
  | _, _, _, .cons r q, .cons r2 q2 => by rw [DA.inj r r2, DAs.inj q q2]
end
theorem istup_kept {h h' : Heap} (k : ∀ b o, o.cls = .type "tuple" → h.get? b = some o → h'.get? b = some o) {a : Addr} {x : Array Value} : h.IsTuple a x → h'.IsTuple a x
  | ⟨o, ho, hc, r⟩ => ⟨o, k _ _ hc ho, hc, r⟩
mutual
theorem DA.kept {h h' : Heap} (k : ∀ b x, h.IsTuple b x → h'.IsTuple b x) : ∀ {d : Dt} {u : Value}, DA h d u → DA h' d u
  | _, _, .int _ _ => .int _ _
  | _, _, .str _ _ => .str _ _
  | _, _, .tup h r => .tup (k _ _ h) (DAs.kept k r)
theorem DAs.kept {h h' : Heap} (k : ∀ b x, h.IsTuple b x → h'.IsTuple b x) : ∀ {d : List Dt} {u : List Value}, DAs h d u → DAs h' d u
  | _, _, .nil => .nil
  | _, _, .cons r q => .cons (DA.kept k r) (DAs.kept k q)
end
theorem DAs.length {h : Heap} : ∀ {ds : List Dt} {us : List Value}, DAs h ds us → ds.length = us.length
  | _, _, .nil => rfl
  | _, _, .cons _ q => by simp [DAs.length q]
theorem DAs.get {h : Heap} : ∀ {ds : List Dt} {us : List Value} {j : Nat} {u : Value}, DAs h ds us → us[j]? = some u → ∃ d, ds[j]? = some d ∧ DA h d u
  | _, _, 0, _, .cons r _, e => ⟨_, rfl, by cases e; exact r⟩
  | _, _, j + 1, _, .cons _ q, e => by
    obtain ⟨d, e1, r⟩ := DAs.get q (j := j) (by simpa using e)
    exact ⟨d, by simpa using e1, r⟩
section
variable {P : Program} {w : World} {H : Hp} {h : Heap}
mutual
theorem DR.da (ok : HOk P w H h) : ∀ {d : Dt} {v : V} {u : Value}, DR H d v → RelV v u → DA h d u
  | _, _, _, .int i, r => by obtain ⟨t, rfl⟩ := r; exact .int _ _
  | _, _, _, .str x, r => by obtain ⟨t, rfl⟩ := r; exact .str _ _
  | _, _, _, .tup (a := a) ha q, r => by
    cases r
    obtain ⟨_, its, rv, p⟩ := ok a _ ha
    exact .tup p (by rw [List.toList_toArray]; exact DRs.da ok q rv)
theorem DRs.da (ok : HOk P w H h) : ∀ {d : List Dt} {v : List V} {u : List Value}, DRs H d v → Vals v u → DAs h d u
  | _, _, _, .nil, .nil => .nil
  | _, _, _, .cons r q, .cons a b => .cons (DR.da ok r a) (DRs.da ok q b)
end
end
section
variable {s : Shared}
theorem eqAt_DA : ∀ (n : Nat) (A : Around) {d e : Dt} {u y : Value}, d.deep ≤ n → DA s.heap d u → DA s.heap e y → A.units + n < cLine → SeqAt.EqAt A s u y (Dt.beq d e) := by
  intro n
  induction n with
  | zero =>
    intro A d e u y hn rd re hu
    cases rd with
    | int i t =>
      cases re with
      | int j t' => rw [show Dt.beq (.int i) (.int j) = (i == j) by simp [Dt.beq, Bool.beq_eq_decide_eq]]; exact SeqAt.EqAt.int_int i t j t'
      | str x t' => exact SeqAt.EqAt.int_str i t x t'
      | tup h r => exact SeqAt.EqAt.int_tuple i t h (by omega)
    | str x t =>
      cases re with
      | int j t' => exact SeqAt.EqAt.str_int x t j t'
      | str w' t' => rw [show Dt.beq (.str x) (.str w') = (x == w') by simp [Dt.beq, Bool.beq_eq_decide_eq]]; exact SeqAt.EqAt.str_str x t w' t'
      | tup h r => exact SeqAt.EqAt.str_tuple x t h (by omega)
    | tup h r => simp [Dt.deep] at hn
  | succ n ih =>
    intro A d e u y hn rd re hu
    cases rd with
    | int i t =>
      cases re with
      | int j t' => rw [show Dt.beq (.int i) (.int j) = (i == j) by simp [Dt.beq, Bool.beq_eq_decide_eq]]; exact SeqAt.EqAt.int_int i t j t'
      | str x t' => exact SeqAt.EqAt.int_str i t x t'
      | tup h r => exact SeqAt.EqAt.int_tuple i t h (by omega)
    | str x t =>
      cases re with
      | int j t' => exact SeqAt.EqAt.str_int x t j t'
      | str w' t' => rw [show Dt.beq (.str x) (.str w') = (x == w') by simp [Dt.beq, Bool.beq_eq_decide_eq]]; exact SeqAt.EqAt.str_str x t w' t'
      | tup h r => exact SeqAt.EqAt.str_tuple x t h (by omega)
    | @tup a items ds ha rs =>
      have hn' : Dt.deeps ds ≤ n := by simpa [Dt.deep] using hn
      cases re with
      | int j t' => exact SeqAt.EqAt.tuple_int j t' ha (by omega)
      | str w' t' => exact SeqAt.EqAt.tuple_str w' t' ha (by omega)
      | @tup b items2 es hb rs' =>
        by_cases hab : a = b
        · subst hab
          have := istup_inj ha hb
          subst this
          have : ds = es := DAs.inj rs rs'
          subst this
          rw [show Dt.beq (.tup ds) (.tup ds) = true from Dt.beq_iff.mpr rfl]
          exact SeqAt.EqAt.same _
        · refine SeqAt.EqAt.of_refs hab ?_
          have m1 := rs.length
          have m2 := rs'.length
          have key := SeqAt.RcAt.tuples (A := A) (s := s) (e := fun j => match ds[j]?, es[j]? with | some d, some e => Dt.beq d e | _, _ => false) ha hb (by omega) fun j h1 h2 => by
            obtain ⟨d1, ed, rd1⟩ := rs.get (show items.toList[j]? = some items[j] by simp [h1])
            obtain ⟨d2, ed2, rd2⟩ := rs'.get (show items2.toList[j]? = some items2[j] by simp [h2])
            simp only [ed, ed2]
            exact ih A.in1 (Nat.le_trans (deep_get ed) hn') rd1 rd2 (by rw [show A.in1.units = A.units + 1 from rfl]; omega)
          have ez : Dt.beq (.tup ds) (.tup es) = ((List.range (min items.size items2.size)).all (fun j => match ds[j]?, es[j]? with | some d, some e => Dt.beq d e | _, _ => false) && items.size == items2.size) := by
            rw [show Dt.beq (.tup ds) (.tup es) = Dt.beqs ds es by simp [Dt.beq], beqs_all]
            have a1 : items.size = ds.length := by rw [m1]; simp
            have a2 : items2.size = es.length := by rw [m2]; simp
            rw [a1, a2]
            try rfl
          rw [ez]
          exact key
end
mutual
def Dt.hsh (w : World) : Dt → Int
  | .int i => hashInt i
  | .str x => hashStr w x
  | .tup ds => reduceHash (Builtin.Tuple.tupleHashOf (Dt.hshs w ds))
def Dt.hshs (w : World) : List Dt → List Int
  | [] => []
  | d :: ds => Dt.hsh w d :: Dt.hshs w ds
end
mutual
def Dt.draws : Dt → Nat
  | .int _ => 1
  | .str _ => 1
  | .tup ds => Dt.drawss ds + 1
def Dt.drawss : List Dt → Nat
  | [] => 0
  | d :: ds => Dt.draws d + Dt.drawss ds
end
theorem hshs_app (w : World) : ∀ (a b : List Dt), Dt.hshs w (a ++ b) = Dt.hshs w a ++ Dt.hshs w b
  | [], b => rfl
  | d :: a, b => by simp [Dt.hshs, hshs_app w a b]
theorem drawss_app : ∀ (a b : List Dt), Dt.drawss (a ++ b) = Dt.drawss a + Dt.drawss b
  | [], b => by simp [Dt.drawss]
  | d :: a, b => by simp [Dt.drawss, drawss_app a b]; omega
theorem deeps_app : ∀ (a b : List Dt), Dt.deeps (a ++ b) = max (Dt.deeps a) (Dt.deeps b)
  | [], b => by simp [Dt.deeps]
  | d :: a, b => by simp [Dt.deeps, deeps_app a b, Nat.max_assoc]
section
variable {prog : Program} {w : World} {E : Value → Shared → Prop}
theorem hash_DA : ∀ (n : Nat) (A : Around) (s : Shared) {E : Value → Shared → Prop} {d : Dt} {u : Value} {Q : Int → Shared → Prop}, d.deep ≤ n → DA s.heap d u → A.units + n < cLine → Q (d.hsh w) { s with toks := s.toks + d.draws } →
    wpAny (model prog w) A (pyHash u) Q E s := by
  intro n
  induction n with
  | zero =>
    intro A s E d u Q hn hd hu h
    cases hd with
    | int i t => exact (mixKind prog w).pyHash (k := .inl i) (keyIs_int i t) h
    | str x t => exact (mixKind prog w).pyHash (k := .inr x) (keyIs_str x t) h
    | tup _ _ => simp [Dt.deep] at hn
  | succ n ih =>
    intro A s E d u Q hn hd hu h
    cases hd with
    | int i t => exact (mixKind prog w).pyHash (k := .inl i) (keyIs_int i t) h
    | str x t => exact (mixKind prog w).pyHash (k := .inr x) (keyIs_str x t) h
    | @tup a items ds ha hi =>
      have hn' : Dt.deeps ds ≤ n := by simpa [Dt.deep] using hn
      obtain ⟨o, ho, hc, m, hd⟩ := ha
      have hT : s.TypeIs (.ref a) "tuple" := ⟨o, ho, hc⟩
      unfold pyHash
      first | unfold pyHashByItsType | skip
      first | refine wpAny_bind (wpAny_cRoomFor_or (.inr (by omega)) ?_) | skip
      refine wpAny_bind (wpAny_specialOf hT F.slot_tuple_hash.lookup ?_)
      show wpAny _ _ (if (some (Value.builtin "tuple.__hash__") == some Value.none) = true then _ else _) Q E s
      rw [if_neg (by rw [beq_builtin_none]; exact Bool.false_ne_true)]
      refine wpAny_bind (wpAny_specialOf hT F.slot_tuple_hash.lookup ?_)
      show wpAny _ _ (callSpecialIfBoundUnlessNone? (.ref a) "__hash__" _ >>= _) Q E s
      refine wpAny_bind (wpAny_callSpecialIfBoundUnlessNone?_slot hT F.slot_tuple_hash (wpAny_call_entry F.slot_tuple_hash hT F.entry_tuple_hash ?_ (F.args_tuple_hash_1 _)))
      show wpAny _ _ (Builtin.Tuple.tupleItemsOf (.ref a) >>= _) _ _ s
      refine wpAny_bind (wpAny_tupleItemsOf ho hd ?_)
      refine wpAny_bind ?_
      rw [← Array.forIn_toList]
      refine wpAny_forIn_list _
        (fun rest (b : Array Int) s' => ∃ done left, ds = done ++ left ∧ DAs s.heap left rest ∧ b.toList = Dt.hshs w done ∧ s' = { s with toks := s.toks + Dt.drawss done })
        _ ?_ ?_ _ _ ⟨[], ds, rfl, hi, rfl, rfl⟩
      · rintro x rest b s' ⟨done, left, rfl, hl, hb, rfl⟩
        cases hl with
        | @cons k _ ks' _ h1 hl' =>
          have hk : k.deep ≤ n := by
            rw [deeps_app, Dt.deeps] at hn'
            omega
          refine wpAny_bind (ih _ _ hk h1 (by show A.units + 1 + n < cLine; omega) ?_)
          first
            | exact wpAny_pure ⟨done ++ [k], ks', by simp, hl', by simp [hb, hshs_app, Dt.hshs], by simp [drawss_app, Dt.drawss, Nat.add_assoc]⟩
            | exact wpAny_bind (wpAny_pure (wpAny_pure ⟨done ++ [k], ks', by simp, hl', by simp [hb, hshs_app, Dt.hshs], by simp [drawss_app, Dt.drawss, Nat.add_assoc]⟩))
      · rintro b s' ⟨done, left, rfl, hl, hb, rfl⟩
        cases hl
        rw [List.append_nil] at h
        show wpAny _ _ (retInt (Builtin.Tuple.tupleHashOf b.toList)) _ _ _
        rw [hb]
        refine wpAny_ret_mkInt ?_
        show wpAny _ _ (if (decide (-(2 : Int) ^ 63 ≤ Builtin.Tuple.tupleHashOf (Dt.hshs w done)) && decide (Builtin.Tuple.tupleHashOf (Dt.hshs w done) < 2 ^ 63)) = true then _ else _) Q E _
        unfold Dt.hsh reduceHash Dt.draws at h
        by_cases hr : (decide (-(2 : Int) ^ 63 ≤ Builtin.Tuple.tupleHashOf (Dt.hshs w done)) && decide (Builtin.Tuple.tupleHashOf (Dt.hshs w done) < 2 ^ 63)) = true
        · rw [if_pos hr]
          rw [if_pos hr] at h
          exact wpAny_pure (by simpa [Nat.add_assoc] using h)
        · rw [if_neg hr]
          rw [if_neg hr] at h
          exact wpAny_bind (wpAny_rule (wpAny_pure (by simpa [Nat.add_assoc] using h)))
theorem quiet_DA {M : Model} {A : Around} {E : Value → Shared → Prop} {s : Shared} : ∀ (n : Nat) {d : Dt} {u : Value} {Q : Bool → Shared → Prop}, d.deep ≤ n → DA s.heap d u → Q true s → wpAny (model prog w) A (eqIsQuiet n u) Q E s := by
  intro n
  induction n with
  | zero =>
    intro d u Q hn hd h
    cases hd with
    | int i t => rw [eqIsQuiet_byValue _ rfl]; exact wpAny_pure h
    | str x t => rw [eqIsQuiet_byValue _ rfl]; exact wpAny_pure h
    | tup _ _ => simp [Dt.deep] at hn
  | succ n ih =>
    intro d u Q hn hd h
    cases hd with
    | int i t => rw [eqIsQuiet_byValue _ rfl]; exact wpAny_pure h
    | str x t => rw [eqIsQuiet_byValue _ rfl]; exact wpAny_pure h
    | @tup a items ds ha hi =>
      have hn' : Dt.deeps ds ≤ n := by simpa [Dt.deep] using hn
      obtain ⟨o, ho, hc, m, hd⟩ := ha
      have hT : s.TypeIs (.ref a) "tuple" := ⟨o, ho, hc⟩
      unfold eqIsQuiet
      refine wpAny_bind (wpAny_specialOf hT F.slot_tuple_eq.lookup ?_)
      show wpAny _ _ (isInstance (.ref a) (.type "tuple") >>= _) _ _ s
      refine wpAny_bind (wpAny_isInstance hT isSubtype_tuple_tuple ?_)
      simp only [Bool.not_true, Bool.false_eq_true, if_false]
      refine wpAny_bind (wpAny_seqItems ho hd ?_)
      refine wpAny_bind ?_
      show wpAny _ _ (forIn items _ _) _ _ s
      rw [← Array.forIn_toList]
      refine wpAny_forIn_list _ (fun rest r s' => r.1 = none ∧ s' = s ∧ ∃ ds', DAs s.heap ds' rest ∧ Dt.deeps ds' ≤ n) _ ?_ ?_ _ _ ⟨rfl, rfl, ds, hi, hn'⟩
      · rintro v rest r s' ⟨hr, rfl, ds', hall, hdp⟩
        cases hall with
        | @cons k _ ks' _ h1 hl' =>
          have hk : k.deep ≤ n ∧ Dt.deeps ks' ≤ n := by
            rw [Dt.deeps] at hdp
            omega
          refine wpAny_bind (ih hk.1 h1 ?_)
          simp only [Bool.not_true, Bool.false_eq_true, if_false]
          exact wpAny_pure ⟨rfl, rfl, ks', hl', hk.2⟩
      · rintro ⟨r1, r2⟩ s' ⟨hr, rfl, _⟩
        simp only at hr
        subst hr
        exact wpAny_pure h
end
def datKind (prog : Program) (w : World) : HeapKind prog w Dt where
  is := fun h d a => DA h d (.ref a) ∧ d.deep ≤ 8
  hash := Dt.hsh w
  draws := Dt.draws
  room := fun A => A.units + 8 < cLine
  inj := fun hx hy => hx.1.inj hy.1
  keeps := fun {h h' k a d o es ep} x ho hd hs => ⟨x.1.kept fun b x hb => by
    obtain ⟨o', ho', hc, n, hd'⟩ := hb
    have hne : b ≠ d := by
      rintro rfl
      rw [ho'] at ho
      cases ho
      rw [hd'] at hd
      cases hd
    exact ⟨o', (hs.2 b hne).trans ho', hc, n, hd'⟩, x.2⟩
  pyHash := fun hu hk h => hash_DA 8 _ _ hk.2 hk.1 hu h
  eqBool := fun {A E s x y a b Q} hu hx hy h => eqAt_DA 8 A hx.2 hx.1 hy.1 hu prog w E Q (by rw [beq_dec]; exact h)
  quiet := fun hk h => quiet_DA (M := model prog w) 8 hk.2 hk.1 h
end L2
set_option Elab.async false
set_option linter.all false
set_option maxRecDepth 100000
set_option maxHeartbeats 4000000
namespace L2
open PySem PySem.Spec PyProof.Rows PySem.W
def strLt (x y : Str) : Bool := decide (x.cps.toList < y.cps.toList)
theorem strLt_irr (x : Str) : strLt x x = false := by unfold strLt; exact decide_eq_false (List.lt_irrefl _)
theorem strLt_trans {x y z : Str} (h : strLt x y = true) (k : strLt y z = true) : strLt x z = true := by
  unfold strLt at *
  exact decide_eq_true (List.lt_trans (of_decide_eq_true h) (of_decide_eq_true k))
theorem strLt_tri {x y : Str} (h : strLt x y = false) (k : strLt y x = false) : x = y := by
  unfold strLt at *
  have a := of_decide_eq_false h
  have b := of_decide_eq_false k
  have : x.cps.toList = y.cps.toList := List.le_antisymm (List.not_lt.mp b) (List.not_lt.mp a)
  cases x; cases y
  congr 1
  exact Array.toList_inj.mp this
mutual
def Dt.lt : Dt → Dt → Bool
  | .int i, .int j => decide (i < j)
  | .str x, .str y => strLt x y
  | .tup ds, .tup es => Dt.lts ds es
  | .int _, .str _ => true
  | .int _, .tup _ => true
  | .str _, .tup _ => true
  | .str _, .int _ => false
  | .tup _, .int _ => false
  | .tup _, .str _ => false
def Dt.lts : List Dt → List Dt → Bool
  | [], [] => false
  | [], _ :: _ => true
  | _ :: _, [] => false
  | d :: ds, e :: es => if Dt.beq d e = true then Dt.lts ds es else Dt.lt d e
end
theorem beq_self' (d : Dt) : Dt.beq d d = true := Dt.beq_iff.mpr rfl
mutual
theorem Dt.lt_irr : ∀ d : Dt, Dt.lt d d = false
  | .int i => by simp [Dt.lt]
  | .str x => by rw [Dt.lt]; exact strLt_irr x
  | .tup ds => by rw [Dt.lt]; exact Dt.lts_irr ds
theorem Dt.lts_irr : ∀ ds : List Dt, Dt.lts ds ds = false
  | [] => rfl
  | d :: ds => by rw [Dt.lts, if_pos (beq_self' d)]; exact Dt.lts_irr ds
end
mutual
theorem Dt.lt_tri : ∀ {d e : Dt}, Dt.lt d e = false → Dt.lt e d = false → d = e
  | .int i, .int j, h, k => by simp [Dt.lt] at h k; rw [show i = j by omega]
  | .str x, .str y, h, k => by rw [Dt.lt] at h k; rw [strLt_tri h k]
  | .tup ds, .tup es, h, k => by rw [Dt.lt] at h k; rw [Dt.lts_tri h k]
  | .int _, .str _, h, k => by simp [Dt.lt] at h
  | .int _, .tup _, h, k => by simp [Dt.lt] at h
  | .str _, .tup _, h, k => by simp [Dt.lt] at h
  | .str _, .int _, h, k => by simp [Dt.lt] at k
  | .tup _, .int _, h, k => by simp [Dt.lt] at k
  | .tup _, .str _, h, k => by simp [Dt.lt] at k
theorem Dt.lts_tri : ∀ {ds es : List Dt}, Dt.lts ds es = false → Dt.lts es ds = false → ds = es
  | [], [], _, _ => rfl
  | [], _ :: _, h, k => by simp [Dt.lts] at h
  | _ :: _, [], h, k => by simp [Dt.lts] at k
  | d :: ds, e :: es, h, k => by
    rw [Dt.lts] at h k
    by_cases c : d = e
    · subst c
      rw [if_pos (beq_self' d)] at h k
      rw [Dt.lts_tri h k]
    · rw [if_neg (fun z => c (Dt.beq_iff.mp z))] at h
      rw [if_neg (fun z => c (Dt.beq_iff.mp z).symm)] at k
      exact absurd (Dt.lt_tri h k) c
end
theorem strLt_asym {x y : Str} (h : strLt x y = true) : strLt y x = false := by
  cases e : strLt y x with
  | false => rfl
  | true => have := strLt_trans h e; rw [strLt_irr] at this; cases this
mutual
theorem Dt.lt_asym : ∀ {d e : Dt}, Dt.lt d e = true → Dt.lt e d = false
  | .int i, .int j, h => by simp [Dt.lt] at h ⊢; omega
  | .str x, .str y, h => by rw [Dt.lt] at h ⊢; exact strLt_asym h
  | .tup ds, .tup es, h => by rw [Dt.lt] at h ⊢; exact Dt.lts_asym h
  | .int _, .str _, h => by simp [Dt.lt]
  | .int _, .tup _, h => by simp [Dt.lt]
  | .str _, .tup _, h => by simp [Dt.lt]
  | .str _, .int _, h => by simp [Dt.lt] at h
  | .tup _, .int _, h => by simp [Dt.lt] at h
  | .tup _, .str _, h => by simp [Dt.lt] at h
theorem Dt.lts_asym : ∀ {ds es : List Dt}, Dt.lts ds es = true → Dt.lts es ds = false
  | [], [], h => by simp [Dt.lts] at h
  | [], _ :: _, h => by simp [Dt.lts]
  | _ :: _, [], h => by simp [Dt.lts] at h
  | d :: ds, e :: es, h => by
    rw [Dt.lts] at h ⊢
    by_cases c : d = e
    · subst c
      rw [if_pos (beq_self' d)] at h ⊢
      exact Dt.lts_asym h
    · rw [if_neg (fun z => c (Dt.beq_iff.mp z))] at h
      rw [if_neg (fun z => c (Dt.beq_iff.mp z).symm)]
      exact Dt.lt_asym h
end
mutual
theorem Dt.lt_trans : ∀ {d e f : Dt}, Dt.lt d e = true → Dt.lt e f = true → Dt.lt d f = true
  | .int i, .int j, .int k, h, l => by simp [Dt.lt] at h l ⊢; omega
  | .str x, .str y, .str z, h, l => by rw [Dt.lt] at h l ⊢; exact strLt_trans h l
  | .tup ds, .tup es, .tup fs, h, l => by rw [Dt.lt] at h l ⊢; exact Dt.lts_trans h l
  | .int _, _, .str _, h, l => by simp [Dt.lt]
  | .int _, _, .tup _, h, l => by simp [Dt.lt]
  | .str _, _, .tup _, h, l => by simp [Dt.lt]
  | .int _, .str _, .int _, h, l => by simp [Dt.lt] at l
  | .int _, .tup _, .int _, h, l => by simp [Dt.lt] at l
  | .str _, .int _, _, h, l => by simp [Dt.lt] at h
  | .str _, .str _, .int _, h, l => by simp [Dt.lt] at l
  | .str _, .tup _, .int _, h, l => by simp [Dt.lt] at l
  | .str _, .tup _, .str _, h, l => by simp [Dt.lt] at l
  | .tup _, .int _, _, h, l => by simp [Dt.lt] at h
  | .tup _, .str _, _, h, l => by simp [Dt.lt] at h
  | .tup _, .tup _, .int _, h, l => by simp [Dt.lt] at l
  | .tup _, .tup _, .str _, h, l => by simp [Dt.lt] at l
theorem Dt.lts_trans : ∀ {ds es fs : List Dt}, Dt.lts ds es = true → Dt.lts es fs = true → Dt.lts ds fs = true
  | [], _, _ :: _, h, l => by simp [Dt.lts]
  | [], [], [], h, l => by simp [Dt.lts] at h
  | [], _ :: _, [], h, l => by simp [Dt.lts] at l
  | _ :: _, [], _, h, l => by simp [Dt.lts] at h
  | _ :: _, _ :: _, [], h, l => by simp [Dt.lts] at l
  | d :: ds, e :: es, f :: fs, h, l => by
    rw [Dt.lts] at h l ⊢
    by_cases c : d = e
    · subst c
      rw [if_pos (beq_self' d)] at h
      by_cases c2 : d = f
      · subst c2
        rw [if_pos (beq_self' d)] at l ⊢
        exact Dt.lts_trans h l
      · rw [if_neg (fun z => c2 (Dt.beq_iff.mp z))] at l ⊢
        exact l
    · rw [if_neg (fun z => c (Dt.beq_iff.mp z))] at h
      by_cases c2 : e = f
      · subst c2
        rw [if_neg (fun z => c (Dt.beq_iff.mp z))]
        exact h
      · rw [if_neg (fun z => c2 (Dt.beq_iff.mp z))] at l
        have c3 : d ≠ f := fun z => by
          subst z
          have := Dt.lt_asym h
          rw [l] at this
          cases this
        rw [if_neg (fun z => c3 (Dt.beq_iff.mp z))]
        exact Dt.lt_trans h l
end
theorem Dt.lt_neg {d e f : Dt} (h : Dt.lt d e = false) (k : Dt.lt e f = false) : Dt.lt d f = false := by
  cases z : Dt.lt d f with
  | false => rfl
  | true =>
    cases a : Dt.lt f e with
    | true => have := Dt.lt_trans z a; rw [h] at this; cases this
    | false =>
      have := Dt.lt_tri k a
      subst this
      rw [h] at z
      cases z
inductive Ty where
  | int | str | many (t : Ty) | two (a b : Ty)
mutual
def Dt.has : Ty → Dt → Bool
  | .int, .int _ => true
  | .str, .str _ => true
  | .many t, .tup ds => Dt.hass t ds
  | .two a b, .tup ds => Dt.hasp a b ds
  | _, _ => false
def Dt.hass : Ty → List Dt → Bool
  | _, [] => true
  | t, d :: ds => Dt.has t d && Dt.hass t ds
def Dt.hasp : Ty → Ty → List Dt → Bool
  | a, b, d :: es => Dt.has a d && Dt.hasq b es
  | _, _, _ => false
def Dt.hasq : Ty → List Dt → Bool
  | b, e :: es => Dt.has b e && (es.length == 0)
  | _, _ => false
end
mutual
def Dt.cmp : Dt → Dt → Bool
  | .int _, .int _ => true
  | .str _, .str _ => true
  | .tup ds, .tup es => Dt.cmps ds es
  | _, _ => false
def Dt.cmps : List Dt → List Dt → Bool
  | [], _ => true
  | _ :: _, [] => true
  | d :: ds, e :: es => if Dt.beq d e = true then Dt.cmps ds es else Dt.cmp d e
end
theorem cmps_of {ds es : List Dt} : (∀ d ∈ ds, ∀ e ∈ es, Dt.cmp d e = true) → Dt.cmps ds es = true := by
  induction ds generalizing es with
  | nil => intro _; cases es <;> rfl
  | cons d ds ih =>
    intro h
    cases es with
    | nil => rfl
    | cons e es =>
      rw [Dt.cmps]
      by_cases c : Dt.beq d e = true
      · rw [if_pos c]
        exact ih fun x hx y hy => h x (List.mem_cons_of_mem _ hx) y (List.mem_cons_of_mem _ hy)
      · rw [if_neg c]
        exact h d List.mem_cons_self e List.mem_cons_self
theorem hass_mem {t : Ty} : ∀ {ds : List Dt}, Dt.hass t ds = true ↔ ∀ d ∈ ds, Dt.has t d = true
  | [] => by simp [Dt.hass]
  | d :: ds => by simp [Dt.hass, hass_mem (ds := ds)]
theorem cmp_of : ∀ (t : Ty) {d e : Dt}, Dt.has t d = true → Dt.has t e = true → Dt.cmp d e = true
  | .int, d, e, h, k => by cases d <;> simp [Dt.has] at h; cases e <;> simp [Dt.has] at k; rfl
  | .str, d, e, h, k => by cases d <;> simp [Dt.has] at h; cases e <;> simp [Dt.has] at k; rfl
  | .many t, d, e, h, k => by
    cases d with
    | tup ds =>
      cases e with
      | tup es =>
        rw [Dt.has] at h k
        rw [Dt.cmp]
        exact cmps_of fun x hx y hy => cmp_of t (hass_mem.mp h x hx) (hass_mem.mp k y hy)
      | _ => simp [Dt.has] at k
    | _ => simp [Dt.has] at h
  | .two a b, d, e, h, k => by
    cases d with
    | tup ds =>
      cases e with
      | tup es =>
        rw [Dt.has] at h k
        rw [Dt.cmp]
        match ds, es, h, k with
        | [d1, d2], [e1, e2], h, k =>
          simp [Dt.hasp, Dt.hasq] at h k
          rw [Dt.cmps]
          by_cases c : Dt.beq d1 e1 = true
          · rw [if_pos c, Dt.cmps]
            by_cases c2 : Dt.beq d2 e2 = true
            · rw [if_pos c2]; rfl
            · rw [if_neg c2]; exact cmp_of b h.2 k.2
          · rw [if_neg c]; exact cmp_of a h.1 k.1
        | [], _, h, _ => simp [Dt.hasp] at h
        | [_], _, h, _ => simp [Dt.hasp, Dt.hasq] at h
        | _ :: _ :: _ :: _, _, h, _ => simp [Dt.hasp, Dt.hasq] at h
        | [_, _], [], _, k => simp [Dt.hasp] at k
        | [_, _], [_], _, k => simp [Dt.hasp, Dt.hasq] at k
        | [_, _], _ :: _ :: _ :: _, _, k => simp [Dt.hasp, Dt.hasq] at k
      | _ => simp [Dt.has] at k
    | _ => simp [Dt.has] at h
end L2
set_option Elab.async false
set_option linter.all false
set_option maxRecDepth 100000
set_option maxHeartbeats 4000000
namespace L2
open PySem PySem.Calls PySem.Spec PyProof.Rows PySem.W
open AutoSeq1 (wpAny_loadPart')
def LtAt (A : Around) (s : Shared) (u y : Value) (b : Bool) : Prop :=
  ∀ (prog : Program) (w : World) (E : Value → Shared → Prop) (Q : Value → Shared → Prop), Q (.bool b) s → wpAny (model prog w) A (compareOp .Lt u y) Q E s
def lexF (e f : Nat → Bool) (n m i : Nat) : Nat → Bool
  | 0 => decide (n < m)
  | k + 1 => if e i = true then lexF e f n m (i + 1) k else f i
theorem tuple_ltG (l b : Addr) (items items2 : Array Value) (n n2 : Nat) (dd dd2 : Option Addr) (sl sl2 : Array (Option Value)) (e f : Nat → Bool) :
    Meets (Builtin.«tuple.__lt__» ⟨[.ref l, .ref b], []⟩)
      (fun A R s => s.heap.get? l = some { cls := .type "tuple", dict := dd, data := .seq items n, slots := sl } ∧ s.heap.get? b = some { cls := .type "tuple", dict := dd2, data := .seq items2 n2, slots := sl2 } ∧
        (∀ j (h1 : j < items.size) (h2 : j < items2.size), SeqAt.EqAt A.in1 s items[j] items2[j] (e j)) ∧
        (∀ j (h1 : j < items.size) (h2 : j < items2.size), e j = false → (∀ i, i < j → e i = true) → LtAt A.in1 s items[j] items2[j] (f j)) ∧
        R (.ok (.ret (.bool (lexF e f items.size items2.size 0 (min items.size items2.size))))) s) :=
  .of_wp fun prog w A R s h => by
    obtain ⟨hp, g, d, tk, os⟩ := s; obtain ⟨hl, hb, he, hf, h⟩ := h
    have f2 := AutoSeq1.sub_tuple_tuple
    have hZ : (items.toList.zip items2.toList).length = min items.size items2.size := by simp
    wp_walk using wpAny_loadPart' hl, wpAny_loadPart' hb, wpAny_forIn_list _ (fun rest b s' => b.1 = none ∧ s' = ⟨hp, g, d, tk, os⟩ ∧ ∃ i, rest = (items.toList.zip items2.toList).drop i ∧ i ≤ min items.size items2.size ∧ (∀ j, j < i → e j = true) ∧
      R (.ok (.ret (.bool (lexF e f items.size items2.size i (min items.size items2.size - i))))) ⟨hp, g, d, tk, os⟩) _
    case turn =>
      rintro ⟨y, x⟩ rest b s' ⟨hb', rfl, i, hz, him, hpre, hR⟩
      have hlt : i < (items.toList.zip items2.toList).length := by
        rcases Nat.lt_or_ge i (items.toList.zip items2.toList).length with h' | h'
        · exact h'
        · rw [List.drop_of_length_le h'] at hz; cases hz
      have hm : i < min items.size items2.size := hZ ▸ hlt
      have h1 : i < items.size := Nat.lt_of_lt_of_le hm (Nat.min_le_left _ _)
      have h2 : i < items2.size := Nat.lt_of_lt_of_le hm (Nat.min_le_right _ _)
      rw [List.drop_eq_getElem_cons hlt] at hz
      injection hz with hyx hrest
      have hy : y = items[i] := by have := congrArg Prod.fst hyx; simpa using this
      have hx : x = items2[i] := by have := congrArg Prod.snd hyx; simpa using this
      subst hy hx
      obtain ⟨k, hk⟩ : ∃ k, min items.size items2.size - i = k + 1 := ⟨min items.size items2.size - i - 1, by omega⟩
      have hk' : min items.size items2.size - (i + 1) = k := by omega
      rw [hk, lexF] at hR
      refine wpAny_bind (he i h1 h2 prog w _ _ ?_)
      cases hy : e i with
      | true =>
        rw [hy, if_pos rfl] at hR
        wp_walk
        exact ⟨rfl, rfl, i + 1, hrest, by omega, fun j hj => by
          by_cases c : j = i
          · rw [c]; exact hy
          · exact hpre j (by omega), by rw [hk']; exact hR⟩
      | false =>
        rw [hy] at hR
        rw [if_pos (by rfl)]
        refine wpAny_bind (wpAny_rule (wpAny_bind (hf i h1 h2 hy hpre prog w _ _ ?_)))
        wp_walk
        exact ⟨_, rfl, by simpa using hR⟩
    case fin =>
      rintro ⟨b1, b2⟩ s' ⟨hb', rfl, i, hz, him, hpre, hR⟩
      simp only at hb'
      subst hb'
      have hge : min items.size items2.size ≤ i := by
        rcases Nat.lt_or_ge i (items.toList.zip items2.toList).length with h' | h'
        · rw [List.drop_eq_getElem_cons h'] at hz; cases hz
        · exact hZ ▸ h'
      rw [show min items.size items2.size - i = 0 by omega, lexF] at hR
      wp_walk
      exact ⟨_, rfl, by simpa [Builtin.Tuple.tupleCompareSizes] using hR⟩
    case h =>
      exact ⟨rfl, rfl, 0, rfl, Nat.zero_le _, fun j hj => by omega, by simpa using h⟩
theorem LtAt.tuples {A : Around} {s : Shared} {l b : Addr} {items items2 : Array Value} {e f : Nat → Bool} (hl : s.heap.IsTuple l items) (hb : s.heap.IsTuple b items2) (hu : A.units < cLine)
    (he : ∀ j (h1 : j < items.size) (h2 : j < items2.size), SeqAt.EqAt A.in1 s items[j] items2[j] (e j))
    (hf : ∀ j (h1 : j < items.size) (h2 : j < items2.size), e j = false → (∀ i, i < j → e i = true) → LtAt A.in1 s items[j] items2[j] (f j)) : LtAt A s (.ref l) (.ref b) (lexF e f items.size items2.size 0 (min items.size items2.size)) := fun prog w E Q h => by
  obtain ⟨⟨cls, dd, data, sl⟩, ho, hc, n, hd⟩ := id hl
  obtain ⟨⟨cls2, dd2, data2, sl2⟩, ho2, hc2, n2, hd2⟩ := id hb
  simp only at hc hd hc2 hd2
  subst hc hd hc2 hd2
  exact richCompare_meets_room (op := .Lt) ⟨_, ho, rfl⟩ ⟨_, ho2, rfl⟩ F.slot_tuple_lt F.entry_tuple_lt (F.args_tuple_lt_2 _ _) (tuple_ltG l b items items2 n n2 dd dd2 sl sl2 e f)
    ⟨ho, ho2, he, hf, show Value.bool (lexF e f items.size items2.size 0 (min items.size items2.size)) ≠ Value.notImplemented ∧ Q (.bool (lexF e f items.size items2.size 0 (min items.size items2.size))) s from ⟨(fun x => nomatch x), h⟩⟩ hu
def eAt (ds es : List Dt) (j : Nat) : Bool := match ds[j]?, es[j]? with | some d, some e => Dt.beq d e | _, _ => false
def fAt (ds es : List Dt) (j : Nat) : Bool := match ds[j]?, es[j]? with | some d, some e => Dt.lt d e | _, _ => false
theorem lexF_lts : ∀ (ds es ds0 es0 : List Dt) (i : Nat), ds = ds0.drop i → es = es0.drop i → i ≤ min ds0.length es0.length → lexF (eAt ds0 es0) (fAt ds0 es0) ds0.length es0.length i (min ds0.length es0.length - i) = Dt.lts ds es
  | [], es, ds0, es0, i, h1, h2, hi => by
    have : ds0.length ≤ i := List.drop_eq_nil_iff.mp h1.symm
    have l2 : es.length = es0.length - i := by rw [h2, List.length_drop]
    rw [show min ds0.length es0.length - i = 0 by omega, lexF]
    cases es with
    | nil => rw [Dt.lts]; exact decide_eq_false (by simp at l2; omega)
    | cons e es => rw [Dt.lts]; exact decide_eq_true (by simp at l2; omega)
  | d :: ds, [], ds0, es0, i, h1, h2, hi => by
    have : es0.length ≤ i := List.drop_eq_nil_iff.mp h2.symm
    rw [show min ds0.length es0.length - i = 0 by omega, lexF, Dt.lts]
    exact decide_eq_false (by omega)
  | d :: ds, e :: es, ds0, es0, i, h1, h2, hi => by
    have l1 : (d :: ds).length = ds0.length - i := by rw [h1, List.length_drop]
    have l2 : (e :: es).length = es0.length - i := by rw [h2, List.length_drop]
    simp only [List.length_cons] at l1 l2
    have g1 : ds0[i]? = some d := by have := congrArg (·[0]?) h1; simpa using this.symm
    have g2 : es0[i]? = some e := by have := congrArg (·[0]?) h2; simpa using this.symm
    have t1 : ds = ds0.drop (i + 1) := by have := congrArg List.tail h1; simpa using this
    have t2 : es = es0.drop (i + 1) := by have := congrArg List.tail h2; simpa using this
    rw [show min ds0.length es0.length - i = (min ds0.length es0.length - (i + 1)) + 1 by omega, lexF, Dt.lts]
    have a1 : eAt ds0 es0 i = Dt.beq d e := by unfold eAt; rw [g1, g2]
    have a2 : fAt ds0 es0 i = Dt.lt d e := by unfold fAt; rw [g1, g2]
    rw [a1, a2, lexF_lts ds es ds0 es0 (i + 1) t1 t2 (by omega)]
theorem cmps_first : ∀ {ds es : List Dt} {j : Nat} {d e : Dt}, Dt.cmps ds es = true → ds[j]? = some d → es[j]? = some e → Dt.beq d e = false → (∀ i, i < j → eAt ds es i = true) → Dt.cmp d e = true
  | [], _, _, _, _, _, h, _, _, _ => by simp at h
  | _ :: _, [], _, _, _, _, _, h, _, _ => by simp at h
  | x :: ds, y :: es, 0, d, e, h, h1, h2, hb, _ => by
    simp at h1 h2
    subst h1 h2
    rw [Dt.cmps, if_neg (by rw [hb]; simp)] at h
    exact h
  | x :: ds, y :: es, j + 1, d, e, h, h1, h2, hb, hp => by
    have h0 : Dt.beq x y = true := by have := hp 0 (by omega); simpa [eAt] using this
    rw [Dt.cmps, if_pos h0] at h
    exact cmps_first h (by simpa using h1) (by simpa using h2) hb fun i hi => by have := hp (i + 1) (by omega); simpa [eAt] using this
theorem ltAt_DA {s : Shared} : ∀ (n : Nat) (A : Around) {d e : Dt} {u y : Value}, d.deep ≤ n → Dt.cmp d e = true → DA s.heap d u → DA s.heap e y → A.units + n < cLine → LtAt A s u y (Dt.lt d e) := by
  intro n
  induction n with
  | zero =>
    intro A d e u y hn hc rd re hu
    cases rd with
    | int i t =>
      cases re with
      | int j t' => intro prog w E Q h; exact PyProof.Rows.lt_int (by rw [Dt.lt] at h; exact h)
      | _ => simp [Dt.cmp] at hc
    | str x t =>
      cases re with
      | str x' t' => intro prog w E Q h; exact PyProof.Rows.lt_str (by rw [Dt.lt] at h; exact h)
      | _ => simp [Dt.cmp] at hc
    | tup _ _ => simp [Dt.deep] at hn
  | succ n ih =>
    intro A d e u y hn hc rd re hu
    cases rd with
    | int i t =>
      cases re with
      | int j t' => intro prog w E Q h; exact PyProof.Rows.lt_int (by rw [Dt.lt] at h; exact h)
      | _ => simp [Dt.cmp] at hc
    | str x t =>
      cases re with
      | str x' t' => intro prog w E Q h; exact PyProof.Rows.lt_str (by rw [Dt.lt] at h; exact h)
      | _ => simp [Dt.cmp] at hc
    | @tup a items ds ha rs =>
      have hn' : Dt.deeps ds ≤ n := by simpa [Dt.deep] using hn
      cases re with
      | @tup b items2 es hb rs' =>
        have m1 := rs.length
        have m2 := rs'.length
        have s1 : items.size = ds.length := by rw [m1]; simp
        have s2 : items2.size = es.length := by rw [m2]; simp
        rw [Dt.cmp] at hc
        have key := LtAt.tuples (A := A) (s := s) (e := eAt ds es) (f := fAt ds es) ha hb (by omega)
          (fun j h1 h2 => by
            obtain ⟨d1, ed, rd1⟩ := rs.get (show items.toList[j]? = some items[j] by simp [h1])
            obtain ⟨d2, ed2, rd2⟩ := rs'.get (show items2.toList[j]? = some items2[j] by simp [h2])
            have : eAt ds es j = Dt.beq d1 d2 := by unfold eAt; rw [ed, ed2]
            rw [this]
            exact eqAt_DA n A.in1 (Nat.le_trans (deep_get ed) hn') rd1 rd2 (by rw [show A.in1.units = A.units + 1 from rfl]; omega))
          (fun j h1 h2 hne hpre => by
            obtain ⟨d1, ed, rd1⟩ := rs.get (show items.toList[j]? = some items[j] by simp [h1])
            obtain ⟨d2, ed2, rd2⟩ := rs'.get (show items2.toList[j]? = some items2[j] by simp [h2])
            have e1 : eAt ds es j = Dt.beq d1 d2 := by unfold eAt; rw [ed, ed2]
            have e2 : fAt ds es j = Dt.lt d1 d2 := by unfold fAt; rw [ed, ed2]
            rw [e2]
            exact ih A.in1 (Nat.le_trans (deep_get ed) hn') (cmps_first hc ed ed2 (e1 ▸ hne) hpre) rd1 rd2 (by rw [show A.in1.units = A.units + 1 from rfl]; omega))
        rw [s1, s2] at key
        have ez := lexF_lts ds es ds es 0 rfl rfl (Nat.zero_le _)
        rw [Nat.sub_zero] at ez
        rw [ez] at key
        rw [Dt.lt]
        exact key
      | _ => simp [Dt.cmp] at hc
end L2
set_option Elab.async false
set_option linter.all false
set_option maxRecDepth 100000
set_option maxHeartbeats 4000000
namespace L2
open PySem PySem.Calls PySem.Spec PyProof.Rows PySem.W
section
variable {prog : Program} {w : World} {A : Around} {E : Value → Shared → Prop} {s : Shared}
theorem key_general {u y : Value} {b : Bool} {Q : Bool → Shared → Prop} (hl : LtAt A s u y b) (h : Q b s) : wpAny (model prog w) A (keyLt' general' u y) Q E s := by
  show wpAny (model prog w) A (oneLt' false u y) Q E s
  exact kat_one _ _ (hl prog w E _ h)
theorem key_oneType {a b : Addr} {ds es : List Dt} {items items2 : Array Value} {Q : Bool → Shared → Prop} (ha : s.heap.IsTuple a items) (hb : s.heap.IsTuple b items2) (n : Nat) (hn : Dt.deeps ds ≤ n) (hc : Dt.cmps ds es = true)
    (rs : DAs s.heap ds items.toList) (rs' : DAs s.heap es items2.toList) (hu : A.units + (n + 1) < cLine) (h : Q (Dt.lts ds es) s) : wpAny (model prog w) A (keyLt' oneType' (.ref a) (.ref b)) Q E s := by
  rw [keyLt'_oneType, oneLt'_eq]
  simp only [if_true]
  refine wpAny_bind (wpAny_cRoomFor (by omega) ?_)
  obtain ⟨⟨cls, dd, data, sl⟩, ho, hcl, m, hd⟩ := id ha
  obtain ⟨⟨cls2, dd2, data2, sl2⟩, ho2, hcl2, m2, hd2⟩ := id hb
  simp only at hcl hd hcl2 hd2
  subst hcl hd hcl2 hd2
  have l1 := rs.length
  have l2 := rs'.length
  have s1 : items.size = ds.length := by rw [l1]; simp
  have s2 : items2.size = es.length := by rw [l2]; simp
  have ez := lexF_lts ds es ds es 0 rfl rfl (Nat.zero_le _)
  rw [Nat.sub_zero] at ez
  refine wpAny_bind (wpAny_callSpecialIfBound?_slot (s := s) (T := "tuple") ⟨_, ho, rfl⟩ F.slot_tuple_lt (call_meets (s := s) F.slot_tuple_lt ⟨_, ho, rfl⟩ F.entry_tuple_lt (F.args_tuple_lt_2 _ _) (tuple_ltG a b items items2 m m2 dd dd2 sl sl2 (eAt ds es) (fAt ds es)) ⟨ho, ho2, ?_, ?_, ?_⟩))
  · intro j h1 h2
    obtain ⟨d1, ed, rd1⟩ := rs.get (show items.toList[j]? = some items[j] by simp [h1])
    obtain ⟨d2, ed2, rd2⟩ := rs'.get (show items2.toList[j]? = some items2[j] by simp [h2])
    have : eAt ds es j = Dt.beq d1 d2 := by unfold eAt; rw [ed, ed2]
    rw [this]
    exact eqAt_DA n A.in1 (Nat.le_trans (deep_get ed) hn) rd1 rd2 (by rw [show A.in1.units = A.units + 1 from rfl]; omega)
  · intro j h1 h2 hne hpre
    obtain ⟨d1, ed, rd1⟩ := rs.get (show items.toList[j]? = some items[j] by simp [h1])
    obtain ⟨d2, ed2, rd2⟩ := rs'.get (show items2.toList[j]? = some items2[j] by simp [h2])
    have e1 : eAt ds es j = Dt.beq d1 d2 := by unfold eAt; rw [ed, ed2]
    have e2 : fAt ds es j = Dt.lt d1 d2 := by unfold fAt; rw [ed, ed2]
    rw [e2]
    exact ltAt_DA n A.in1 (Nat.le_trans (deep_get ed) hn) (cmps_first hc ed ed2 (e1 ▸ hne) hpre) rd1 rd2 (by rw [show A.in1.units = A.units + 1 from rfl]; omega)
  · rw [s1, s2, ez]
    show wpAny _ _ (truthOfDropped (.bool (Dt.lts ds es))) Q E s
    exact wpAny_truthy_bool h
theorem key_lex {b : Bool} {Q : Bool → Shared → Prop} (n : Nat) (hu : A.units + (n + 1) < cLine) : ∀ {ds es : List Dt} {us ys : List Value} (i : Nat), DAs s.heap ds us → DAs s.heap es ys → Dt.deeps ds ≤ n → Dt.cmps ds es = true →
    (b = true → i = 0 → ∀ d ∈ ds.head?, ∀ e ∈ es.head?, ∃ x z, d = .str x ∧ e = .str z) → ∀ {fin : Bool}, fin = decide (ds.length < es.length) → Q (Dt.lts ds es) s → KatLex prog w A b fin Q (us.zip ys) i s
  | _, _, _, _, i, .nil, .nil, _, _, _, _, hf, h => by subst hf; exact h
  | _, _, _, _, i, .nil, .cons _ _, _, _, _, _, hf, h => by subst hf; exact h
  | _, _, _, _, i, .cons _ _, .nil, _, _, _, _, hf, h => by subst hf; exact h
  | d :: ds, e :: es, u :: us, y :: ys, i, .cons r q, .cons r' q', hn, hc, hb, fin, hf, h => by
    rw [Dt.deeps] at hn
    rw [Dt.lts] at h
    rw [List.zip_cons_cons]
    refine kat_cons (eqAt_DA n A (by omega) r r' (by omega) prog w _ _ ?_)
    by_cases c : Dt.beq d e = true
    · rw [c]
      rw [if_pos c] at h
      rw [Dt.cmps, if_pos c] at hc
      exact kat_yes (key_lex n hu (i + 1) q q' (by omega) hc (fun _ z => by omega) (by rw [hf]; simp) h)
    · rw [if_neg c] at h
      rw [Dt.cmps, if_neg c] at hc
      rw [show Dt.beq d e = false by simpa using c]
      refine kat_no ?_
      cases hb' : (b && i == 0) with
      | false => exact kat_one _ _ (ltAt_DA n A (by omega) hc r r' (by omega) prog w _ _ h)
      | true =>
        rw [Bool.and_eq_true] at hb'
        obtain ⟨x, z, rfl, rfl⟩ := hb hb'.1 (by simpa using hb'.2) d rfl e rfl
        cases r with
        | str _ t => cases r' with
          | str _ t' => exact oneLt_str (by rw [Dt.lt] at h; exact h)
theorem firsts_DA : ∀ {ds : List Dt} {vs : List Value}, DAs s.heap ds vs → (∀ d ∈ ds, ∃ r, d = .tup r) → ∀ {Q : List (Option Value) → Shared → Prop}, (∀ fs : List (Option Value), fs.length = ds.length → (∀ j : Nat, (fs[j]? = some none) ↔ ds[j]? = some (Dt.tup [])) → Q fs s) → wpAny (model prog w) A (vs.mapM firstOfTuple') Q E s
  | _, _, .nil, _, Q, h => by rw [List.mapM_nil]; exact wpAny_pure (h [] rfl (by simp))
  | d :: ds, v :: vs, .cons r q, ht, Q, h => by
    obtain ⟨l, rfl⟩ := ht d List.mem_cons_self
    cases r with
    | @tup a items _ ha ri =>
      obtain ⟨o, ho, hc, n, hd⟩ := ha
      rw [List.mapM_cons]
      refine wpAny_bind ?_
      rw [kas_first_eq]
      refine wpAny_bind (Looks.here (show Looks (model prog w) s.heap (typeOf (.ref a)) o.cls from (Looks.ld ho).andThen .now) ?_)
      rw [hc, if_neg (by first | decide | simp)]
      refine wpAny_bind (listItems_at ho hd (wpAny_pure ?_))
      refine wpAny_bind (firsts_DA q (fun d hd => ht d (List.mem_cons_of_mem _ hd)) (Q := fun bs s' => wpAny _ A (pure (items[0]? :: bs)) Q E s') fun fs hl hj => wpAny_pure (h _ (by simp [hl]) fun j => ?_))
      cases j with
      | zero =>
        have l1 := ri.length
        cases l with
        | nil =>
          have : items.size = 0 := by simpa using l1.symm
          simp [this]
        | cons x l =>
          have : 0 < items.size := by simp at l1; omega
          simp [this]
      | succ j => simpa using hj j
def GoodK (κ : SortKind) (ds : List Dt) : Prop := κ = general' ∨ κ = oneType' ∨ κ = tuples' false ∨ (κ = tuples' true ∧ ∀ d ∈ ds, ∃ x r, d = .tup (.str x :: r))
def Heads (ds : List Dt) : Prop := (∀ d ∈ ds, ∃ x r, d = .tup (.str x :: r)) ∨ ∀ d ∈ ds, d = .tup [] ∨ ∃ l r, d = .tup (.tup l :: r)
theorem katTups_of {T : Value} (hT : ∀ {d : Dt} {v : Value}, DA s.heap d v → (T = .type "str" ∧ ∃ x, d = .str x) ∨ (T = .type "tuple" ∧ ∃ l, d = .tup l) → Looks (model prog w) s.heap (typeOf v) T) : ∀ {ds : List Dt} {vs : List Value}, DAs s.heap ds vs → (∀ d ∈ ds, ∃ f r, d = .tup (f :: r) ∧ ((T = .type "str" ∧ ∃ x, f = .str x) ∨ (T = .type "tuple" ∧ ∃ l, f = .tup l))) →
    ∃ fs, KatTups s.heap vs fs ∧ fs.length = vs.length ∧ ∀ v ∈ fs, Looks (model prog w) s.heap (typeOf v) T
  | _, _, .nil, _ => ⟨[], trivial, rfl, fun v hv => nomatch hv⟩
  | d :: ds, v :: vs, .cons r q, ht => by
    obtain ⟨fs, h1, h2, h3⟩ := katTups_of hT q fun d hd => ht d (List.mem_cons_of_mem _ hd)
    obtain ⟨f, l, rfl, hf⟩ := ht d List.mem_cons_self
    cases r with
    | @tup a items _ ha ri =>
      obtain ⟨o, ho, hc, n, hd⟩ := ha
      generalize hit : items.toList = its at ri
      cases ri with
      | @cons _ u _ us r0 _ =>
        have h0 : items[0]? = some u := by rw [← Array.getElem?_toList, hit]; rfl
        refine ⟨u :: fs, KatTups.cons ho hc hd h0 h1, by simp [h2], fun v hv => ?_⟩
        rcases List.mem_cons.mp hv with rfl | hv
        · exact hT r0 hf
        · exact h3 v hv
theorem looks_DA {T : Value} {d : Dt} {v : Value} (r : DA s.heap d v) : (T = .type "str" ∧ ∃ x, d = .str x) ∨ (T = .type "tuple" ∧ ∃ l, d = .tup l) → Looks (model prog w) s.heap (typeOf v) T := by
  rintro (⟨rfl, x, rfl⟩ | ⟨rfl, l, rfl⟩)
  · cases r with
    | str _ t => exact Looks.of_pure rfl
  · cases r with
    | @tup a items _ ha _ =>
      obtain ⟨o, ho, hc, n, hd⟩ := ha
      have := (show Looks (model prog w) s.heap (typeOf (.ref a)) o.cls from (Looks.ld ho).andThen .now)
      rw [hc] at this
      exact this
theorem kind_DA {ds : List Dt} {vs : List Value} {Q : SortKind → Shared → Prop} (hd : DAs s.heap ds vs) (h2 : 2 ≤ vs.length) (hh : Heads ds) (h : ∀ κ, GoodK κ ds → Q κ s) : wpAny (model prog w) A (keyKind' vs.toArray) Q E s := by
  have hl := hd.length
  rcases hh with hh | hh
  · obtain ⟨fs, t1, t2, t3⟩ := katTups_of (prog := prog) (w := w) (T := .type "str") looks_DA hd fun d hd => by
      obtain ⟨x, r, rfl⟩ := hh d hd
      exact ⟨_, _, rfl, .inl ⟨rfl, x, rfl⟩⟩
    refine kat_kind (T := .type "str") t1 (by omega) t3 (by decide) (h _ (.inr (.inr (.inr ⟨?_, hh⟩))))
    rw [show (Value.type "str" != Value.type "tuple") = true by decide]
  · by_cases hall : ∀ d ∈ ds, d ≠ .tup []
    · obtain ⟨fs, t1, t2, t3⟩ := katTups_of (prog := prog) (w := w) (T := .type "tuple") looks_DA hd fun d hd => by
        rcases hh d hd with rfl | ⟨l, r, rfl⟩
        · exact absurd rfl (hall _ hd)
        · exact ⟨_, _, rfl, .inr ⟨rfl, l, rfl⟩⟩
      refine kat_kind (T := .type "tuple") t1 (by omega) t3 (by decide) (h _ (.inr (.inr (.inl ?_))))
      rw [show (Value.type "tuple" != Value.type "tuple") = false by decide]
    · have ht : ∀ d ∈ ds, ∃ r, d = .tup r := fun d hd => by
        rcases hh d hd with rfl | ⟨l, r, rfl⟩
        · exact ⟨_, rfl⟩
        · exact ⟨_, rfl⟩
      rw [kat_kind_eq, List.mapM_toArray, map_eq_pure_bind]
      refine wpAny_bind (wpAny_bind (firsts_DA hd ht fun fs hfl hj => wpAny_pure ?_))
      have hno : ¬ (fs.toArray.all fun x => x.isSome) = true := by
        intro z
        apply hall
        intro d hd e
        subst e
        obtain ⟨j, hjl, hje⟩ := List.getElem_of_mem hd
        have := (hj j).mpr (by rw [List.getElem?_eq_getElem hjl, hje])
        rw [List.all_toArray, List.all_eq_true] at z
        have := z none (List.mem_of_getElem? this)
        cases this
      rw [if_neg hno]
      by_cases c0 : ((fs.toArray[0]?.bind id).isSome) = true
      · rw [if_pos c0]
        exact wpAny_pure (h _ (.inl rfl))
      · rw [if_neg c0]
        rw [oneTypeOnly'_eq, List.mapM_toArray, map_eq_pure_bind]
        have hT : ∀ v ∈ vs, Looks (model prog w) s.heap (typeOf v) (.type "tuple") := fun v hv => by
          obtain ⟨j, hjl, hje⟩ := List.getElem_of_mem hv
          obtain ⟨d, ed, rd⟩ := hd.get (show vs[j]? = some v by rw [List.getElem?_eq_getElem hjl, hje])
          obtain ⟨l, rfl⟩ := ht d (List.mem_of_getElem? ed)
          exact looks_DA rd (.inr ⟨rfl, l, rfl⟩)
        refine wpAny_bind (wpAny_bind (wpAny_bind (kas_mapM (r := Value.type "tuple") _ (fun v hv Q' hq => (hT v hv).here hq) (wpAny_pure ?_))))
        obtain ⟨v1, vr, rfl⟩ : ∃ v1 vr, vs = v1 :: vr := by
          match vs, h2 with
          | v1 :: vr, _ => exact ⟨v1, vr, rfl⟩
        have h0 : (List.map (fun _ => Value.type "tuple") (v1 :: vr)).toArray[0]? = some (.type "tuple") := by simp
        have hall2 : ((List.map (fun _ => Value.type "tuple") (v1 :: vr)).toArray.all fun x => x == Value.type "tuple") = true := by
          simp only [List.all_toArray, List.all_map, List.all_eq_true]
          intro _ _
          show (Value.type "tuple" == Value.type "tuple") = true
          decide
        rw [h0]
        simp only [hall2, if_true]
        exact wpAny_pure (wpAny_pure (h _ (.inr (.inl rfl))))
theorem ask_DA {κ : SortKind} {ds : List Dt} (hg : GoodK κ ds) {d e : Dt} (hd : d ∈ ds) (he : e ∈ ds) (htd : ∃ r, d = .tup r) (hte : ∃ r, e = .tup r) (n : Nat) (hn : d.deep ≤ n) (hc : Dt.cmp d e = true) {u y : Value} (rd : DA s.heap d u) (re : DA s.heap e y) (hu : A.units + n < cLine) {Q : Bool → Shared → Prop} (h : Q (Dt.lt d e) s) :
    wpAny (model prog w) A (keyLt' κ u y) Q E s := by
  obtain ⟨r1, rfl⟩ := htd
  obtain ⟨r2, rfl⟩ := hte
  obtain ⟨m, rfl⟩ : ∃ m, n = m + 1 := ⟨n - 1, by rw [Dt.deep] at hn; omega⟩
  rcases hg with rfl | rfl | rfl | ⟨rfl, hs⟩
  · exact key_general (ltAt_DA (m + 1) A hn hc rd re hu) h
  · cases rd with
    | tup ha ra => cases re with
      | tup hb rb => exact key_oneType ha hb m (by rw [Dt.deep] at hn; omega) (by rw [Dt.cmp] at hc; exact hc) ra rb hu (by rw [Dt.lt] at h; exact h)
  · cases rd with
    | tup ha ra => cases re with
      | tup hb rb =>
        obtain ⟨o, ho, _, k, hd'⟩ := ha
        obtain ⟨o', ho', _, k', hd''⟩ := hb
        have l1 := ra.length
        have l2 := rb.length
        exact kat_lt ho hd' ho' hd'' (key_lex m hu 0 ra rb (by rw [Dt.deep] at hn; omega) (by rw [Dt.cmp] at hc; exact hc) (fun z => by cases z) (by rw [l1, l2]; simp) (by rw [Dt.lt] at h; exact h))
  · cases rd with
    | tup ha ra => cases re with
      | tup hb rb =>
        obtain ⟨o, ho, _, k, hd'⟩ := ha
        obtain ⟨o', ho', _, k', hd''⟩ := hb
        have l1 := ra.length
        have l2 := rb.length
        refine kat_lt ho hd' ho' hd'' (key_lex m hu 0 ra rb (by rw [Dt.deep] at hn; omega) (by rw [Dt.cmp] at hc; exact hc) (fun _ _ d1 h1 e1 h2 => ?_) (by rw [l1, l2]; simp) (by rw [Dt.lt] at h; exact h))
        obtain ⟨x, q, e3⟩ := hs _ hd
        obtain ⟨x', q', e4⟩ := hs _ he
        injection e3 with e3
        injection e4 with e4
        subst e3 e4
        simp at h1 h2
        exact ⟨x, x', h1.symm, h2.symm⟩
end
end L2
set_option Elab.async false
set_option linter.all false
set_option maxRecDepth 100000
set_option maxHeartbeats 4000000
namespace L2
open PySem PySem.Calls PySem.Spec PyProof.Rows PySem.W
section
variable {prog : Program} {w : World} {A : Around} {E : Value → Shared → Prop} {s : Shared}
end
def insD (d : Dt) : List Dt → List Dt
  | [] => [d]
  | e :: es => if Dt.lt e d = true then e :: insD d es else d :: e :: es
def sortD : List Dt → List Dt
  | [] => []
  | d :: ds => insD d (sortD ds)
def OrdD (ds : List Dt) : Prop := ds.Pairwise fun a b => Dt.lt b a = false
theorem insD_perm (d : Dt) : ∀ ds : List Dt, (insD d ds).Perm (d :: ds)
  | [] => .refl _
  | e :: es => by
    unfold insD
    split
    · exact ((insD_perm d es).cons e).trans (.swap d e es)
    · exact .refl _
theorem sortD_perm : ∀ ds : List Dt, (sortD ds).Perm ds
  | [] => .refl _
  | d :: ds => (insD_perm d _).trans ((sortD_perm ds).cons d)
theorem insD_ord (d : Dt) : ∀ {ds : List Dt}, OrdD ds → OrdD (insD d ds)
  | [], _ => by unfold insD OrdD; exact List.pairwise_singleton _ _
  | e :: es, h => by
    unfold OrdD at h ⊢
    obtain ⟨h1, h2⟩ := List.pairwise_cons.mp h
    unfold insD
    by_cases c : Dt.lt e d = true
    · rw [if_pos c]
      refine List.pairwise_cons.mpr ⟨fun x hx => ?_, insD_ord d h2⟩
      rcases List.mem_cons.mp ((insD_perm d es).mem_iff.mp hx) with rfl | hx
      · exact Dt.lt_asym c
      · exact h1 x hx
    · rw [if_neg c]
      have c' : Dt.lt e d = false := by simpa using c
      refine List.pairwise_cons.mpr ⟨fun x hx => ?_, h⟩
      rcases List.mem_cons.mp hx with rfl | hx
      · exact c'
      · exact Dt.lt_neg (h1 x hx) c'
theorem sortD_ord : ∀ ds : List Dt, OrdD (sortD ds)
  | [] => .nil
  | d :: ds => insD_ord d (sortD_ord ds)
theorem ord_unique : ∀ {a b : List Dt}, OrdD a → OrdD b → a.Perm b → a = b
  | [], b, _, _, p => (List.nil_perm.mp p).symm
  | x :: a, [], _, _, p => absurd p.length_eq (by simp)
  | x :: a, y :: b, ha, hb, p => by
    obtain ⟨h1, h2⟩ := List.pairwise_cons.mp ha
    obtain ⟨k1, k2⟩ := List.pairwise_cons.mp hb
    have e : x = y := by
      have m1 : x ∈ y :: b := p.mem_iff.mp List.mem_cons_self
      have m2 : y ∈ x :: a := p.mem_iff.mpr List.mem_cons_self
      rcases List.mem_cons.mp m1 with e | m1
      · exact e
      · rcases List.mem_cons.mp m2 with e | m2
        · exact e.symm
        · exact Dt.lt_tri (k1 x m1) (h1 y m2)
    subst e
    rw [ord_unique h2 k2 (List.perm_cons x |>.mp p)]
theorem sortD_of {a b : List Dt} (h : OrdD a) (p : a.Perm b) : a = sortD b := ord_unique h (sortD_ord b) (p.trans (sortD_perm b).symm)
theorem sortD_congr {a b : List Dt} (p : a.Perm b) : sortD a = sortD b := sortD_of (sortD_ord a) ((sortD_perm a).trans p)
end L2
set_option Elab.async false
set_option linter.all false
set_option maxRecDepth 100000
set_option maxHeartbeats 4000000
namespace L2
open PySem PySem.W PyProof.Rows
def gallop' : Bool → Keyed → Array Keyed → Nat → Nat → Nat → StateT SortSt Sem (Option Nat) := sortPriv% PySem.Builtin.gallop
def mergeLo' : Array Keyed → Array Keyed → StateT SortSt Sem (Array Keyed) := sortPriv% PySem.Builtin.mergeLo
def mergeHi' : Array Keyed → Array Keyed → StateT SortSt Sem (Array Keyed) := sortPriv% PySem.Builtin.mergeHi
structure LtE (M : Model) (A : Around) (E : Value → Shared → Prop) (s : Shared) (κ : SortKind) (G : Keyed → Prop) (R : Keyed → Keyed → Bool) : Prop where
  lt : ∀ x y, G x → G y → ∀ (st : SortSt) (Q : Option Bool → SortSt → Prop), kindOf st = κ → Q (some (R x y)) st → wpS M A E s (lt' x y) Q st
  asym : ∀ x y, G x → G y → R x y = true → R y x = false
  tr : ∀ x y z, G x → G y → G z → R x y = false → R y z = false → R x z = false
section
variable {M : Model} {A : Around} {E : Value → Shared → Prop} {s : Shared} {κ : SortKind} {G : Keyed → Prop} {R : Keyed → Keyed → Bool}
theorem wpS_rule {n : String} {Q : Unit → SortSt → Prop} {st : SortSt} (h : Q () st) : wpS M A E s (liftM (rule n) : StateT SortSt Sem Unit) Q st := wpS_lift (wpAny_rule ⟨rfl, h⟩)
theorem wpS_elem {arr : Array Keyed} {i : Nat} {x : Keyed} {Q : Keyed → SortSt → Prop} {st : SortSt} (e : arr[i]? = some x) (h : Q x st) : wpS M A E s (elem' arr i) Q st := by
  rw [elem'_eq, e]
  exact wpS_pure h
def byd (R : Keyed → Keyed → Bool) (left : Bool) (key x : Keyed) : Bool := if left = true then R x key else !R key x
theorem bey (L : LtE M A E s κ G R) {left : Bool} {key : Keyed} {arr : Array Keyed} {base n i : Nat} {f : Nat → Keyed} {st : SortSt} {Q : Option Bool → SortSt → Prop} (hk : kindOf st = κ) (gk : G key) (hf : ∀ i, i < n → arr[base + i]? = some (f i)) (gf : ∀ i, i < n → G (f i)) (hi : i < n) (h : Q (some (byd R left key (f i))) st) :
    wpS M A E s ((do let x ← elem' arr (base + i); if left = true then lt' x key else do let r ← lt' key x; pure (r.map (!·))) : StateT SortSt Sem (Option Bool)) Q st := by
  refine wpS_bind (wpS_elem (hf i hi) ?_)
  unfold byd at h
  by_cases c : left = true
  · rw [if_pos c] at h ⊢
    exact L.lt _ _ (gf i hi) gk st Q hk h
  · rw [if_neg c] at h ⊢
    exact wpS_bind (L.lt _ _ gk (gf i hi) st _ hk (wpS_pure h))
theorem gallop_ok (L : LtE M A E s κ G R) {left : Bool} {key : Keyed} {arr : Array Keyed} {base n hint : Nat} {f : Nat → Keyed} {st : SortSt} {Q : Option Nat → SortSt → Prop} (hk : kindOf st = κ) (gk : G key) (hf : ∀ i, i < n → arr[base + i]? = some (f i)) (gf : ∀ i, i < n → G (f i)) (hh : hint < n)
    (hmono : ∀ i j, i ≤ j → j < n → byd R left key (f j) = true → byd R left key (f i) = true)
    (h : ∀ k, k ≤ n → (∀ i, i < k → byd R left key (f i) = true) → (∀ i, k ≤ i → i < n → byd R left key (f i) = false) → Q (some k) st) : wpS M A E s (gallop' left key arr base n hint) Q st := by
  refine wpS_bind (bey L hk gk hf gf hh ?_)
  dsimp only
  cases hc : byd R left key (f hint) with
  | true =>
    rw [if_pos rfl]
    refine wpS_bind (wpS_mono (wpS_forRange (I := fun i (c : Option (Option Nat) × Nat × Nat) st' => st = st' ∧ c.1 = none ∧ i + 1 ≤ c.2.2 ∧ c.2.1 < c.2.2 ∧ hint + c.2.1 < n ∧ byd R left key (f (hint + c.2.1)) = true) (Q := fun c st' => st = st' ∧ c.1 = none ∧ hint + c.2.1 < n ∧ c.2.1 < c.2.2 ∧ byd R left key (f (hint + c.2.1)) = true ∧ (n - hint ≤ c.2.2 ∨ (hint + c.2.2 < n ∧ byd R left key (f (hint + c.2.2)) = false))) ?_ ?_ ⟨rfl, rfl, Nat.le_refl _, Nat.zero_lt_one, hh, hc⟩) ?_)
    · rintro i ⟨r, la, o⟩ st' _ hin ⟨rfl, rfl, h1, h2, h3, h4⟩
      dsimp only at h1 h2 h3 h4 ⊢
      by_cases c : o ≥ n - hint
      · rw [if_pos c]
        exact wpS_pure ⟨rfl, rfl, h3, h2, h4, .inl c⟩
      · rw [if_neg c]
        refine wpS_bind (bey L hk gk hf gf (i := hint + o) (by omega) ?_)
        dsimp only
        cases hm : byd R left key (f (hint + o)) with
        | true => exact wpS_pure ⟨rfl, rfl, (by dsimp only; omega), (by dsimp only; omega), (by dsimp only; omega), hm⟩
        | false => exact wpS_pure ⟨rfl, rfl, h3, h2, h4, .inr ⟨by dsimp only; omega, hm⟩⟩
    · rintro ⟨r, la, o⟩ st' ⟨rfl, rfl, h1, h2, h3, h4⟩
      dsimp only at h1 h2 h3 h4 ⊢
      exact ⟨rfl, rfl, h3, h2, h4, .inl (by omega)⟩
    rintro ⟨r, la, o⟩ st' ⟨rfl, rfl, h1, h2, h3, h4⟩
    dsimp only at h1 h2 h3 h4 ⊢
    refine wpS_bind (wpS_forRange (I := fun i (c : Option (Option Nat) × Nat × Nat) st' => st = st' ∧ c.1 = none ∧ c.2.1 ≤ c.2.2 ∧ c.2.2 ≤ n ∧ c.2.2 - c.2.1 ≤ n - i ∧ (∀ j, j < c.2.1 → byd R left key (f j) = true) ∧ (∀ j, c.2.2 ≤ j → j < n → byd R left key (f j) = false)) ?_ ?_ ⟨rfl, rfl, (by dsimp only; omega), (by dsimp only; omega), (by dsimp only; omega), (fun j hj => hmono j _ (by dsimp only at hj; omega) h1 h3), (fun j hj hjn => by
      dsimp only at hj
      rcases h4 with h4 | ⟨h5, h6⟩
      · omega
      · cases z : byd R left key (f j) with
        | false => rfl
        | true => rw [hmono _ j (by omega) hjn z] at h6; cases h6)⟩)
    · rintro i ⟨r, lo, hi⟩ st' _ hin ⟨rfl, rfl, hlh, hhn, hfu, hlo, hhi⟩
      dsimp only at hlh hhn hfu hlo hhi ⊢
      by_cases c : lo ≥ hi
      · rw [if_pos c]
        refine wpS_pure ?_
        have : lo = hi := by omega
        subst this
        exact wpS_pure (h lo hhn hlo hhi)
      · rw [if_neg c]
        refine wpS_bind (bey L hk gk hf gf (i := lo + (hi - lo) / 2) (by omega) ?_)
        dsimp only
        cases hm : byd R left key (f (lo + (hi - lo) / 2)) with
        | true => exact wpS_pure ⟨rfl, rfl, (by dsimp only; omega), hhn, (by dsimp only; omega), fun j hj => hmono j _ (by dsimp only at hj; omega) (by omega) hm, hhi⟩
        | false => exact wpS_pure ⟨rfl, rfl, (by dsimp only; omega), (by dsimp only; omega), (by dsimp only; omega), hlo, fun j hj hjn => by
            cases z : byd R left key (f j) with
            | false => rfl
            | true => rw [hmono _ j hj hjn z] at hm; cases hm⟩
    · rintro ⟨r, lo, hi⟩ st' ⟨rfl, rfl, hlh, hhn, hfu, hlo, hhi⟩
      dsimp only at hlh hhn hfu hlo hhi ⊢
      have : lo = hi := by omega
      subst this
      exact wpS_pure (h lo hhn hlo hhi)
  | false =>
    rw [if_neg (by simp)]
    refine wpS_bind (wpS_mono (wpS_forRange (I := fun i (c : Option (Option Nat) × Nat × Nat) st' => st = st' ∧ c.1 = none ∧ i + 1 ≤ c.2.2 ∧ c.2.1 < c.2.2 ∧ c.2.1 ≤ hint ∧ byd R left key (f (hint - c.2.1)) = false) (Q := fun c st' => st = st' ∧ c.1 = none ∧ c.2.1 ≤ hint ∧ c.2.1 < c.2.2 ∧ byd R left key (f (hint - c.2.1)) = false ∧ (hint + 1 ≤ c.2.2 ∨ (c.2.2 ≤ hint ∧ byd R left key (f (hint - c.2.2)) = true))) ?_ ?_ ⟨rfl, rfl, Nat.le_refl _, Nat.zero_lt_one, Nat.zero_le _, hc⟩) ?_)
    · rintro i ⟨r, la, o⟩ st' _ hin ⟨rfl, rfl, h1, h2, h3, h4⟩
      dsimp only at h1 h2 h3 h4 ⊢
      by_cases c : o ≥ hint + 1
      · rw [if_pos c]
        exact wpS_pure ⟨rfl, rfl, h3, h2, h4, .inl c⟩
      · rw [if_neg c]
        refine wpS_bind (bey L hk gk hf gf (i := hint - o) (by omega) ?_)
        dsimp only
        cases hm : byd R left key (f (hint - o)) with
        | false => exact wpS_pure ⟨rfl, rfl, (by dsimp only; omega), (by dsimp only; omega), (by dsimp only; omega), hm⟩
        | true => exact wpS_pure ⟨rfl, rfl, h3, h2, h4, .inr ⟨by dsimp only; omega, hm⟩⟩
    · rintro ⟨r, la, o⟩ st' ⟨rfl, rfl, h1, h2, h3, h4⟩
      dsimp only at h1 h2 h3 h4 ⊢
      exact ⟨rfl, rfl, h3, h2, h4, .inl (by omega)⟩
    rintro ⟨r, la, o⟩ st' ⟨rfl, rfl, h1, h2, h3, h4⟩
    dsimp only at h1 h2 h3 h4 ⊢
    refine wpS_bind (wpS_forRange (I := fun i (c : Option (Option Nat) × Nat × Nat) st' => st = st' ∧ c.1 = none ∧ c.2.1 ≤ c.2.2 ∧ c.2.2 ≤ n ∧ c.2.2 - c.2.1 ≤ n - i ∧ (∀ j, j < c.2.1 → byd R left key (f j) = true) ∧ (∀ j, c.2.2 ≤ j → j < n → byd R left key (f j) = false)) ?_ ?_ ⟨rfl, rfl, (by dsimp only; omega), (by dsimp only; omega), (by dsimp only; omega), (fun j hj => by
      dsimp only at hj
      rcases h4 with h4 | ⟨h5, h6⟩
      · omega
      · exact hmono j _ (by omega) (by omega) h6), (fun j hj hjn => by
      dsimp only at hj
      cases z : byd R left key (f j) with
        | false => rfl
        | true => rw [hmono _ j (by omega) hjn z] at h3; cases h3)⟩)
    · rintro i ⟨r, lo, hi⟩ st' _ hin ⟨rfl, rfl, hlh, hhn, hfu, hlo, hhi⟩
      dsimp only at hlh hhn hfu hlo hhi ⊢
      by_cases c : lo ≥ hi
      · rw [if_pos c]
        refine wpS_pure ?_
        have : lo = hi := by omega
        subst this
        exact wpS_pure (h lo hhn hlo hhi)
      · rw [if_neg c]
        refine wpS_bind (bey L hk gk hf gf (i := lo + (hi - lo) / 2) (by omega) ?_)
        dsimp only
        cases hm : byd R left key (f (lo + (hi - lo) / 2)) with
        | true => exact wpS_pure ⟨rfl, rfl, (by dsimp only; omega), hhn, (by dsimp only; omega), fun j hj => hmono j _ (by dsimp only at hj; omega) (by omega) hm, hhi⟩
        | false => exact wpS_pure ⟨rfl, rfl, (by dsimp only; omega), (by dsimp only; omega), (by dsimp only; omega), hlo, fun j hj hjn => by
            cases z : byd R left key (f j) with
            | false => rfl
            | true => rw [hmono _ j hj hjn z] at hm; cases hm⟩
    · rintro ⟨r, lo, hi⟩ st' ⟨rfl, rfl, hlh, hhn, hfu, hlo, hhi⟩
      dsimp only at hlh hhn hfu hlo hhi ⊢
      have : lo = hi := by omega
      subst this
      exact wpS_pure (h lo hhn hlo hhi)
end
end L2
set_option Elab.async false
set_option linter.all false
set_option maxRecDepth 100000
set_option maxHeartbeats 4000000
namespace L2
open PySem PySem.W PyProof.Rows
def OL (R : Keyed → Keyed → Bool) (l : List Keyed) : Prop := l.Pairwise fun x y => R y x = false
structure MI (R : Keyed → Keyed → Bool) (A B o as bs : List Keyed) : Prop where
  ord : OL R o
  le : ∀ x ∈ o, ∀ y, y ∈ as ∨ y ∈ bs → R y x = false
  perm : (o ++ (as ++ bs)).Perm (A ++ B)
  sa : OL R as
  sb : OL R bs
section
variable {R : Keyed → Keyed → Bool} {A B o as bs p : List Keyed}
theorem MI.a (h : MI R A B o (p ++ as) bs) (hp : ∀ x ∈ p, ∀ y ∈ bs, R y x = false) : MI R A B (o ++ p) as bs := by
  obtain ⟨s1, s2, s3⟩ := List.pairwise_append.mp h.sa
  refine ⟨List.pairwise_append.mpr ⟨h.ord, s1, fun x hx y hy => h.le x hx y (.inl (List.mem_append_left _ hy))⟩, fun x hx y hy => ?_, ?_, s2, h.sb⟩
  · rcases List.mem_append.mp hx with hx | hx
    · exact h.le x hx y (hy.imp (List.mem_append_right _) id)
    · rcases hy with hy | hy
      · exact s3 x hx y hy
      · exact hp x hx y hy
  · have e : o ++ p ++ (as ++ bs) = o ++ (p ++ as ++ bs) := by simp [List.append_assoc]
    rw [e]; exact h.perm
theorem MI.b (h : MI R A B o as (p ++ bs)) (hp : ∀ x ∈ p, ∀ y ∈ as, R y x = false) : MI R A B (o ++ p) as bs := by
  obtain ⟨s1, s2, s3⟩ := List.pairwise_append.mp h.sb
  refine ⟨List.pairwise_append.mpr ⟨h.ord, s1, fun x hx y hy => h.le x hx y (.inr (List.mem_append_left _ hy))⟩, fun x hx y hy => ?_, ?_, h.sa, s2⟩
  · rcases List.mem_append.mp hx with hx | hx
    · exact h.le x hx y (hy.imp id (List.mem_append_right _))
    · rcases hy with hy | hy
      · exact hp x hx y hy
      · exact s3 x hx y hy
  · refine List.Perm.trans ?_ h.perm
    rw [List.append_assoc]
    refine List.Perm.append_left _ ?_
    rw [← List.append_assoc, ← List.append_assoc]
    exact List.Perm.append_right _ List.perm_append_comm
theorem MI.fin (h : MI R A B o as bs) (hp : ∀ x ∈ as, ∀ y ∈ bs, R y x = false) : OL R (o ++ as ++ bs) ∧ (o ++ as ++ bs).Perm (A ++ B) := by
  rw [List.append_assoc]
  refine ⟨List.pairwise_append.mpr ⟨h.ord, List.pairwise_append.mpr ⟨h.sa, h.sb, hp⟩, fun x hx y hy => h.le x hx y (List.mem_append.mp hy)⟩, h.perm⟩
theorem MI.fin2 (h : MI R A B o as bs) (hp : ∀ x ∈ bs, ∀ y ∈ as, R y x = false) : OL R (o ++ bs ++ as) ∧ (o ++ bs ++ as).Perm (A ++ B) := by
  rw [List.append_assoc]
  refine ⟨List.pairwise_append.mpr ⟨h.ord, List.pairwise_append.mpr ⟨h.sb, h.sa, hp⟩, fun x hx y hy => h.le x hx y (List.mem_append.mp hy).symm⟩, ?_⟩
  exact (List.Perm.append_left _ List.perm_append_comm).trans h.perm
end
abbrev setG (st : SortSt) (g : Nat) : SortSt := SortSt.mk' (kindOf st) (arrOf st) (pendingOf st) g (failedOf st)
section
variable {M : Model} {A : Around} {E : Value → Shared → Prop} {s : Shared} {κ : SortKind} {G : Keyed → Prop} {R : Keyed → Keyed → Bool}
abbrev d0 : Keyed := (.none, .none)
theorem ex_all (a : Array Keyed) (i : Nat) : (a.extract i).toList = a.toList.drop i := by
  rw [Array.toList_extract, List.extract_eq_take_drop]
  exact List.take_of_length_le (by simp)
theorem ex_k (a : Array Keyed) (i k : Nat) : (a.extract i (i + k)).toList = (a.toList.drop i).take k := by
  rw [Array.toList_extract, List.extract_eq_take_drop, Nat.add_sub_cancel_left]
theorem drop_at {a : Array Keyed} {i : Nat} (h : i < a.size) : a.toList.drop i = a.getD i d0 :: a.toList.drop (i + 1) := by
  rw [List.drop_eq_getElem_cons (by simpa using h)]
  congr 1
  simp [Array.getD, h]
theorem at_get {a : Array Keyed} {i : Nat} (h : i < a.size) : a[i]? = some (a.getD i d0) := by simp [Array.getD, h]
theorem at_mem {a : Array Keyed} {i : Nat} (h : i < a.size) : a.getD i d0 ∈ a.toList := by
  have : a.getD i d0 = a[i] := by simp [Array.getD, h]
  rw [this]; simp
theorem mem_drop {a : Array Keyed} {i : Nat} {x : Keyed} (h : x ∈ a.toList.drop i) : ∃ j, i ≤ j ∧ j < a.size ∧ x = a.getD j d0 := by
  obtain ⟨j, hj, e⟩ := List.getElem_of_mem h
  rw [List.length_drop] at hj
  have hj' : i + j < a.size := by simp at hj; omega
  refine ⟨i + j, by omega, hj', ?_⟩
  rw [← e, List.getElem_drop]
  simp [Array.getD, hj']
theorem mem_take {a : Array Keyed} {i k : Nat} {x : Keyed} (h : x ∈ (a.toList.drop i).take k) : ∃ j, j < k ∧ i + j < a.size ∧ x = a.getD (i + j) d0 := by
  obtain ⟨j, hj, e⟩ := List.getElem_of_mem h
  rw [List.length_take, List.length_drop] at hj
  have hj' : i + j < a.size := by simp at hj; omega
  refine ⟨j, by omega, hj', ?_⟩
  rw [← e, List.getElem_take, List.getElem_drop]
  simp [Array.getD, hj']
theorem ol_at {a : Array Keyed} (h : OL R a.toList) {i j : Nat} (hij : i < j) (hj : j < a.size) : R (a.getD j d0) (a.getD i d0) = false := by
  have := List.pairwise_iff_getElem.mp h i j (by simp; omega) (by simpa using hj) hij
  simpa [Array.getD, hj, show i < a.size by omega] using this
theorem mono_r (L : LtE M A E s κ G R) {key : Keyed} {f : Nat → Keyed} {n : Nat} (gk : G key) (gf : ∀ i, i < n → G (f i)) (sg : ∀ i j, i < j → j < n → R (f j) (f i) = false) : ∀ i j, i ≤ j → j < n → byd R false key (f j) = true → byd R false key (f i) = true := fun i j hij hj h => by
  by_cases e : i = j
  · rw [e]; exact h
  · simp [byd] at h ⊢
    exact L.tr _ _ _ gk (gf j hj) (gf i (by omega)) h (sg i j (by omega) hj)
theorem mono_l (L : LtE M A E s κ G R) {key : Keyed} {f : Nat → Keyed} {n : Nat} (gk : G key) (gf : ∀ i, i < n → G (f i)) (sg : ∀ i j, i < j → j < n → R (f j) (f i) = false) : ∀ i j, i ≤ j → j < n → byd R true key (f j) = true → byd R true key (f i) = true := fun i j hij hj h => by
  by_cases e : i = j
  · rw [e]; exact h
  · simp [byd] at h ⊢
    cases z : R (f i) key with
    | true => rfl
    | false => rw [L.tr _ _ _ (gf j hj) (gf i (by omega)) gk (sg i j (by omega) hj) z] at h; cases h
structure ML (R : Keyed → Keyed → Bool) (G : Keyed → Prop) (a b : Array Keyed) : Prop where
  ga : ∀ x ∈ a.toList, G x
  gb : ∀ x ∈ b.toList, G x
  oa : OL R a.toList
  ob : OL R b.toList
section
variable {a b o : Array Keyed} {ia ib k : Nat}
abbrev MA (R : Keyed → Keyed → Bool) (a b o : Array Keyed) (ia ib : Nat) : Prop := MI R a.toList b.toList o.toList (a.toList.drop ia) (b.toList.drop ib)
theorem ML.ga_at (m : ML R G a b) {i : Nat} (h : i < a.size) : G (a.getD i d0) := m.ga _ (at_mem h)
theorem ML.gb_at (m : ML R G a b) {i : Nat} (h : i < b.size) : G (b.getD i d0) := m.gb _ (at_mem h)
theorem ML.a_le (L : LtE M A E s κ G R) (m : ML R G a b) {i j : Nat} (hij : i ≤ j) (hj : j < a.size) : R (a.getD j d0) (a.getD i d0) = false := by
  by_cases e : i = j
  · subst e
    cases z : R (a.getD i d0) (a.getD i d0) with
    | false => rfl
    | true => have := L.asym _ _ (m.ga_at hj) (m.ga_at hj) z; rw [z] at this; cases this
  · exact ol_at m.oa (by omega) hj
theorem ML.b_le (L : LtE M A E s κ G R) (m : ML R G a b) {i j : Nat} (hij : i ≤ j) (hj : j < b.size) : R (b.getD j d0) (b.getD i d0) = false := by
  by_cases e : i = j
  · subst e
    cases z : R (b.getD i d0) (b.getD i d0) with
    | false => rfl
    | true => have := L.asym _ _ (m.gb_at hj) (m.gb_at hj) z; rw [z] at this; cases this
  · exact ol_at m.ob (by omega) hj
theorem MA.pb (h : MA R a b o ia ib) (hb : ib < b.size) (hp : ∀ j, ia ≤ j → j < a.size → R (a.getD j d0) (b.getD ib d0) = false) : MA R a b (o.push (b.getD ib d0)) ia (ib + 1) := by
  unfold MA at h ⊢
  rw [drop_at hb] at h
  rw [Array.toList_push]
  refine MI.b (p := [b.getD ib d0]) h fun x hx y hy => ?_
  rw [List.mem_singleton] at hx
  subst hx
  obtain ⟨j, h1, h2, rfl⟩ := mem_drop hy
  exact hp j h1 h2
theorem MA.pa (h : MA R a b o ia ib) (ha : ia < a.size) (hp : ∀ j, ib ≤ j → j < b.size → R (b.getD j d0) (a.getD ia d0) = false) : MA R a b (o.push (a.getD ia d0)) (ia + 1) ib := by
  unfold MA at h ⊢
  rw [drop_at ha] at h
  rw [Array.toList_push]
  refine MI.a (p := [a.getD ia d0]) h fun x hx y hy => ?_
  rw [List.mem_singleton] at hx
  subst hx
  obtain ⟨j, h1, h2, rfl⟩ := mem_drop hy
  exact hp j h1 h2
theorem MA.ka (h : MA R a b o ia ib) (hp : ∀ i, i < k → ia + i < a.size → ∀ j, ib ≤ j → j < b.size → R (b.getD j d0) (a.getD (ia + i) d0) = false) : MA R a b (o ++ a.extract ia (ia + k)) (ia + k) ib := by
  unfold MA at h ⊢
  rw [Array.toList_append, ex_k]
  refine MI.a (p := (a.toList.drop ia).take k) (by rw [← List.drop_drop, List.take_append_drop]; exact h) fun x hx y hy => ?_
  obtain ⟨i, i1, i2, rfl⟩ := mem_take hx
  obtain ⟨j, h1, h2, rfl⟩ := mem_drop hy
  exact hp i i1 i2 j h1 h2
theorem MA.kb (h : MA R a b o ia ib) (hp : ∀ i, i < k → ib + i < b.size → ∀ j, ia ≤ j → j < a.size → R (a.getD j d0) (b.getD (ib + i) d0) = false) : MA R a b (o ++ b.extract ib (ib + k)) ia (ib + k) := by
  unfold MA at h ⊢
  rw [Array.toList_append, ex_k]
  refine MI.b (p := (b.toList.drop ib).take k) (by rw [← List.drop_drop, List.take_append_drop]; exact h) fun x hx y hy => ?_
  obtain ⟨i, i1, i2, rfl⟩ := mem_take hx
  obtain ⟨j, h1, h2, rfl⟩ := mem_drop hy
  exact hp i i1 i2 j h1 h2
abbrev Mgd (R : Keyed → Keyed → Bool) (a b x : Array Keyed) : Prop := OL R x.toList ∧ x.toList.Perm (a.toList ++ b.toList)
theorem MA.done (h : MA R a b o ia ib) (hd : a.size ≤ ia ∨ b.size ≤ ib) : Mgd R a b (o ++ a.extract ia ++ b.extract ib) := by
  unfold Mgd
  rw [Array.toList_append, Array.toList_append, ex_all, ex_all]
  refine MI.fin h fun x hx y hy => ?_
  obtain ⟨i, i1, i2, _⟩ := mem_drop hx
  obtain ⟨j, j1, j2, _⟩ := mem_drop hy
  omega
theorem MA.last (h : MA R a b o ia ib) (hl : ∀ j, ib ≤ j → j < b.size → ∀ i, ia ≤ i → i < a.size → R (a.getD i d0) (b.getD j d0) = false) : Mgd R a b (o ++ b.extract ib ++ a.extract ia) := by
  unfold Mgd
  rw [Array.toList_append, Array.toList_append, ex_all, ex_all]
  refine MI.fin2 h fun x hx y hy => ?_
  obtain ⟨j, j1, j2, rfl⟩ := mem_drop hx
  obtain ⟨i, i1, i2, rfl⟩ := mem_drop hy
  exact hl j j1 j2 i i1 i2
end
end
end L2
set_option Elab.async false
set_option linter.all false
set_option maxRecDepth 100000
set_option maxHeartbeats 4000000
namespace L2
open PySem PySem.W PyProof.Rows
def setMin' : Nat → StateT SortSt Sem Unit := sortPriv% PySem.Builtin.setMinGallop
section
variable {M : Model} {A : Around} {E : Value → Shared → Prop} {s : Shared} {κ : SortKind} {G : Keyed → Prop} {R : Keyed → Keyed → Bool}
theorem wpS_setMin {g : Nat} {Q : Unit → SortSt → Prop} {st : SortSt} (h : Q () (setG st g)) : wpS M A E s (setMin' g) Q st := wpS_modify h
theorem mergeLo_ok (L : LtE M A E s κ G R) {a b : Array Keyed} {st : SortSt} {Q : Array Keyed → SortSt → Prop} (hk : kindOf st = κ) (m : ML R G a b) (ha : 0 < a.size) (hb : 0 < b.size)
    (h0 : ∀ i, i < a.size → R (a.getD i d0) (b.getD 0 d0) = false) (hl : ∀ j, j < b.size → R (a.getD (a.size - 1) d0) (b.getD j d0) = false)
    (h : ∀ out g, Mgd R a b out → Q out (setG st g)) : wpS M A E s (mergeLo' a b) Q st := by
  have start : MA R a b #[b.getD 0 d0] 0 1 := by
    have z : MA R a b #[] 0 0 := ⟨List.Pairwise.nil, (fun x hx => nomatch hx), by simp, by simpa using m.oa, by simpa using m.ob⟩
    have := z.pb hb fun j _ hj => h0 j hj
    simpa using this
  have hlast : ∀ {o : Array Keyed} {ia ib : Nat}, MA R a b o ia ib → ia + 1 = a.size → Mgd R a b (o ++ b.extract ib ++ a.extract ia) := fun {o ia ib} h e => h.last fun j _ hj i hi1 hi2 => by
    have : i = a.size - 1 := by omega
    rw [this]; exact hl j hj
  refine wpS_bind (wpS_rule ?_)
  refine wpS_bind (wpS_elem (at_get hb) ?_)
  dsimp only
  by_cases c1 : (1 == b.size) = true
  · rw [if_pos c1]
    exact wpS_pure (h _ (gallopOf st) (start.done (.inr (by have := eq_of_beq c1; omega))))
  · rw [if_neg c1]
    have c1' : 1 < b.size := by have : ¬ 1 = b.size := by simpa using c1
                                omega
    by_cases c2 : (0 + 1 == a.size) = true
    · rw [if_pos c2]
      exact wpS_pure (h _ (gallopOf st) (hlast start (by simpa using c2)))
    · rw [if_neg c2]
      have c2' : 1 < a.size := by have : ¬ 1 = a.size := by simpa using c2
                                  omega
      refine wpS_bind (wpS_get ?_)
      refine wpS_bind (wpS_mono (wpS_forRange (I := fun i (c : Option (Array Keyed) × Array Keyed × Nat × Nat × Nat) st' => (∃ g, st' = setG st g) ∧ c.1 = none ∧ MA R a b c.2.1 c.2.2.1 c.2.2.2.1 ∧ c.2.2.1 + 1 < a.size ∧ c.2.2.2.1 < b.size ∧ i + 1 ≤ c.2.2.1 + c.2.2.2.1)
        (Q := fun c st' => (∃ g, st' = setG st g) ∧ ∃ X, c.1 = some X ∧ Mgd R a b X) ?_ ?_ ⟨⟨gallopOf st, rfl⟩, rfl, start, c2', c1', Nat.le_refl _⟩) ?_)
      · rintro i ⟨r, o, ia, ib, mg⟩ st1 _ hin ⟨⟨g, rfl⟩, rfl, hm, hia, hib, hcnt⟩
        dsimp only at hm hia hib hcnt ⊢
        refine wpS_bind (wpS_mono (wpS_forRange (I := fun i (d : Option (Array Keyed) × Array Keyed × Nat × Nat × Nat × Nat) st' => (∃ g, st' = setG st g) ∧ d.1 = none ∧ MA R a b d.2.1 d.2.2.1 d.2.2.2.1 ∧ d.2.2.1 + 1 < a.size ∧ d.2.2.2.1 < b.size ∧ ia + ib + i ≤ d.2.2.1 + d.2.2.2.1)
          (Q := fun d st' => (∃ g, st' = setG st g) ∧ ((∃ X, d.1 = some X ∧ Mgd R a b X) ∨ (d.1 = none ∧ MA R a b d.2.1 d.2.2.1 d.2.2.2.1 ∧ d.2.2.1 + 1 < a.size ∧ d.2.2.2.1 < b.size ∧ ia + ib + 1 ≤ d.2.2.1 + d.2.2.2.1))) ?_ ?_ ⟨⟨g, rfl⟩, rfl, hm, hia, hib, Nat.le_refl _⟩) ?_)
        · rintro i2 ⟨r, o, ja, jb, ac, bc⟩ st2 _ hin2 ⟨⟨g, rfl⟩, rfl, hm, hja, hjb, hcn⟩
          dsimp only at hm hja hjb hcn ⊢
          refine wpS_bind (wpS_elem (at_get hjb) (wpS_bind (wpS_elem (at_get (show ja < a.size by omega)) ?_)))
          refine wpS_bind (L.lt _ _ (m.gb_at hjb) (m.ga_at (by omega)) _ _ hk ?_)
          dsimp only
          by_cases c : R (b.getD jb d0) (a.getD ja d0) = true
          · rw [if_pos c]
            refine wpS_bind (wpS_elem (at_get hjb) ?_)
            have hm2 := hm.pb hjb fun j h1 h2 => L.tr _ _ _ (m.ga_at h2) (m.ga_at (by omega)) (m.gb_at hjb) (m.a_le L h1 h2) (L.asym _ _ (m.gb_at hjb) (m.ga_at (by omega)) c)
            by_cases e : (jb + 1 == b.size) = true
            · rw [if_pos e]
              exact wpS_pure ⟨⟨g, rfl⟩, .inl ⟨_, rfl, hm2.done (.inr (by have := eq_of_beq e; omega))⟩⟩
            · rw [if_neg e]
              have e' : jb + 1 < b.size := by have : ¬ jb + 1 = b.size := by simpa using e
                                              omega
              by_cases f : bc + 1 ≥ mg
              · rw [if_pos f]
                exact wpS_pure ⟨⟨g, rfl⟩, .inr ⟨rfl, hm2, hja, e', by dsimp only; omega⟩⟩
              · rw [if_neg f]
                exact wpS_pure ⟨⟨g, rfl⟩, rfl, hm2, hja, e', by dsimp only; omega⟩
          · rw [if_neg c]
            have c' : R (b.getD jb d0) (a.getD ja d0) = false := by simpa using c
            refine wpS_bind (wpS_elem (at_get (show ja < a.size by omega)) ?_)
            have hm2 := hm.pa (show ja < a.size by omega) fun j h1 h2 => L.tr _ _ _ (m.gb_at h2) (m.gb_at hjb) (m.ga_at (by omega)) (m.b_le L h1 h2) c'
            by_cases e : (ja + 1 + 1 == a.size) = true
            · rw [if_pos e]
              exact wpS_pure ⟨⟨g, rfl⟩, .inl ⟨_, rfl, hlast hm2 (eq_of_beq e)⟩⟩
            · rw [if_neg e]
              have e' : ja + 1 + 1 < a.size := by have : ¬ ja + 1 + 1 = a.size := by simpa using e
                                                  omega
              by_cases f : ac + 1 ≥ mg
              · rw [if_pos f]
                exact wpS_pure ⟨⟨g, rfl⟩, .inr ⟨rfl, hm2, e', hjb, by dsimp only; omega⟩⟩
              · rw [if_neg f]
                exact wpS_pure ⟨⟨g, rfl⟩, rfl, hm2, e', hjb, by dsimp only; omega⟩
        · rintro ⟨r, o, ja, jb, ac, bc⟩ st2 ⟨⟨g, rfl⟩, rfl, hm, hja, hjb, hcn⟩
          dsimp only at hm hja hjb hcn
          exfalso
          omega
        rintro ⟨r, o, ja, jb, ac, bc⟩ st2 ⟨⟨g, rfl⟩, hres⟩
        rcases hres with ⟨X, hX, hM⟩ | ⟨hX, hm, hja, hjb, hcn⟩
        · dsimp only at hX
          subst hX
          exact wpS_pure ⟨⟨g, rfl⟩, X, rfl, hM⟩
        · dsimp only at hX hm hja hjb hcn ⊢
          subst hX
          dsimp only
          refine wpS_bind (wpS_rule ?_)
          refine wpS_bind (wpS_mono (wpS_forRange (I := fun i (d : Option (Array Keyed) × Array Keyed × Nat × Nat × Nat × Nat × Nat) st' => (∃ g, st' = setG st g) ∧ d.1 = none ∧ MA R a b d.2.1 d.2.2.1 d.2.2.2.1 ∧ d.2.2.1 + 1 < a.size ∧ d.2.2.2.1 < b.size ∧ ja + jb + i ≤ d.2.2.1 + d.2.2.2.1)
            (Q := fun d st' => (∃ g, st' = setG st g) ∧ ((∃ X, d.1 = some X ∧ Mgd R a b X) ∨ (d.1 = none ∧ MA R a b d.2.1 d.2.2.1 d.2.2.2.1 ∧ d.2.2.1 + 1 < a.size ∧ d.2.2.2.1 < b.size ∧ ja + jb ≤ d.2.2.1 + d.2.2.2.1))) ?_ ?_ ⟨⟨g, rfl⟩, rfl, hm, hja, hjb, Nat.le_refl _⟩) ?_)
          · rintro i2 ⟨r, o, ka, kb, mg2, ac2, bc2⟩ st3 _ hin2 ⟨⟨g, rfl⟩, rfl, hm, hka, hkb, hcn2⟩
            dsimp only at hm hka hkb hcn2 ⊢
            by_cases cg : mg2 > 1
            · rw [if_pos cg]
              refine wpS_bind (wpS_setMin ?_)
              refine wpS_bind (wpS_elem (at_get hkb) ?_)
              refine wpS_bind (gallop_ok L (left := false) (f := fun i => a.getD (ka + i) d0) hk (m.gb_at hkb) (fun i hi => at_get (by omega)) (fun i hi => m.ga_at (by omega)) (by omega) (mono_r L (m.gb_at hkb) (fun i hi => m.ga_at (by omega)) (fun i j hij hj => m.a_le L (by omega) (by omega))) fun k hkn hk1 hk2 => ?_)
              dsimp only
              have le1 : ∀ i, i < k → ∀ j, kb ≤ j → j < b.size → R (b.getD j d0) (a.getD (ka + i) d0) = false := fun i hi j h1 h2 => L.tr _ _ _ (m.gb_at h2) (m.gb_at hkb) (m.ga_at (by omega)) (m.b_le L h1 h2) (by have := hk1 i hi; simpa [byd] using this)
              have gt1 : ∀ j, ka + k ≤ j → j < a.size → R (a.getD j d0) (b.getD kb d0) = false := fun j h1 h2 => L.asym _ _ (m.gb_at hkb) (m.ga_at h2) (by have := hk2 (j - ka) (by omega) (by omega); simpa [byd, show ka + (j - ka) = j by omega] using this)
              by_cases ck : k > 0
              · rw [if_pos ck]
                have hm1 := hm.ka (k := k) fun i hi _ j h1 h2 => le1 i hi j h1 h2
                by_cases e : (ka + k + 1 == a.size) = true
                · rw [if_pos e]
                  exact wpS_pure ⟨⟨_, rfl⟩, .inl ⟨_, rfl, hlast hm1 (eq_of_beq e)⟩⟩
                · rw [if_neg e]
                  have e' : ¬ ka + k + 1 = a.size := by simpa using e
                  by_cases e2 : (ka + k == a.size) = true
                  · rw [if_pos e2]
                    exact wpS_pure ⟨⟨_, rfl⟩, .inl ⟨_, rfl, hm1.done (.inl (by have := eq_of_beq e2; omega))⟩⟩
                  · rw [if_neg e2]
                    have e2' : ¬ ka + k = a.size := by simpa using e2
                    refine wpS_bind (wpS_elem (at_get hkb) ?_)
                    have hm3 := hm1.pb hkb fun j h1 h2 => gt1 j (by omega) h2
                    by_cases e3 : (kb + 1 == b.size) = true
                    · rw [if_pos e3]
                      exact wpS_pure ⟨⟨_, rfl⟩, .inl ⟨_, rfl, hm3.done (.inr (by have := eq_of_beq e3; omega))⟩⟩
                    · rw [if_neg e3]
                      have e3' : ¬ kb + 1 = b.size := by simpa using e3
                      refine wpS_bind (wpS_elem (at_get (show ka + k < a.size by omega)) ?_)
                      refine wpS_bind (gallop_ok L (left := true) (f := fun i => b.getD (kb + 1 + i) d0) hk (m.ga_at (by omega)) (fun i hi => at_get (by omega)) (fun i hi => m.gb_at (by omega)) (by omega) (mono_l L (m.ga_at (by omega)) (fun i hi => m.gb_at (by omega)) (fun i j hij hj => m.b_le L (by omega) (by omega))) fun k1 hk1n hk11 hk12 => ?_)
                      dsimp only
                      have le2 : ∀ i, i < k1 → kb + 1 + i < b.size → ∀ j, ka + k ≤ j → j < a.size → R (a.getD j d0) (b.getD (kb + 1 + i) d0) = false := fun i hi hib j h1 h2 => L.tr _ _ _ (m.ga_at h2) (m.ga_at (by omega)) (m.gb_at hib) (m.a_le L h1 h2) (L.asym _ _ (m.gb_at hib) (m.ga_at (by omega)) (by have := hk11 i hi; simpa [byd] using this))
                      have gt2 : ∀ j, kb + 1 + k1 ≤ j → j < b.size → R (b.getD j d0) (a.getD (ka + k) d0) = false := fun j h1 h2 => by have := hk12 (j - (kb + 1)) (by omega) (by omega); simpa [byd, show kb + 1 + (j - (kb + 1)) = j by omega] using this
                      by_cases ck1 : k1 > 0
                      · rw [if_pos ck1]
                        have hm4 := hm3.kb (k := k1) fun i hi hib j h1 h2 => le2 i hi hib j h1 h2
                        by_cases e4 : (kb + 1 + k1 == b.size) = true
                        · rw [if_pos e4]
                          exact wpS_pure ⟨⟨_, rfl⟩, .inl ⟨_, rfl, hm4.done (.inr (by have := eq_of_beq e4; omega))⟩⟩
                        · rw [if_neg e4]
                          have e4' : ¬ kb + 1 + k1 = b.size := by simpa using e4
                          refine wpS_bind (wpS_elem (at_get (show ka + k < a.size by omega)) ?_)
                          have hm5 := hm4.pa (show ka + k < a.size by omega) fun j h1 h2 => gt2 j (by omega) h2
                          by_cases e5 : (ka + k + 1 + 1 == a.size) = true
                          · rw [if_pos e5]
                            exact wpS_pure ⟨⟨_, rfl⟩, .inl ⟨_, rfl, hlast hm5 (eq_of_beq e5)⟩⟩
                          · rw [if_neg e5]
                            have e5' : ¬ ka + k + 1 + 1 = a.size := by simpa using e5
                            by_cases f : (decide (k < 7) && decide (k1 < 7)) = true
                            · rw [if_pos f]
                              exact wpS_pure ⟨⟨_, rfl⟩, .inr ⟨rfl, hm5, (by dsimp only; omega), (by dsimp only; omega), by dsimp only; omega⟩⟩
                            · rw [if_neg f]
                              exact wpS_pure ⟨⟨_, rfl⟩, rfl, hm5, (by dsimp only; omega), (by dsimp only; omega), by dsimp only; omega⟩
                      · rw [if_neg ck1]
                        have : k1 = 0 := by omega
                        subst this
                        refine wpS_bind (wpS_elem (at_get (show ka + k < a.size by omega)) ?_)
                        have hm5 := hm3.pa (show ka + k < a.size by omega) fun j h1 h2 => gt2 j (by omega) h2
                        by_cases e5 : (ka + k + 1 + 1 == a.size) = true
                        · rw [if_pos e5]
                          exact wpS_pure ⟨⟨_, rfl⟩, .inl ⟨_, rfl, hlast hm5 (eq_of_beq e5)⟩⟩
                        · rw [if_neg e5]
                          have e5' : ¬ ka + k + 1 + 1 = a.size := by simpa using e5
                          by_cases f : (decide (k < 7) && decide (0 < 7)) = true
                          · rw [if_pos f]
                            exact wpS_pure ⟨⟨_, rfl⟩, .inr ⟨rfl, hm5, (by dsimp only; omega), (by dsimp only; omega), by dsimp only; omega⟩⟩
                          · rw [if_neg f]
                            exact wpS_pure ⟨⟨_, rfl⟩, rfl, hm5, (by dsimp only; omega), (by dsimp only; omega), by dsimp only; omega⟩
              · rw [if_neg ck]
                have : k = 0 := by omega
                subst this
                have hm1 := hm
                refine wpS_bind (wpS_elem (at_get hkb) ?_)
                have hm3 := hm1.pb hkb fun j h1 h2 => gt1 j (by omega) h2
                by_cases e3 : (kb + 1 == b.size) = true
                · rw [if_pos e3]
                  exact wpS_pure ⟨⟨_, rfl⟩, .inl ⟨_, rfl, hm3.done (.inr (by have := eq_of_beq e3; omega))⟩⟩
                · rw [if_neg e3]
                  have e3' : ¬ kb + 1 = b.size := by simpa using e3
                  refine wpS_bind (wpS_elem (at_get (show ka < a.size by omega)) ?_)
                  refine wpS_bind (gallop_ok L (left := true) (f := fun i => b.getD (kb + 1 + i) d0) hk (m.ga_at (by omega)) (fun i hi => at_get (by omega)) (fun i hi => m.gb_at (by omega)) (by omega) (mono_l L (m.ga_at (by omega)) (fun i hi => m.gb_at (by omega)) (fun i j hij hj => m.b_le L (by omega) (by omega))) fun k1 hk1n hk11 hk12 => ?_)
                  dsimp only
                  have le2 : ∀ i, i < k1 → kb + 1 + i < b.size → ∀ j, ka ≤ j → j < a.size → R (a.getD j d0) (b.getD (kb + 1 + i) d0) = false := fun i hi hib j h1 h2 => L.tr _ _ _ (m.ga_at h2) (m.ga_at (by omega)) (m.gb_at hib) (m.a_le L h1 h2) (L.asym _ _ (m.gb_at hib) (m.ga_at (by omega)) (by have := hk11 i hi; simpa [byd] using this))
                  have gt2 : ∀ j, kb + 1 + k1 ≤ j → j < b.size → R (b.getD j d0) (a.getD (ka) d0) = false := fun j h1 h2 => by have := hk12 (j - (kb + 1)) (by omega) (by omega); simpa [byd, show kb + 1 + (j - (kb + 1)) = j by omega] using this
                  by_cases ck1 : k1 > 0
                  · rw [if_pos ck1]
                    have hm4 := hm3.kb (k := k1) fun i hi hib j h1 h2 => le2 i hi hib j h1 h2
                    by_cases e4 : (kb + 1 + k1 == b.size) = true
                    · rw [if_pos e4]
                      exact wpS_pure ⟨⟨_, rfl⟩, .inl ⟨_, rfl, hm4.done (.inr (by have := eq_of_beq e4; omega))⟩⟩
                    · rw [if_neg e4]
                      have e4' : ¬ kb + 1 + k1 = b.size := by simpa using e4
                      refine wpS_bind (wpS_elem (at_get (show ka < a.size by omega)) ?_)
                      have hm5 := hm4.pa (show ka < a.size by omega) fun j h1 h2 => gt2 j (by omega) h2
                      by_cases e5 : (ka + 1 + 1 == a.size) = true
                      · rw [if_pos e5]
                        exact wpS_pure ⟨⟨_, rfl⟩, .inl ⟨_, rfl, hlast hm5 (eq_of_beq e5)⟩⟩
                      · rw [if_neg e5]
                        have e5' : ¬ ka + 1 + 1 = a.size := by simpa using e5
                        by_cases f : (decide (0 < 7) && decide (k1 < 7)) = true
                        · rw [if_pos f]
                          exact wpS_pure ⟨⟨_, rfl⟩, .inr ⟨rfl, hm5, (by dsimp only; omega), (by dsimp only; omega), by dsimp only; omega⟩⟩
                        · rw [if_neg f]
                          exact wpS_pure ⟨⟨_, rfl⟩, rfl, hm5, (by dsimp only; omega), (by dsimp only; omega), by dsimp only; omega⟩
                  · rw [if_neg ck1]
                    have : k1 = 0 := by omega
                    subst this
                    refine wpS_bind (wpS_elem (at_get (show ka < a.size by omega)) ?_)
                    have hm5 := hm3.pa (show ka < a.size by omega) fun j h1 h2 => gt2 j (by omega) h2
                    by_cases e5 : (ka + 1 + 1 == a.size) = true
                    · rw [if_pos e5]
                      exact wpS_pure ⟨⟨_, rfl⟩, .inl ⟨_, rfl, hlast hm5 (eq_of_beq e5)⟩⟩
                    · rw [if_neg e5]
                      have e5' : ¬ ka + 1 + 1 = a.size := by simpa using e5
                      by_cases f : (decide (0 < 7) && decide (0 < 7)) = true
                      · rw [if_pos f]
                        exact wpS_pure ⟨⟨_, rfl⟩, .inr ⟨rfl, hm5, (by dsimp only; omega), (by dsimp only; omega), by dsimp only; omega⟩⟩
                      · rw [if_neg f]
                        exact wpS_pure ⟨⟨_, rfl⟩, rfl, hm5, (by dsimp only; omega), (by dsimp only; omega), by dsimp only; omega⟩
            · rw [if_neg cg]
              refine wpS_bind (wpS_setMin ?_)
              refine wpS_bind (wpS_elem (at_get hkb) ?_)
              refine wpS_bind (gallop_ok L (left := false) (f := fun i => a.getD (ka + i) d0) hk (m.gb_at hkb) (fun i hi => at_get (by omega)) (fun i hi => m.ga_at (by omega)) (by omega) (mono_r L (m.gb_at hkb) (fun i hi => m.ga_at (by omega)) (fun i j hij hj => m.a_le L (by omega) (by omega))) fun k hkn hk1 hk2 => ?_)
              dsimp only
              have le1 : ∀ i, i < k → ∀ j, kb ≤ j → j < b.size → R (b.getD j d0) (a.getD (ka + i) d0) = false := fun i hi j h1 h2 => L.tr _ _ _ (m.gb_at h2) (m.gb_at hkb) (m.ga_at (by omega)) (m.b_le L h1 h2) (by have := hk1 i hi; simpa [byd] using this)
              have gt1 : ∀ j, ka + k ≤ j → j < a.size → R (a.getD j d0) (b.getD kb d0) = false := fun j h1 h2 => L.asym _ _ (m.gb_at hkb) (m.ga_at h2) (by have := hk2 (j - ka) (by omega) (by omega); simpa [byd, show ka + (j - ka) = j by omega] using this)
              by_cases ck : k > 0
              · rw [if_pos ck]
                have hm1 := hm.ka (k := k) fun i hi _ j h1 h2 => le1 i hi j h1 h2
                by_cases e : (ka + k + 1 == a.size) = true
                · rw [if_pos e]
                  exact wpS_pure ⟨⟨_, rfl⟩, .inl ⟨_, rfl, hlast hm1 (eq_of_beq e)⟩⟩
                · rw [if_neg e]
                  have e' : ¬ ka + k + 1 = a.size := by simpa using e
                  by_cases e2 : (ka + k == a.size) = true
                  · rw [if_pos e2]
                    exact wpS_pure ⟨⟨_, rfl⟩, .inl ⟨_, rfl, hm1.done (.inl (by have := eq_of_beq e2; omega))⟩⟩
                  · rw [if_neg e2]
                    have e2' : ¬ ka + k = a.size := by simpa using e2
                    refine wpS_bind (wpS_elem (at_get hkb) ?_)
                    have hm3 := hm1.pb hkb fun j h1 h2 => gt1 j (by omega) h2
                    by_cases e3 : (kb + 1 == b.size) = true
                    · rw [if_pos e3]
                      exact wpS_pure ⟨⟨_, rfl⟩, .inl ⟨_, rfl, hm3.done (.inr (by have := eq_of_beq e3; omega))⟩⟩
                    · rw [if_neg e3]
                      have e3' : ¬ kb + 1 = b.size := by simpa using e3
                      refine wpS_bind (wpS_elem (at_get (show ka + k < a.size by omega)) ?_)
                      refine wpS_bind (gallop_ok L (left := true) (f := fun i => b.getD (kb + 1 + i) d0) hk (m.ga_at (by omega)) (fun i hi => at_get (by omega)) (fun i hi => m.gb_at (by omega)) (by omega) (mono_l L (m.ga_at (by omega)) (fun i hi => m.gb_at (by omega)) (fun i j hij hj => m.b_le L (by omega) (by omega))) fun k1 hk1n hk11 hk12 => ?_)
                      dsimp only
                      have le2 : ∀ i, i < k1 → kb + 1 + i < b.size → ∀ j, ka + k ≤ j → j < a.size → R (a.getD j d0) (b.getD (kb + 1 + i) d0) = false := fun i hi hib j h1 h2 => L.tr _ _ _ (m.ga_at h2) (m.ga_at (by omega)) (m.gb_at hib) (m.a_le L h1 h2) (L.asym _ _ (m.gb_at hib) (m.ga_at (by omega)) (by have := hk11 i hi; simpa [byd] using this))
                      have gt2 : ∀ j, kb + 1 + k1 ≤ j → j < b.size → R (b.getD j d0) (a.getD (ka + k) d0) = false := fun j h1 h2 => by have := hk12 (j - (kb + 1)) (by omega) (by omega); simpa [byd, show kb + 1 + (j - (kb + 1)) = j by omega] using this
                      by_cases ck1 : k1 > 0
                      · rw [if_pos ck1]
                        have hm4 := hm3.kb (k := k1) fun i hi hib j h1 h2 => le2 i hi hib j h1 h2
                        by_cases e4 : (kb + 1 + k1 == b.size) = true
                        · rw [if_pos e4]
                          exact wpS_pure ⟨⟨_, rfl⟩, .inl ⟨_, rfl, hm4.done (.inr (by have := eq_of_beq e4; omega))⟩⟩
                        · rw [if_neg e4]
                          have e4' : ¬ kb + 1 + k1 = b.size := by simpa using e4
                          refine wpS_bind (wpS_elem (at_get (show ka + k < a.size by omega)) ?_)
                          have hm5 := hm4.pa (show ka + k < a.size by omega) fun j h1 h2 => gt2 j (by omega) h2
                          by_cases e5 : (ka + k + 1 + 1 == a.size) = true
                          · rw [if_pos e5]
                            exact wpS_pure ⟨⟨_, rfl⟩, .inl ⟨_, rfl, hlast hm5 (eq_of_beq e5)⟩⟩
                          · rw [if_neg e5]
                            have e5' : ¬ ka + k + 1 + 1 = a.size := by simpa using e5
                            by_cases f : (decide (k < 7) && decide (k1 < 7)) = true
                            · rw [if_pos f]
                              exact wpS_pure ⟨⟨_, rfl⟩, .inr ⟨rfl, hm5, (by dsimp only; omega), (by dsimp only; omega), by dsimp only; omega⟩⟩
                            · rw [if_neg f]
                              exact wpS_pure ⟨⟨_, rfl⟩, rfl, hm5, (by dsimp only; omega), (by dsimp only; omega), by dsimp only; omega⟩
                      · rw [if_neg ck1]
                        have : k1 = 0 := by omega
                        subst this
                        refine wpS_bind (wpS_elem (at_get (show ka + k < a.size by omega)) ?_)
                        have hm5 := hm3.pa (show ka + k < a.size by omega) fun j h1 h2 => gt2 j (by omega) h2
                        by_cases e5 : (ka + k + 1 + 1 == a.size) = true
                        · rw [if_pos e5]
                          exact wpS_pure ⟨⟨_, rfl⟩, .inl ⟨_, rfl, hlast hm5 (eq_of_beq e5)⟩⟩
                        · rw [if_neg e5]
                          have e5' : ¬ ka + k + 1 + 1 = a.size := by simpa using e5
                          by_cases f : (decide (k < 7) && decide (0 < 7)) = true
                          · rw [if_pos f]
                            exact wpS_pure ⟨⟨_, rfl⟩, .inr ⟨rfl, hm5, (by dsimp only; omega), (by dsimp only; omega), by dsimp only; omega⟩⟩
                          · rw [if_neg f]
                            exact wpS_pure ⟨⟨_, rfl⟩, rfl, hm5, (by dsimp only; omega), (by dsimp only; omega), by dsimp only; omega⟩
              · rw [if_neg ck]
                have : k = 0 := by omega
                subst this
                have hm1 := hm
                refine wpS_bind (wpS_elem (at_get hkb) ?_)
                have hm3 := hm1.pb hkb fun j h1 h2 => gt1 j (by omega) h2
                by_cases e3 : (kb + 1 == b.size) = true
                · rw [if_pos e3]
                  exact wpS_pure ⟨⟨_, rfl⟩, .inl ⟨_, rfl, hm3.done (.inr (by have := eq_of_beq e3; omega))⟩⟩
                · rw [if_neg e3]
                  have e3' : ¬ kb + 1 = b.size := by simpa using e3
                  refine wpS_bind (wpS_elem (at_get (show ka < a.size by omega)) ?_)
                  refine wpS_bind (gallop_ok L (left := true) (f := fun i => b.getD (kb + 1 + i) d0) hk (m.ga_at (by omega)) (fun i hi => at_get (by omega)) (fun i hi => m.gb_at (by omega)) (by omega) (mono_l L (m.ga_at (by omega)) (fun i hi => m.gb_at (by omega)) (fun i j hij hj => m.b_le L (by omega) (by omega))) fun k1 hk1n hk11 hk12 => ?_)
                  dsimp only
                  have le2 : ∀ i, i < k1 → kb + 1 + i < b.size → ∀ j, ka ≤ j → j < a.size → R (a.getD j d0) (b.getD (kb + 1 + i) d0) = false := fun i hi hib j h1 h2 => L.tr _ _ _ (m.ga_at h2) (m.ga_at (by omega)) (m.gb_at hib) (m.a_le L h1 h2) (L.asym _ _ (m.gb_at hib) (m.ga_at (by omega)) (by have := hk11 i hi; simpa [byd] using this))
                  have gt2 : ∀ j, kb + 1 + k1 ≤ j → j < b.size → R (b.getD j d0) (a.getD (ka) d0) = false := fun j h1 h2 => by have := hk12 (j - (kb + 1)) (by omega) (by omega); simpa [byd, show kb + 1 + (j - (kb + 1)) = j by omega] using this
                  by_cases ck1 : k1 > 0
                  · rw [if_pos ck1]
                    have hm4 := hm3.kb (k := k1) fun i hi hib j h1 h2 => le2 i hi hib j h1 h2
                    by_cases e4 : (kb + 1 + k1 == b.size) = true
                    · rw [if_pos e4]
                      exact wpS_pure ⟨⟨_, rfl⟩, .inl ⟨_, rfl, hm4.done (.inr (by have := eq_of_beq e4; omega))⟩⟩
                    · rw [if_neg e4]
                      have e4' : ¬ kb + 1 + k1 = b.size := by simpa using e4
                      refine wpS_bind (wpS_elem (at_get (show ka < a.size by omega)) ?_)
                      have hm5 := hm4.pa (show ka < a.size by omega) fun j h1 h2 => gt2 j (by omega) h2
                      by_cases e5 : (ka + 1 + 1 == a.size) = true
                      · rw [if_pos e5]
                        exact wpS_pure ⟨⟨_, rfl⟩, .inl ⟨_, rfl, hlast hm5 (eq_of_beq e5)⟩⟩
                      · rw [if_neg e5]
                        have e5' : ¬ ka + 1 + 1 = a.size := by simpa using e5
                        by_cases f : (decide (0 < 7) && decide (k1 < 7)) = true
                        · rw [if_pos f]
                          exact wpS_pure ⟨⟨_, rfl⟩, .inr ⟨rfl, hm5, (by dsimp only; omega), (by dsimp only; omega), by dsimp only; omega⟩⟩
                        · rw [if_neg f]
                          exact wpS_pure ⟨⟨_, rfl⟩, rfl, hm5, (by dsimp only; omega), (by dsimp only; omega), by dsimp only; omega⟩
                  · rw [if_neg ck1]
                    have : k1 = 0 := by omega
                    subst this
                    refine wpS_bind (wpS_elem (at_get (show ka < a.size by omega)) ?_)
                    have hm5 := hm3.pa (show ka < a.size by omega) fun j h1 h2 => gt2 j (by omega) h2
                    by_cases e5 : (ka + 1 + 1 == a.size) = true
                    · rw [if_pos e5]
                      exact wpS_pure ⟨⟨_, rfl⟩, .inl ⟨_, rfl, hlast hm5 (eq_of_beq e5)⟩⟩
                    · rw [if_neg e5]
                      have e5' : ¬ ka + 1 + 1 = a.size := by simpa using e5
                      by_cases f : (decide (0 < 7) && decide (0 < 7)) = true
                      · rw [if_pos f]
                        exact wpS_pure ⟨⟨_, rfl⟩, .inr ⟨rfl, hm5, (by dsimp only; omega), (by dsimp only; omega), by dsimp only; omega⟩⟩
                      · rw [if_neg f]
                        exact wpS_pure ⟨⟨_, rfl⟩, rfl, hm5, (by dsimp only; omega), (by dsimp only; omega), by dsimp only; omega⟩
          · rintro ⟨r, o, ka, kb, mg2, ac2, bc2⟩ st3 ⟨⟨g, rfl⟩, rfl, hm, hka, hkb, hcn2⟩
            dsimp only at hm hka hkb hcn2
            exfalso
            omega
          rintro ⟨r, o, ka, kb, mg2, ac2, bc2⟩ st3 ⟨⟨g, rfl⟩, hres⟩
          rcases hres with ⟨X, hX, hM⟩ | ⟨hX, hm, hka, hkb, hcn2⟩
          · dsimp only at hX
            subst hX
            exact wpS_pure ⟨⟨g, rfl⟩, X, rfl, hM⟩
          · dsimp only at hX hm hka hkb hcn2 ⊢
            subst hX
            dsimp only
            refine wpS_bind (wpS_setMin (wpS_pure ⟨⟨_, rfl⟩, rfl, hm, hka, hkb, ?_⟩))
            dsimp only
            omega
      · rintro ⟨r, o, ia, ib, mg⟩ st1 ⟨⟨g, rfl⟩, rfl, hm, hia, hib, hcnt⟩
        dsimp only at hm hia hib hcnt
        exfalso
        omega
      rintro ⟨r, o, ia, ib, mg⟩ st1 ⟨⟨g, rfl⟩, X, hX, hM⟩
      dsimp only at hX ⊢
      subst hX
      exact wpS_pure (h X g hM)
end
end L2
set_option Elab.async false
set_option linter.all false
set_option maxRecDepth 100000
set_option maxHeartbeats 4000000
namespace L2
open PySem PySem.W PyProof.Rows
section
variable {M : Model} {A : Around} {E : Value → Shared → Prop} {s : Shared} {κ : SortKind} {G : Keyed → Prop} {R : Keyed → Keyed → Bool}
abbrev flR (R : Keyed → Keyed → Bool) : Keyed → Keyed → Bool := fun x y => R y x
theorem ol_rev {l : List Keyed} : OL (flR R) l.reverse ↔ OL R l := by
  unfold OL
  rw [List.pairwise_reverse]
section
variable {a b o : Array Keyed} {na nb k : Nat}
abbrev MB (R : Keyed → Keyed → Bool) (a b o : Array Keyed) (na nb : Nat) : Prop := MI (flR R) a.toList.reverse b.toList.reverse o.toList (a.toList.take na).reverse (b.toList.take nb).reverse
theorem take_at {a : Array Keyed} {i : Nat} (h0 : 0 < i) (h : i ≤ a.size) : (a.toList.take i).reverse = a.getD (i - 1) d0 :: (a.toList.take (i - 1)).reverse := by
  obtain ⟨j, rfl⟩ : ∃ j, i = j + 1 := ⟨i - 1, by omega⟩
  rw [List.take_succ_eq_append_getElem (by simp; omega), List.reverse_append]
  have : a.getD j d0 = a[j]'(by omega) := by simp [Array.getD, show j < a.size by omega]
  rw [Nat.add_sub_cancel, this]
  rfl
theorem mem_takeR {a : Array Keyed} {i : Nat} {x : Keyed} (h : x ∈ (a.toList.take i).reverse) : ∃ j, j < i ∧ j < a.size ∧ x = a.getD j d0 := by
  rw [List.mem_reverse] at h
  obtain ⟨j, hj, e⟩ := List.getElem_of_mem h
  rw [List.length_take] at hj
  have hj' : j < a.size := by simp at hj; omega
  refine ⟨j, by omega, hj', ?_⟩
  rw [← e, List.getElem_take]
  simp [Array.getD, hj']
theorem MB.pb (h : MB R a b o na nb) (h1 : 0 < nb) (hb : nb ≤ b.size) (hp : ∀ j, j < na → j < a.size → R (b.getD (nb - 1) d0) (a.getD j d0) = false) : MB R a b (o.push (b.getD (nb - 1) d0)) na (nb - 1) := by
  unfold MB at h ⊢
  rw [take_at h1 hb] at h
  rw [Array.toList_push]
  refine MI.b (p := [b.getD (nb - 1) d0]) h fun x hx y hy => ?_
  rw [List.mem_singleton] at hx
  subst hx
  obtain ⟨j, j1, j2, rfl⟩ := mem_takeR hy
  exact hp j j1 j2
theorem MB.pa (h : MB R a b o na nb) (h1 : 0 < na) (ha : na ≤ a.size) (hp : ∀ j, j < nb → j < b.size → R (a.getD (na - 1) d0) (b.getD j d0) = false) : MB R a b (o.push (a.getD (na - 1) d0)) (na - 1) nb := by
  unfold MB at h ⊢
  rw [take_at h1 ha] at h
  rw [Array.toList_push]
  refine MI.a (p := [a.getD (na - 1) d0]) h fun x hx y hy => ?_
  rw [List.mem_singleton] at hx
  subst hx
  obtain ⟨j, j1, j2, rfl⟩ := mem_takeR hy
  exact hp j j1 j2
theorem ex_rev (a : Array Keyed) (i n : Nat) : (a.extract i n).reverse.toList = ((a.toList.take n).drop i).reverse := by
  rw [Array.toList_reverse, Array.toList_extract, List.extract_eq_take_drop, List.drop_take]
theorem take_split (l : List Keyed) {i n : Nat} (h : i ≤ n) : (l.take n).reverse = ((l.take n).drop i).reverse ++ (l.take i).reverse := by
  rw [← List.reverse_append]
  congr 1
  have : l.take i = (l.take n).take i := by rw [List.take_take, Nat.min_eq_left h]
  rw [this, List.take_append_drop]
theorem mem_mid {a : Array Keyed} {i n : Nat} {x : Keyed} (h : x ∈ ((a.toList.take n).drop i).reverse) : ∃ j, i ≤ j ∧ j < n ∧ j < a.size ∧ x = a.getD j d0 := by
  rw [List.mem_reverse] at h
  obtain ⟨j, hj, e⟩ := List.getElem_of_mem h
  rw [List.length_drop, List.length_take] at hj
  have hj' : i + j < a.size := by simp at hj; omega
  refine ⟨i + j, by omega, by omega, hj', ?_⟩
  rw [← e, List.getElem_drop, List.getElem_take]
  simp [Array.getD, hj']
theorem MB.ka (h : MB R a b o na nb) (hk : k ≤ na) (hp : ∀ i, k ≤ i → i < na → i < a.size → ∀ j, j < nb → j < b.size → R (a.getD i d0) (b.getD j d0) = false) : MB R a b (o ++ (a.extract k na).reverse) k nb := by
  unfold MB at h ⊢
  rw [Array.toList_append, ex_rev]
  refine MI.a (p := ((a.toList.take na).drop k).reverse) (by rw [← take_split _ hk]; exact h) fun x hx y hy => ?_
  obtain ⟨i, i1, i2, i3, rfl⟩ := mem_mid hx
  obtain ⟨j, h1, h2, rfl⟩ := mem_takeR hy
  exact hp i i1 i2 i3 j h1 h2
theorem MB.kb (h : MB R a b o na nb) (hk : k ≤ nb) (hp : ∀ i, k ≤ i → i < nb → i < b.size → ∀ j, j < na → j < a.size → R (b.getD i d0) (a.getD j d0) = false) : MB R a b (o ++ (b.extract k nb).reverse) na k := by
  unfold MB at h ⊢
  rw [Array.toList_append, ex_rev]
  refine MI.b (p := ((b.toList.take nb).drop k).reverse) (by rw [← take_split _ hk]; exact h) fun x hx y hy => ?_
  obtain ⟨i, i1, i2, i3, rfl⟩ := mem_mid hx
  obtain ⟨j, h1, h2, rfl⟩ := mem_takeR hy
  exact hp i i1 i2 i3 j h1 h2
theorem ex_0 (a : Array Keyed) (n : Nat) : (a.extract 0 n).toList = a.toList.take n := by
  rw [Array.toList_extract, List.extract_eq_take_drop]
  simp
theorem mgd_rev {x : Array Keyed} (h : OL (flR R) x.toList.reverse ∧ x.toList.reverse.Perm (a.toList.reverse ++ b.toList.reverse)) : Mgd R a b x := by
  refine ⟨ol_rev.mp h.1, ?_⟩
  exact (List.reverse_perm _).symm.trans (h.2.trans ((List.reverse_perm _).append (List.reverse_perm _)))
theorem MB.done (h : MB R a b o na nb) (hd : na = 0 ∨ nb = 0) : Mgd R a b (a.extract 0 na ++ b.extract 0 nb ++ o.reverse) := by
  refine mgd_rev ?_
  rw [Array.toList_append, Array.toList_append, ex_0, ex_0, Array.toList_reverse, List.reverse_append, List.reverse_append, List.reverse_reverse, ← List.append_assoc]
  refine MI.fin2 h fun x hx y hy => ?_
  obtain ⟨i, i1, i2, _⟩ := mem_takeR hx
  obtain ⟨j, j1, j2, _⟩ := mem_takeR hy
  omega
theorem MB.first (h : MB R a b o na nb) (hl : ∀ i, i < na → i < a.size → ∀ j, j < nb → j < b.size → R (a.getD i d0) (b.getD j d0) = false) : Mgd R a b (b.extract 0 nb ++ a.extract 0 na ++ o.reverse) := by
  refine mgd_rev ?_
  rw [Array.toList_append, Array.toList_append, ex_0, ex_0, Array.toList_reverse, List.reverse_append, List.reverse_append, List.reverse_reverse, ← List.append_assoc]
  refine MI.fin h fun x hx y hy => ?_
  obtain ⟨i, i1, i2, rfl⟩ := mem_takeR hx
  obtain ⟨j, j1, j2, rfl⟩ := mem_takeR hy
  exact hl i i1 i2 j j1 j2
end
theorem mergeHi_ok (L : LtE M A E s κ G R) {a b : Array Keyed} {st : SortSt} {Q : Array Keyed → SortSt → Prop} (hk : kindOf st = κ) (m : ML R G a b) (ha : 0 < a.size) (hb : 0 < b.size)
    (h0 : ∀ i, i < a.size → R (a.getD i d0) (b.getD 0 d0) = false) (hl : ∀ j, j < b.size → R (a.getD (a.size - 1) d0) (b.getD j d0) = false)
    (h : ∀ out g, Mgd R a b out → Q out (setG st g)) : wpS M A E s (mergeHi' a b) Q st := by
  have start : MB R a b #[a.getD (a.size - 1) d0] (a.size - 1) b.size := by
    have z : MB R a b #[] a.size b.size := ⟨List.Pairwise.nil, (fun x hx => nomatch hx), by
      have e1 : a.toList.take a.size = a.toList := List.take_of_length_le (by simp)
      have e2 : b.toList.take b.size = b.toList := List.take_of_length_le (by simp)
      rw [e1, e2]
      simp, by
      have e1 : a.toList.take a.size = a.toList := List.take_of_length_le (by simp)
      rw [e1]
      exact ol_rev.mpr m.oa, by
      have e2 : b.toList.take b.size = b.toList := List.take_of_length_le (by simp)
      rw [e2]
      exact ol_rev.mpr m.ob⟩
    have := z.pa ha (Nat.le_refl _) fun j _ hj => hl j hj
    simpa using this
  have hfirst : ∀ {o : Array Keyed} {na nb : Nat}, MB R a b o na nb → nb = 1 → Mgd R a b (b.extract 0 nb ++ a.extract 0 na ++ o.reverse) := fun {o na nb} h e => h.first fun i _ hi j hj1 hj2 => by
    have : j = 0 := by omega
    rw [this]; exact h0 i hi
  refine wpS_bind (wpS_rule ?_)
  refine wpS_bind (wpS_elem (at_get (show a.size - 1 < a.size by omega)) ?_)
  dsimp only
  by_cases c1 : (a.size - 1 == 0) = true
  · rw [if_pos c1]
    exact wpS_pure (h _ (gallopOf st) (start.done (.inl (eq_of_beq c1))))
  · rw [if_neg c1]
    have c1' : ¬ a.size - 1 = 0 := by simpa using c1
    by_cases c2 : (b.size == 1) = true
    · rw [if_pos c2]
      exact wpS_pure (h _ (gallopOf st) (hfirst start (eq_of_beq c2)))
    · rw [if_neg c2]
      have c2' : ¬ b.size = 1 := by simpa using c2
      refine wpS_bind (wpS_get ?_)
      refine wpS_bind (wpS_mono (wpS_forRange (I := fun i (c : Option (Array Keyed) × Nat × Nat × Array Keyed × Nat) st' => (∃ g, st' = setG st g) ∧ c.1 = none ∧ MB R a b c.2.2.2.1 c.2.1 c.2.2.1 ∧ 0 < c.2.1 ∧ 1 < c.2.2.1 ∧ c.2.1 ≤ a.size ∧ c.2.2.1 ≤ b.size ∧ i + 1 + c.2.1 + c.2.2.1 ≤ a.size + b.size)
        (Q := fun c st' => (∃ g, st' = setG st g) ∧ ∃ X, c.1 = some X ∧ Mgd R a b X) ?_ ?_ ⟨⟨gallopOf st, rfl⟩, rfl, start, (by dsimp only; omega), (by dsimp only; omega), (by dsimp only; omega), Nat.le_refl _, by dsimp only; omega⟩) ?_)
      · rintro i ⟨r, na, nb, o, mg⟩ st1 _ hin ⟨⟨g, rfl⟩, rfl, hm, hia, hib, hia2, hib2, hcnt⟩
        dsimp only at hm hia hib hia2 hib2 hcnt ⊢
        refine wpS_bind (wpS_mono (wpS_forRange (I := fun i (d : Option (Array Keyed) × Nat × Nat × Array Keyed × Nat × Nat) st' => (∃ g, st' = setG st g) ∧ d.1 = none ∧ MB R a b d.2.2.2.1 d.2.1 d.2.2.1 ∧ 0 < d.2.1 ∧ 1 < d.2.2.1 ∧ d.2.1 ≤ a.size ∧ d.2.2.1 ≤ b.size ∧ i + d.2.1 + d.2.2.1 ≤ na + nb)
          (Q := fun d st' => (∃ g, st' = setG st g) ∧ ((∃ X, d.1 = some X ∧ Mgd R a b X) ∨ (d.1 = none ∧ MB R a b d.2.2.2.1 d.2.1 d.2.2.1 ∧ 0 < d.2.1 ∧ 1 < d.2.2.1 ∧ d.2.1 ≤ a.size ∧ d.2.2.1 ≤ b.size ∧ 1 + d.2.1 + d.2.2.1 ≤ na + nb))) ?_ ?_ ⟨⟨g, rfl⟩, rfl, hm, hia, hib, hia2, hib2, by dsimp only; omega⟩) ?_)
        · rintro i2 ⟨r, ja, jb, o, ac, bc⟩ st2 _ hin2 ⟨⟨g, rfl⟩, rfl, hm, hja, hjb, hja2, hjb2, hcn⟩
          dsimp only at hm hja hjb hja2 hjb2 hcn ⊢
          refine wpS_bind (wpS_elem (at_get (show jb - 1 < b.size by omega)) (wpS_bind (wpS_elem (at_get (show ja - 1 < a.size by omega)) ?_)))
          refine wpS_bind (L.lt _ _ (m.gb_at (by omega)) (m.ga_at (by omega)) _ _ hk ?_)
          dsimp only
          by_cases c : R (b.getD (jb - 1) d0) (a.getD (ja - 1) d0) = true
          · rw [if_pos c]
            refine wpS_bind (wpS_elem (at_get (show ja - 1 < a.size by omega)) ?_)
            have hm2 := hm.pa hja hja2 fun j h1 h2 => L.tr _ _ _ (m.ga_at (by omega)) (m.gb_at (show jb - 1 < b.size by omega)) (m.gb_at h2) (L.asym _ _ (m.gb_at (by omega)) (m.ga_at (by omega)) c) (m.b_le L (by omega) (by omega))
            by_cases e : (ja - 1 == 0) = true
            · rw [if_pos e]
              exact wpS_pure ⟨⟨g, rfl⟩, .inl ⟨_, rfl, hm2.done (.inl (eq_of_beq e))⟩⟩
            · rw [if_neg e]
              have e' : ¬ ja - 1 = 0 := by simpa using e
              by_cases f : ac + 1 ≥ mg
              · rw [if_pos f]
                exact wpS_pure ⟨⟨g, rfl⟩, .inr ⟨rfl, hm2, (by dsimp only; omega), hjb, (by dsimp only; omega), hjb2, by dsimp only; omega⟩⟩
              · rw [if_neg f]
                exact wpS_pure ⟨⟨g, rfl⟩, rfl, hm2, (by dsimp only; omega), hjb, (by dsimp only; omega), hjb2, by dsimp only; omega⟩
          · rw [if_neg c]
            have c' : R (b.getD (jb - 1) d0) (a.getD (ja - 1) d0) = false := by simpa using c
            refine wpS_bind (wpS_elem (at_get (show jb - 1 < b.size by omega)) ?_)
            have hm2 := hm.pb (by omega) hjb2 fun j h1 h2 => L.tr _ _ _ (m.gb_at (by omega)) (m.ga_at (show ja - 1 < a.size by omega)) (m.ga_at h2) c' (m.a_le L (by omega) (by omega))
            by_cases e : (jb - 1 == 1) = true
            · rw [if_pos e]
              exact wpS_pure ⟨⟨g, rfl⟩, .inl ⟨_, rfl, hfirst hm2 (eq_of_beq e)⟩⟩
            · rw [if_neg e]
              have e' : ¬ jb - 1 = 1 := by simpa using e
              by_cases f : bc + 1 ≥ mg
              · rw [if_pos f]
                exact wpS_pure ⟨⟨g, rfl⟩, .inr ⟨rfl, hm2, hja, (by dsimp only; omega), hja2, (by dsimp only; omega), by dsimp only; omega⟩⟩
              · rw [if_neg f]
                exact wpS_pure ⟨⟨g, rfl⟩, rfl, hm2, hja, (by dsimp only; omega), hja2, (by dsimp only; omega), by dsimp only; omega⟩
        · rintro ⟨r, ja, jb, o, ac, bc⟩ st2 ⟨⟨g, rfl⟩, rfl, hm, hja, hjb, hja2, hjb2, hcn⟩
          dsimp only at hm hja hjb hja2 hjb2 hcn
          exfalso
          omega
        rintro ⟨r, ja, jb, o, ac, bc⟩ st2 ⟨⟨g, rfl⟩, hres⟩
        rcases hres with ⟨X, hX, hM⟩ | ⟨hX, hm, hja, hjb, hja2, hjb2, hcn⟩
        · dsimp only at hX
          subst hX
          exact wpS_pure ⟨⟨g, rfl⟩, X, rfl, hM⟩
        · dsimp only at hX hm hja hjb hja2 hjb2 hcn ⊢
          subst hX
          dsimp only
          refine wpS_bind (wpS_rule ?_)
          refine wpS_bind (wpS_mono (wpS_forRange (I := fun i (d : Option (Array Keyed) × Nat × Nat × Array Keyed × Nat × Nat × Nat) st' => (∃ g, st' = setG st g) ∧ d.1 = none ∧ MB R a b d.2.2.2.1 d.2.1 d.2.2.1 ∧ 0 < d.2.1 ∧ 1 < d.2.2.1 ∧ d.2.1 ≤ a.size ∧ d.2.2.1 ≤ b.size ∧ i + d.2.1 + d.2.2.1 ≤ ja + jb)
            (Q := fun d st' => (∃ g, st' = setG st g) ∧ ((∃ X, d.1 = some X ∧ Mgd R a b X) ∨ (d.1 = none ∧ MB R a b d.2.2.2.1 d.2.1 d.2.2.1 ∧ 0 < d.2.1 ∧ 1 < d.2.2.1 ∧ d.2.1 ≤ a.size ∧ d.2.2.1 ≤ b.size ∧ d.2.1 + d.2.2.1 ≤ ja + jb))) ?_ ?_ ⟨⟨g, rfl⟩, rfl, hm, hja, hjb, hja2, hjb2, by dsimp only; omega⟩) ?_)
          · rintro i2 ⟨r, ka, kb, o, mg2, ac2, bc2⟩ st3 _ hin2 ⟨⟨g, rfl⟩, rfl, hm, hka, hkb, hka2, hkb2, hcn2⟩
            dsimp only at hm hka hkb hka2 hkb2 hcn2 ⊢
            by_cases cg : mg2 > 1
            · rw [if_pos cg]
              refine wpS_bind (wpS_setMin ?_)
              refine wpS_bind (wpS_elem (at_get (show kb - 1 < b.size by omega)) ?_)
              refine wpS_bind (gallop_ok L (left := false) (f := fun i => a.getD (0 + i) d0) hk (m.gb_at (by omega)) (fun i hi => at_get (by omega)) (fun i hi => m.ga_at (by omega)) (by omega) (mono_r L (m.gb_at (by omega)) (fun i hi => m.ga_at (by omega)) (fun i j hij hj => m.a_le L (by omega) (by omega))) fun k hkn hk1 hk2 => ?_)
              dsimp only
              have le1 : ∀ i, k ≤ i → i < ka → i < a.size → ∀ j, j < kb → j < b.size → R (a.getD i d0) (b.getD j d0) = false := fun i h1 h2 h3 j h4 h5 => L.tr _ _ _ (m.ga_at h3) (m.gb_at (show kb - 1 < b.size by omega)) (m.gb_at h5) (L.asym _ _ (m.gb_at (by omega)) (m.ga_at h3) (by have := hk2 i h1 h2; simpa [byd] using this)) (m.b_le L (by omega) (by omega))
              have gt1 : ∀ j, j < k → j < a.size → R (b.getD (kb - 1) d0) (a.getD j d0) = false := fun j h1 h2 => by have := hk1 j h1; simpa [byd] using this
              by_cases ck : ka - k > 0
              · rw [if_pos ck]
                have hm1 := hm.ka (k := k) (by omega) fun i h1 h2 h3 j h4 h5 => le1 i h1 h2 h3 j h4 h5
                by_cases e : (k == 0) = true
                · rw [if_pos e]
                  exact wpS_pure ⟨⟨_, rfl⟩, .inl ⟨_, rfl, hm1.done (.inl (eq_of_beq e))⟩⟩
                · rw [if_neg e]
                  have e' : ¬ k = 0 := by simpa using e
                  refine wpS_bind (wpS_elem (at_get (show kb - 1 < b.size by omega)) ?_)
                  have hm3 := hm1.pb (show 0 < kb by omega) (by omega) fun j h1 h2 => gt1 j (by omega) h2
                  by_cases e3 : (kb - 1 == 1) = true
                  · rw [if_pos e3]
                    exact wpS_pure ⟨⟨_, rfl⟩, .inl ⟨_, rfl, hfirst hm3 (eq_of_beq e3)⟩⟩
                  · rw [if_neg e3]
                    have e3' : ¬ kb - 1 = 1 := by simpa using e3
                    refine wpS_bind (wpS_elem (at_get (show k - 1 < a.size by omega)) ?_)
                    refine wpS_bind (gallop_ok L (left := true) (f := fun i => b.getD (0 + i) d0) hk (m.ga_at (by omega)) (fun i hi => at_get (by omega)) (fun i hi => m.gb_at (by omega)) (by omega) (mono_l L (m.ga_at (by omega)) (fun i hi => m.gb_at (by omega)) (fun i j hij hj => m.b_le L (by omega) (by omega))) fun k1 hk1n hk11 hk12 => ?_)
                    dsimp only
                    have le2 : ∀ i, k1 ≤ i → i < kb - 1 → i < b.size → ∀ j, j < k → j < a.size → R (b.getD i d0) (a.getD j d0) = false := fun i hi hib hi2 j h1 h2 => L.tr _ _ _ (m.gb_at hi2) (m.ga_at (show k - 1 < a.size by omega)) (m.ga_at h2) (by have := hk12 i hi hib; simpa [byd] using this) (m.a_le L (by omega) (by omega))
                    have gt2 : ∀ j, j < k1 → j < b.size → R (a.getD (k - 1) d0) (b.getD j d0) = false := fun j h1 h2 => L.asym _ _ (m.gb_at h2) (m.ga_at (by omega)) (by have := hk11 j h1; simpa [byd] using this)
                    by_cases ck1 : kb - 1 - k1 > 0
                    · rw [if_pos ck1]
                      have hm4 := hm3.kb (k := k1) (by omega) fun i h1 h2 h3 j h4 h5 => le2 i h1 h2 h3 j h4 h5
                      by_cases e4 : (k1 == 1) = true
                      · rw [if_pos e4]
                        exact wpS_pure ⟨⟨_, rfl⟩, .inl ⟨_, rfl, hfirst hm4 (eq_of_beq e4)⟩⟩
                      · rw [if_neg e4]
                        have e4' : ¬ k1 = 1 := by simpa using e4
                        by_cases e6 : (k1 == 0) = true
                        · rw [if_pos e6]
                          exact wpS_pure ⟨⟨_, rfl⟩, .inl ⟨_, rfl, hm4.done (.inr (eq_of_beq e6))⟩⟩
                        · rw [if_neg e6]
                          have e6' : ¬ k1 = 0 := by simpa using e6
                          refine wpS_bind (wpS_elem (at_get (show k - 1 < a.size by omega)) ?_)
                          have hm5 := hm4.pa (show 0 < k by omega) (by omega) fun j h1 h2 => gt2 j (by omega) h2
                          by_cases e5 : (k - 1 == 0) = true
                          · rw [if_pos e5]
                            exact wpS_pure ⟨⟨_, rfl⟩, .inl ⟨_, rfl, hm5.done (.inl (eq_of_beq e5))⟩⟩
                          · rw [if_neg e5]
                            have e5' : ¬ k - 1 = 0 := by simpa using e5
                            by_cases f : (decide (ka - k < 7) && decide (kb - 1 - k1 < 7)) = true
                            · rw [if_pos f]
                              exact wpS_pure ⟨⟨_, rfl⟩, .inr ⟨rfl, hm5, (by dsimp only; omega), (by dsimp only; omega), (by dsimp only; omega), (by dsimp only; omega), by dsimp only; omega⟩⟩
                            · rw [if_neg f]
                              exact wpS_pure ⟨⟨_, rfl⟩, rfl, hm5, (by dsimp only; omega), (by dsimp only; omega), (by dsimp only; omega), (by dsimp only; omega), by dsimp only; omega⟩
                    · rw [if_neg ck1]
                      have : k1 = kb - 1 := by omega
                      refine wpS_bind (wpS_elem (at_get (show k - 1 < a.size by omega)) ?_)
                      have hm5 := hm3.pa (show 0 < k by omega) (by omega) fun j h1 h2 => gt2 j (by omega) h2
                      by_cases e5 : (k - 1 == 0) = true
                      · rw [if_pos e5]
                        exact wpS_pure ⟨⟨_, rfl⟩, .inl ⟨_, rfl, hm5.done (.inl (eq_of_beq e5))⟩⟩
                      · rw [if_neg e5]
                        have e5' : ¬ k - 1 = 0 := by simpa using e5
                        by_cases f : (decide (ka - k < 7) && decide (kb - 1 - k1 < 7)) = true
                        · rw [if_pos f]
                          exact wpS_pure ⟨⟨_, rfl⟩, .inr ⟨rfl, hm5, (by dsimp only; omega), (by dsimp only; omega), (by dsimp only; omega), (by dsimp only; omega), by dsimp only; omega⟩⟩
                        · rw [if_neg f]
                          exact wpS_pure ⟨⟨_, rfl⟩, rfl, hm5, (by dsimp only; omega), (by dsimp only; omega), (by dsimp only; omega), (by dsimp only; omega), by dsimp only; omega⟩
              · rw [if_neg ck]
                have : k = ka := by omega
                have hm1 := hm
                refine wpS_bind (wpS_elem (at_get (show kb - 1 < b.size by omega)) ?_)
                have hm3 := hm1.pb (show 0 < kb by omega) (by omega) fun j h1 h2 => gt1 j (by omega) h2
                by_cases e3 : (kb - 1 == 1) = true
                · rw [if_pos e3]
                  exact wpS_pure ⟨⟨_, rfl⟩, .inl ⟨_, rfl, hfirst hm3 (eq_of_beq e3)⟩⟩
                · rw [if_neg e3]
                  have e3' : ¬ kb - 1 = 1 := by simpa using e3
                  refine wpS_bind (wpS_elem (at_get (show ka - 1 < a.size by omega)) ?_)
                  refine wpS_bind (gallop_ok L (left := true) (f := fun i => b.getD (0 + i) d0) hk (m.ga_at (by omega)) (fun i hi => at_get (by omega)) (fun i hi => m.gb_at (by omega)) (by omega) (mono_l L (m.ga_at (by omega)) (fun i hi => m.gb_at (by omega)) (fun i j hij hj => m.b_le L (by omega) (by omega))) fun k1 hk1n hk11 hk12 => ?_)
                  dsimp only
                  have le2 : ∀ i, k1 ≤ i → i < kb - 1 → i < b.size → ∀ j, j < ka → j < a.size → R (b.getD i d0) (a.getD j d0) = false := fun i hi hib hi2 j h1 h2 => L.tr _ _ _ (m.gb_at hi2) (m.ga_at (show ka - 1 < a.size by omega)) (m.ga_at h2) (by have := hk12 i hi hib; simpa [byd] using this) (m.a_le L (by omega) (by omega))
                  have gt2 : ∀ j, j < k1 → j < b.size → R (a.getD (ka - 1) d0) (b.getD j d0) = false := fun j h1 h2 => L.asym _ _ (m.gb_at h2) (m.ga_at (by omega)) (by have := hk11 j h1; simpa [byd] using this)
                  by_cases ck1 : kb - 1 - k1 > 0
                  · rw [if_pos ck1]
                    have hm4 := hm3.kb (k := k1) (by omega) fun i h1 h2 h3 j h4 h5 => le2 i h1 h2 h3 j h4 h5
                    by_cases e4 : (k1 == 1) = true
                    · rw [if_pos e4]
                      exact wpS_pure ⟨⟨_, rfl⟩, .inl ⟨_, rfl, hfirst hm4 (eq_of_beq e4)⟩⟩
                    · rw [if_neg e4]
                      have e4' : ¬ k1 = 1 := by simpa using e4
                      by_cases e6 : (k1 == 0) = true
                      · rw [if_pos e6]
                        exact wpS_pure ⟨⟨_, rfl⟩, .inl ⟨_, rfl, hm4.done (.inr (eq_of_beq e6))⟩⟩
                      · rw [if_neg e6]
                        have e6' : ¬ k1 = 0 := by simpa using e6
                        refine wpS_bind (wpS_elem (at_get (show ka - 1 < a.size by omega)) ?_)
                        have hm5 := hm4.pa (show 0 < ka by omega) (by omega) fun j h1 h2 => gt2 j (by omega) h2
                        by_cases e5 : (ka - 1 == 0) = true
                        · rw [if_pos e5]
                          exact wpS_pure ⟨⟨_, rfl⟩, .inl ⟨_, rfl, hm5.done (.inl (eq_of_beq e5))⟩⟩
                        · rw [if_neg e5]
                          have e5' : ¬ ka - 1 = 0 := by simpa using e5
                          by_cases f : (decide (ka - k < 7) && decide (kb - 1 - k1 < 7)) = true
                          · rw [if_pos f]
                            exact wpS_pure ⟨⟨_, rfl⟩, .inr ⟨rfl, hm5, (by dsimp only; omega), (by dsimp only; omega), (by dsimp only; omega), (by dsimp only; omega), by dsimp only; omega⟩⟩
                          · rw [if_neg f]
                            exact wpS_pure ⟨⟨_, rfl⟩, rfl, hm5, (by dsimp only; omega), (by dsimp only; omega), (by dsimp only; omega), (by dsimp only; omega), by dsimp only; omega⟩
                  · rw [if_neg ck1]
                    have : k1 = kb - 1 := by omega
                    refine wpS_bind (wpS_elem (at_get (show ka - 1 < a.size by omega)) ?_)
                    have hm5 := hm3.pa (show 0 < ka by omega) (by omega) fun j h1 h2 => gt2 j (by omega) h2
                    by_cases e5 : (ka - 1 == 0) = true
                    · rw [if_pos e5]
                      exact wpS_pure ⟨⟨_, rfl⟩, .inl ⟨_, rfl, hm5.done (.inl (eq_of_beq e5))⟩⟩
                    · rw [if_neg e5]
                      have e5' : ¬ ka - 1 = 0 := by simpa using e5
                      by_cases f : (decide (ka - k < 7) && decide (kb - 1 - k1 < 7)) = true
                      · rw [if_pos f]
                        exact wpS_pure ⟨⟨_, rfl⟩, .inr ⟨rfl, hm5, (by dsimp only; omega), (by dsimp only; omega), (by dsimp only; omega), (by dsimp only; omega), by dsimp only; omega⟩⟩
                      · rw [if_neg f]
                        exact wpS_pure ⟨⟨_, rfl⟩, rfl, hm5, (by dsimp only; omega), (by dsimp only; omega), (by dsimp only; omega), (by dsimp only; omega), by dsimp only; omega⟩
            · rw [if_neg cg]
              refine wpS_bind (wpS_setMin ?_)
              refine wpS_bind (wpS_elem (at_get (show kb - 1 < b.size by omega)) ?_)
              refine wpS_bind (gallop_ok L (left := false) (f := fun i => a.getD (0 + i) d0) hk (m.gb_at (by omega)) (fun i hi => at_get (by omega)) (fun i hi => m.ga_at (by omega)) (by omega) (mono_r L (m.gb_at (by omega)) (fun i hi => m.ga_at (by omega)) (fun i j hij hj => m.a_le L (by omega) (by omega))) fun k hkn hk1 hk2 => ?_)
              dsimp only
              have le1 : ∀ i, k ≤ i → i < ka → i < a.size → ∀ j, j < kb → j < b.size → R (a.getD i d0) (b.getD j d0) = false := fun i h1 h2 h3 j h4 h5 => L.tr _ _ _ (m.ga_at h3) (m.gb_at (show kb - 1 < b.size by omega)) (m.gb_at h5) (L.asym _ _ (m.gb_at (by omega)) (m.ga_at h3) (by have := hk2 i h1 h2; simpa [byd] using this)) (m.b_le L (by omega) (by omega))
              have gt1 : ∀ j, j < k → j < a.size → R (b.getD (kb - 1) d0) (a.getD j d0) = false := fun j h1 h2 => by have := hk1 j h1; simpa [byd] using this
              by_cases ck : ka - k > 0
              · rw [if_pos ck]
                have hm1 := hm.ka (k := k) (by omega) fun i h1 h2 h3 j h4 h5 => le1 i h1 h2 h3 j h4 h5
                by_cases e : (k == 0) = true
                · rw [if_pos e]
                  exact wpS_pure ⟨⟨_, rfl⟩, .inl ⟨_, rfl, hm1.done (.inl (eq_of_beq e))⟩⟩
                · rw [if_neg e]
                  have e' : ¬ k = 0 := by simpa using e
                  refine wpS_bind (wpS_elem (at_get (show kb - 1 < b.size by omega)) ?_)
                  have hm3 := hm1.pb (show 0 < kb by omega) (by omega) fun j h1 h2 => gt1 j (by omega) h2
                  by_cases e3 : (kb - 1 == 1) = true
                  · rw [if_pos e3]
                    exact wpS_pure ⟨⟨_, rfl⟩, .inl ⟨_, rfl, hfirst hm3 (eq_of_beq e3)⟩⟩
                  · rw [if_neg e3]
                    have e3' : ¬ kb - 1 = 1 := by simpa using e3
                    refine wpS_bind (wpS_elem (at_get (show k - 1 < a.size by omega)) ?_)
                    refine wpS_bind (gallop_ok L (left := true) (f := fun i => b.getD (0 + i) d0) hk (m.ga_at (by omega)) (fun i hi => at_get (by omega)) (fun i hi => m.gb_at (by omega)) (by omega) (mono_l L (m.ga_at (by omega)) (fun i hi => m.gb_at (by omega)) (fun i j hij hj => m.b_le L (by omega) (by omega))) fun k1 hk1n hk11 hk12 => ?_)
                    dsimp only
                    have le2 : ∀ i, k1 ≤ i → i < kb - 1 → i < b.size → ∀ j, j < k → j < a.size → R (b.getD i d0) (a.getD j d0) = false := fun i hi hib hi2 j h1 h2 => L.tr _ _ _ (m.gb_at hi2) (m.ga_at (show k - 1 < a.size by omega)) (m.ga_at h2) (by have := hk12 i hi hib; simpa [byd] using this) (m.a_le L (by omega) (by omega))
                    have gt2 : ∀ j, j < k1 → j < b.size → R (a.getD (k - 1) d0) (b.getD j d0) = false := fun j h1 h2 => L.asym _ _ (m.gb_at h2) (m.ga_at (by omega)) (by have := hk11 j h1; simpa [byd] using this)
                    by_cases ck1 : kb - 1 - k1 > 0
                    · rw [if_pos ck1]
                      have hm4 := hm3.kb (k := k1) (by omega) fun i h1 h2 h3 j h4 h5 => le2 i h1 h2 h3 j h4 h5
                      by_cases e4 : (k1 == 1) = true
                      · rw [if_pos e4]
                        exact wpS_pure ⟨⟨_, rfl⟩, .inl ⟨_, rfl, hfirst hm4 (eq_of_beq e4)⟩⟩
                      · rw [if_neg e4]
                        have e4' : ¬ k1 = 1 := by simpa using e4
                        by_cases e6 : (k1 == 0) = true
                        · rw [if_pos e6]
                          exact wpS_pure ⟨⟨_, rfl⟩, .inl ⟨_, rfl, hm4.done (.inr (eq_of_beq e6))⟩⟩
                        · rw [if_neg e6]
                          have e6' : ¬ k1 = 0 := by simpa using e6
                          refine wpS_bind (wpS_elem (at_get (show k - 1 < a.size by omega)) ?_)
                          have hm5 := hm4.pa (show 0 < k by omega) (by omega) fun j h1 h2 => gt2 j (by omega) h2
                          by_cases e5 : (k - 1 == 0) = true
                          · rw [if_pos e5]
                            exact wpS_pure ⟨⟨_, rfl⟩, .inl ⟨_, rfl, hm5.done (.inl (eq_of_beq e5))⟩⟩
                          · rw [if_neg e5]
                            have e5' : ¬ k - 1 = 0 := by simpa using e5
                            by_cases f : (decide (ka - k < 7) && decide (kb - 1 - k1 < 7)) = true
                            · rw [if_pos f]
                              exact wpS_pure ⟨⟨_, rfl⟩, .inr ⟨rfl, hm5, (by dsimp only; omega), (by dsimp only; omega), (by dsimp only; omega), (by dsimp only; omega), by dsimp only; omega⟩⟩
                            · rw [if_neg f]
                              exact wpS_pure ⟨⟨_, rfl⟩, rfl, hm5, (by dsimp only; omega), (by dsimp only; omega), (by dsimp only; omega), (by dsimp only; omega), by dsimp only; omega⟩
                    · rw [if_neg ck1]
                      have : k1 = kb - 1 := by omega
                      refine wpS_bind (wpS_elem (at_get (show k - 1 < a.size by omega)) ?_)
                      have hm5 := hm3.pa (show 0 < k by omega) (by omega) fun j h1 h2 => gt2 j (by omega) h2
                      by_cases e5 : (k - 1 == 0) = true
                      · rw [if_pos e5]
                        exact wpS_pure ⟨⟨_, rfl⟩, .inl ⟨_, rfl, hm5.done (.inl (eq_of_beq e5))⟩⟩
                      · rw [if_neg e5]
                        have e5' : ¬ k - 1 = 0 := by simpa using e5
                        by_cases f : (decide (ka - k < 7) && decide (kb - 1 - k1 < 7)) = true
                        · rw [if_pos f]
                          exact wpS_pure ⟨⟨_, rfl⟩, .inr ⟨rfl, hm5, (by dsimp only; omega), (by dsimp only; omega), (by dsimp only; omega), (by dsimp only; omega), by dsimp only; omega⟩⟩
                        · rw [if_neg f]
                          exact wpS_pure ⟨⟨_, rfl⟩, rfl, hm5, (by dsimp only; omega), (by dsimp only; omega), (by dsimp only; omega), (by dsimp only; omega), by dsimp only; omega⟩
              · rw [if_neg ck]
                have : k = ka := by omega
                have hm1 := hm
                refine wpS_bind (wpS_elem (at_get (show kb - 1 < b.size by omega)) ?_)
                have hm3 := hm1.pb (show 0 < kb by omega) (by omega) fun j h1 h2 => gt1 j (by omega) h2
                by_cases e3 : (kb - 1 == 1) = true
                · rw [if_pos e3]
                  exact wpS_pure ⟨⟨_, rfl⟩, .inl ⟨_, rfl, hfirst hm3 (eq_of_beq e3)⟩⟩
                · rw [if_neg e3]
                  have e3' : ¬ kb - 1 = 1 := by simpa using e3
                  refine wpS_bind (wpS_elem (at_get (show ka - 1 < a.size by omega)) ?_)
                  refine wpS_bind (gallop_ok L (left := true) (f := fun i => b.getD (0 + i) d0) hk (m.ga_at (by omega)) (fun i hi => at_get (by omega)) (fun i hi => m.gb_at (by omega)) (by omega) (mono_l L (m.ga_at (by omega)) (fun i hi => m.gb_at (by omega)) (fun i j hij hj => m.b_le L (by omega) (by omega))) fun k1 hk1n hk11 hk12 => ?_)
                  dsimp only
                  have le2 : ∀ i, k1 ≤ i → i < kb - 1 → i < b.size → ∀ j, j < ka → j < a.size → R (b.getD i d0) (a.getD j d0) = false := fun i hi hib hi2 j h1 h2 => L.tr _ _ _ (m.gb_at hi2) (m.ga_at (show ka - 1 < a.size by omega)) (m.ga_at h2) (by have := hk12 i hi hib; simpa [byd] using this) (m.a_le L (by omega) (by omega))
                  have gt2 : ∀ j, j < k1 → j < b.size → R (a.getD (ka - 1) d0) (b.getD j d0) = false := fun j h1 h2 => L.asym _ _ (m.gb_at h2) (m.ga_at (by omega)) (by have := hk11 j h1; simpa [byd] using this)
                  by_cases ck1 : kb - 1 - k1 > 0
                  · rw [if_pos ck1]
                    have hm4 := hm3.kb (k := k1) (by omega) fun i h1 h2 h3 j h4 h5 => le2 i h1 h2 h3 j h4 h5
                    by_cases e4 : (k1 == 1) = true
                    · rw [if_pos e4]
                      exact wpS_pure ⟨⟨_, rfl⟩, .inl ⟨_, rfl, hfirst hm4 (eq_of_beq e4)⟩⟩
                    · rw [if_neg e4]
                      have e4' : ¬ k1 = 1 := by simpa using e4
                      by_cases e6 : (k1 == 0) = true
                      · rw [if_pos e6]
                        exact wpS_pure ⟨⟨_, rfl⟩, .inl ⟨_, rfl, hm4.done (.inr (eq_of_beq e6))⟩⟩
                      · rw [if_neg e6]
                        have e6' : ¬ k1 = 0 := by simpa using e6
                        refine wpS_bind (wpS_elem (at_get (show ka - 1 < a.size by omega)) ?_)
                        have hm5 := hm4.pa (show 0 < ka by omega) (by omega) fun j h1 h2 => gt2 j (by omega) h2
                        by_cases e5 : (ka - 1 == 0) = true
                        · rw [if_pos e5]
                          exact wpS_pure ⟨⟨_, rfl⟩, .inl ⟨_, rfl, hm5.done (.inl (eq_of_beq e5))⟩⟩
                        · rw [if_neg e5]
                          have e5' : ¬ ka - 1 = 0 := by simpa using e5
                          by_cases f : (decide (ka - k < 7) && decide (kb - 1 - k1 < 7)) = true
                          · rw [if_pos f]
                            exact wpS_pure ⟨⟨_, rfl⟩, .inr ⟨rfl, hm5, (by dsimp only; omega), (by dsimp only; omega), (by dsimp only; omega), (by dsimp only; omega), by dsimp only; omega⟩⟩
                          · rw [if_neg f]
                            exact wpS_pure ⟨⟨_, rfl⟩, rfl, hm5, (by dsimp only; omega), (by dsimp only; omega), (by dsimp only; omega), (by dsimp only; omega), by dsimp only; omega⟩
                  · rw [if_neg ck1]
                    have : k1 = kb - 1 := by omega
                    refine wpS_bind (wpS_elem (at_get (show ka - 1 < a.size by omega)) ?_)
                    have hm5 := hm3.pa (show 0 < ka by omega) (by omega) fun j h1 h2 => gt2 j (by omega) h2
                    by_cases e5 : (ka - 1 == 0) = true
                    · rw [if_pos e5]
                      exact wpS_pure ⟨⟨_, rfl⟩, .inl ⟨_, rfl, hm5.done (.inl (eq_of_beq e5))⟩⟩
                    · rw [if_neg e5]
                      have e5' : ¬ ka - 1 = 0 := by simpa using e5
                      by_cases f : (decide (ka - k < 7) && decide (kb - 1 - k1 < 7)) = true
                      · rw [if_pos f]
                        exact wpS_pure ⟨⟨_, rfl⟩, .inr ⟨rfl, hm5, (by dsimp only; omega), (by dsimp only; omega), (by dsimp only; omega), (by dsimp only; omega), by dsimp only; omega⟩⟩
                      · rw [if_neg f]
                        exact wpS_pure ⟨⟨_, rfl⟩, rfl, hm5, (by dsimp only; omega), (by dsimp only; omega), (by dsimp only; omega), (by dsimp only; omega), by dsimp only; omega⟩
          · rintro ⟨r, ka, kb, o, mg2, ac2, bc2⟩ st3 ⟨⟨g, rfl⟩, rfl, hm, hka, hkb, hka2, hkb2, hcn2⟩
            dsimp only at hm hka hkb hka2 hkb2 hcn2
            exfalso
            omega
          rintro ⟨r, ka, kb, o, mg2, ac2, bc2⟩ st3 ⟨⟨g, rfl⟩, hres⟩
          rcases hres with ⟨X, hX, hM⟩ | ⟨hX, hm, hka, hkb, hka2, hkb2, hcn2⟩
          · dsimp only at hX
            subst hX
            exact wpS_pure ⟨⟨g, rfl⟩, X, rfl, hM⟩
          · dsimp only at hX hm hka hkb hka2 hkb2 hcn2 ⊢
            subst hX
            dsimp only
            refine wpS_bind (wpS_setMin (wpS_pure ⟨⟨_, rfl⟩, rfl, hm, hka, hkb, hka2, hkb2, ?_⟩))
            dsimp only
            omega
      · rintro ⟨r, na, nb, o, mg⟩ st1 ⟨⟨g, rfl⟩, rfl, hm, hia, hib, hia2, hib2, hcnt⟩
        dsimp only at hm hia hib hia2 hib2 hcnt
        exfalso
        omega
      rintro ⟨r, na, nb, o, mg⟩ st1 ⟨⟨g, rfl⟩, X, hX, hM⟩
      dsimp only at hX ⊢
      subst hX
      exact wpS_pure (h X g hM)
end
end L2
set_option Elab.async false
set_option linter.all false
set_option maxRecDepth 100000
set_option maxHeartbeats 4000000
namespace L2
open PySem PySem.W PyProof.Rows
section
variable {M : Model} {A : Around} {E : Value → Shared → Prop} {s : Shared} {κ : SortKind} {G : Keyed → Prop} {R : Keyed → Keyed → Bool}
def SegO (R : Keyed → Keyed → Bool) (xs : Array Keyed) (l u : Nat) : Prop := ∀ i j, l ≤ i → i < j → j < u → R (xs.getD j d0) (xs.getD i d0) = false
theorem SegO.le (L : LtE M A E s κ G R) {xs : Array Keyed} {l u : Nat} (h : SegO R xs l u) (g : ∀ x ∈ xs.toList, G x) (hu : u ≤ xs.size) {i j : Nat} (hl : l ≤ i) (hij : i ≤ j) (hj : j < u) : R (xs.getD j d0) (xs.getD i d0) = false := by
  by_cases e : i = j
  · subst e
    have gi := g _ (at_mem (a := xs) (i := i) (by omega))
    cases z : R (xs.getD i d0) (xs.getD i d0) with
    | false => rfl
    | true => have := L.asym _ _ gi gi z; rw [z] at this; cases this
  · exact h i j hl (by omega) hj
def layB (sa : Nat) (ms : List (Keyed × Nat)) (arr : Array Keyed) : Array Keyed := ms.foldl (fun a x => a.setIfInBounds (sa + x.2) x.1) arr
theorem layB_get (sa : Nat) : ∀ (ms : List Keyed) (off : Nat) (arr : Array Keyed) (k : Nat), sa + off + ms.length ≤ arr.size → (layB sa (ms.zipIdx off) arr)[k]? = if sa + off ≤ k ∧ k < sa + off + ms.length then ms[k - (sa + off)]? else arr[k]?
  | [], off, arr, k, h => by
    rw [if_neg (by simp)]
    rfl
  | m :: ms, off, arr, k, h => by
    simp only [List.length_cons] at h ⊢
    have ih := layB_get sa ms (off + 1) (arr.setIfInBounds (sa + off) m) k (by simp; omega)
    have e : layB sa ((m :: ms).zipIdx off) arr = layB sa (ms.zipIdx (off + 1)) (arr.setIfInBounds (sa + off) m) := rfl
    rw [e, ih]
    by_cases c : k = sa + off
    · subst c
      rw [if_neg (by omega), if_pos (by omega)]
      simp [Array.getElem?_setIfInBounds, show sa + off < arr.size by omega]
    · by_cases d : sa + (off + 1) ≤ k ∧ k < sa + (off + 1) + ms.length
      · rw [if_pos d, if_pos (by omega), show k - (sa + off) = (k - (sa + (off + 1))) + 1 by omega, List.getElem?_cons_succ]
      · rw [if_neg d, if_neg (by omega), Array.getElem?_setIfInBounds, if_neg (by omega)]
theorem layB_list {sa : Nat} {ms : List Keyed} {arr : Array Keyed} (h : sa + ms.length ≤ arr.size) : (layB sa ms.zipIdx arr).toList = arr.toList.take sa ++ (ms ++ arr.toList.drop (sa + ms.length)) := by
  refine List.ext_getElem? fun k => ?_
  rw [Array.getElem?_toList, layB_get sa ms 0 arr k (by omega), Nat.add_zero]
  have l1 : (arr.toList.take sa).length = sa := by rw [List.length_take]; simp; omega
  by_cases c : k < sa
  · rw [if_neg (by omega), List.getElem?_append_left (by omega), List.getElem?_take, if_pos c, Array.getElem?_toList]
  · rw [List.getElem?_append_right (by omega), l1]
    by_cases d : k < sa + ms.length
    · rw [if_pos (by omega), List.getElem?_append_left (by omega)]
    · rw [if_neg (by omega), List.getElem?_append_right (by omega), List.getElem?_drop, Array.getElem?_toList]
      congr 1
      omega
theorem ex_get {a : Array Keyed} {i n j : Nat} (hn : n ≤ a.size) (h : i + j < n) : (a.extract i n).getD j d0 = a.getD (i + j) d0 := by
  have h1 : j < (a.extract i n).size := by rw [Array.size_extract]; omega
  simp only [Array.getD, h1, dif_pos, show i + j < a.size by omega]
  simp
theorem ex_size {a : Array Keyed} {i n : Nat} (hn : n ≤ a.size) : (a.extract i n).size = n - i := by rw [Array.size_extract, Nat.min_eq_left hn]
theorem ol_of {a : Array Keyed} (h : ∀ i j, i < j → j < a.size → R (a.getD j d0) (a.getD i d0) = false) : OL R a.toList := by
  refine List.pairwise_iff_getElem.mpr fun i j hi hj hij => ?_
  have := h i j hij (by simpa using hj)
  simpa [Array.getD, show j < a.size by simpa using hj, show i < a.size by simpa using hi] using this
theorem lay_at {sa : Nat} {mr arr : Array Keyed} (h : sa + mr.size ≤ arr.size) (k : Nat) : (layB sa mr.toList.zipIdx arr).getD k d0 = if sa ≤ k ∧ k < sa + mr.size then mr.getD (k - sa) d0 else arr.getD k d0 := by
  have := layB_get sa mr.toList 0 arr k (by simpa using h)
  rw [Nat.add_zero, Array.length_toList] at this
  rw [Array.getD_eq_getD_getElem?, this]
  by_cases c : sa ≤ k ∧ k < sa + mr.size
  · rw [if_pos c, if_pos c, Array.getElem?_toList, Array.getD_eq_getD_getElem?]
  · rw [if_neg c, if_neg c, Array.getD_eq_getD_getElem?]
theorem mgd_mem {a b x : Array Keyed} (h : Mgd R a b x) {i : Nat} (hi : i < x.size) : (∃ j, j < a.size ∧ x.getD i d0 = a.getD j d0) ∨ (∃ j, j < b.size ∧ x.getD i d0 = b.getD j d0) := by
  have m := h.2.mem_iff.mp (at_mem hi)
  rcases List.mem_append.mp m with m | m
  · obtain ⟨j, _, hj, e⟩ := mem_drop (i := 0) (by rw [List.drop_zero]; exact m)
    exact .inl ⟨j, hj, e⟩
  · obtain ⟨j, _, hj, e⟩ := mem_drop (i := 0) (by rw [List.drop_zero]; exact m)
    exact .inr ⟨j, hj, e⟩
theorem wpS_set {st1 st : SortSt} {Q : PUnit → SortSt → Prop} (h : Q ⟨⟩ st1) : wpS M A E s (set st1 : StateT SortSt Sem PUnit) Q st := by
  unfold wpS; rw [StateT.run_set]; exact wpAny_pure ⟨rfl, h⟩
theorem mergeAt_ok (L : LtE M A E s κ G R) {i : Nat} {st : SortSt} {sa na pa sb nb pb : Nat} {Q : Bool → SortSt → Prop} (hk : kindOf st = κ) (hf : failedOf st = none) (gl : ∀ x ∈ (arrOf st).toList, G x) (p1 : (pendingOf st)[i]? = some (sa, na, pa)) (p2 : (pendingOf st)[i + 1]? = some (sb, nb, pb)) (hs : sa + na = sb) (hn : sb + nb ≤ (arrOf st).size) (h1 : 0 < na) (h2 : 0 < nb)
    (o1 : SegO R (arrOf st) sa sb) (o2 : SegO R (arrOf st) sb (sb + nb))
    (h : ∀ arr g, arr.toList.Perm (arrOf st).toList → (∀ j, j < sa ∨ sb + nb ≤ j → arr.getD j d0 = (arrOf st).getD j d0) → SegO R arr sa (sb + nb) → Q true (SortSt.mk' κ arr (((pendingOf st).setIfInBounds i (sa, na + nb, pa)).eraseIdxIfInBounds (i + 1)) g none)) : wpS M A E s (mergeAt' i) Q st := by
  have G1 : ∀ {j : Nat}, j < (arrOf st).size → G ((arrOf st).getD j d0) := fun h => gl _ (at_mem h)
  have le1 : ∀ {i j : Nat}, sa ≤ i → i ≤ j → j < sb → R ((arrOf st).getD j d0) ((arrOf st).getD i d0) = false := fun a b c => o1.le L gl (by omega) a b c
  have le2 : ∀ {i j : Nat}, sb ≤ i → i ≤ j → j < sb + nb → R ((arrOf st).getD j d0) ((arrOf st).getD i d0) = false := fun a b c => o2.le L gl hn a b c
  refine wpS_bind (wpS_get ?_)
  rw [p1, p2]
  dsimp only
  refine wpS_bind (wpS_set ?_)
  refine wpS_bind (wpS_elem (at_get (show sb < (arrOf st).size by omega)) ?_)
  refine wpS_bind (gallop_ok L (left := false) (f := fun i => (arrOf st).getD (sa + i) d0) hk (G1 (by omega)) (fun i hi => at_get (a := arrOf st) (by omega)) (fun i hi => G1 (by omega)) h1 (mono_r L (G1 (by omega)) (fun i hi => G1 (by omega)) (fun i j hij hj => le1 (by omega) (by omega) (by omega))) fun k hkn hk1 hk2 => ?_)
  dsimp only
  have low : ∀ i, i < k → R ((arrOf st).getD sb d0) ((arrOf st).getD (sa + i) d0) = false := fun i hi => by have := hk1 i hi; simpa [byd] using this
  have high : ∀ i, k ≤ i → i < na → R ((arrOf st).getD sb d0) ((arrOf st).getD (sa + i) d0) = true := fun i h1 h2 => by have := hk2 i h1 h2; simpa [byd] using this
  have lowB : ∀ i j, sa ≤ i → i < sa + k → sb ≤ j → j < sb + nb → R ((arrOf st).getD j d0) ((arrOf st).getD i d0) = false := fun i j a b c d => by
    have z := low (i - sa) (by omega)
    rw [show sa + (i - sa) = i by omega] at z
    exact L.tr _ _ _ (G1 (by omega)) (G1 (by omega)) (G1 (by omega)) (le2 (Nat.le_refl _) c d) z
  by_cases c1 : (na - k == 0) = true
  · rw [if_pos c1]
    have c1' : na - k = 0 := eq_of_beq c1
    refine wpS_pure ?_
    have z := h (arrOf st) (gallopOf st) (.refl _) (fun _ _ => rfl) fun i j hi hij hj => by
      by_cases ci : i < sb
      · by_cases cj : j < sb
        · exact le1 hi (by omega) cj
        · exact lowB i j hi (by omega) (by omega) hj
      · exact le2 (by omega) (by omega) hj
    rw [← hk, ← hf] at z
    exact z
  · rw [if_neg c1]
    have c1' : ¬ na - k = 0 := by simpa using c1
    refine wpS_bind (wpS_elem (at_get (show sa + k + (na - k) - 1 < (arrOf st).size by omega)) ?_)
    have eL : sa + k + (na - k) - 1 = sb - 1 := by omega
    rw [eL]
    refine wpS_bind (gallop_ok L (left := true) (f := fun i => (arrOf st).getD (sb + i) d0) hk (G1 (by omega)) (fun i hi => at_get (a := arrOf st) (by omega)) (fun i hi => G1 (by omega)) (by omega) (mono_l L (G1 (by omega)) (fun i hi => G1 (by omega)) (fun i j hij hj => le2 (by omega) (by omega) (by omega))) fun n2 hn2 hn21 hn22 => ?_)
    dsimp only
    have below : ∀ i, i < n2 → R ((arrOf st).getD (sb + i) d0) ((arrOf st).getD (sb - 1) d0) = true := fun i hi => by have := hn21 i hi; simpa [byd] using this
    have above : ∀ i j, sa ≤ i → i < sb → sb + n2 ≤ j → j < sb + nb → R ((arrOf st).getD j d0) ((arrOf st).getD i d0) = false := fun i j a b c d => by
      have z : R ((arrOf st).getD j d0) ((arrOf st).getD (sb - 1) d0) = false := by
        have := hn22 (j - sb) (by omega) (by omega)
        simpa [byd, show sb + (j - sb) = j by omega] using this
      exact L.tr _ _ _ (G1 (by omega)) (G1 (by omega)) (G1 (by omega)) z (le1 a (by omega) (by omega))
    by_cases c2 : (n2 == 0) = true
    · rw [if_pos c2]
      have c2' : n2 = 0 := eq_of_beq c2
      refine wpS_pure ?_
      have z := h (arrOf st) (gallopOf st) (.refl _) (fun _ _ => rfl) fun i j hi hij hj => by
        by_cases ci : i < sb
        · by_cases cj : j < sb
          · exact le1 hi (by omega) cj
          · exact above i j hi ci (by omega) hj
        · exact le2 (by omega) (by omega) hj
      rw [← hk, ← hf] at z
      exact z
    · rw [if_neg c2]
      have c2' : ¬ n2 = 0 := by simpa using c2
      have sx : ((arrOf st).extract (sa + k) sb).size = sb - (sa + k) := ex_size (by omega)
      have sy : ((arrOf st).extract sb (sb + n2)).size = n2 := by rw [ex_size (by omega)]; omega
      have gx : ∀ {j : Nat}, j < sb - (sa + k) → ((arrOf st).extract (sa + k) sb).getD j d0 = (arrOf st).getD (sa + k + j) d0 := fun hj => ex_get (by omega) (by omega)
      have gy : ∀ {j : Nat}, j < n2 → ((arrOf st).extract sb (sb + n2)).getD j d0 = (arrOf st).getD (sb + j) d0 := fun hj => ex_get (by omega) (by omega)
      have mem : ∀ {i n : Nat} {x : Keyed}, x ∈ ((arrOf st).extract i n).toList → G x := fun {i n x} hx => by
        rw [Array.toList_extract, List.extract_eq_take_drop] at hx
        exact gl x (List.mem_of_mem_drop (List.mem_of_mem_take hx))
      have m : ML R G ((arrOf st).extract (sa + k) sb) ((arrOf st).extract sb (sb + n2)) := ⟨fun x => mem, fun x => mem, ol_of fun i j hij hj => by
          rw [sx] at hj
          rw [gx (by omega), gx (by omega)]
          exact le1 (by omega) (by omega) (by omega), ol_of fun i j hij hj => by
          rw [sy] at hj
          rw [gy (by omega), gy (by omega)]
          exact le2 (by omega) (by omega) (by omega)⟩
      have q0 : ∀ i, i < ((arrOf st).extract (sa + k) sb).size → R (((arrOf st).extract (sa + k) sb).getD i d0) (((arrOf st).extract sb (sb + n2)).getD 0 d0) = false := fun i hi => by
        rw [sx] at hi
        rw [gx hi, gy (by omega)]
        refine L.asym _ _ (G1 (by omega)) (G1 (by omega)) ?_
        have := high (k + i) (by omega) (by omega)
        rw [← Nat.add_assoc] at this
        exact this
      have q1 : ∀ j, j < ((arrOf st).extract sb (sb + n2)).size → R (((arrOf st).extract (sa + k) sb).getD (((arrOf st).extract (sa + k) sb).size - 1) d0) (((arrOf st).extract sb (sb + n2)).getD j d0) = false := fun j hj => by
        rw [sy] at hj
        rw [sx, gx (by omega), gy hj, show sa + k + (sb - (sa + k) - 1) = sb - 1 by omega]
        exact L.asym _ _ (G1 (by omega)) (G1 (by omega)) (below j hj)
      have mfin : ∀ mr, Mgd R ((arrOf st).extract (sa + k) sb) ((arrOf st).extract sb (sb + n2)) mr → (layB (sa + k) mr.toList.zipIdx (arrOf st)).toList.Perm (arrOf st).toList ∧ (∀ j, j < sa ∨ sb + nb ≤ j → (layB (sa + k) mr.toList.zipIdx (arrOf st)).getD j d0 = (arrOf st).getD j d0) ∧ SegO R (layB (sa + k) mr.toList.zipIdx (arrOf st)) sa (sb + nb) := fun mr hM => by
        have sm : mr.size = sb + n2 - (sa + k) := by
          have := hM.2.length_eq
          rw [List.length_append, Array.length_toList, Array.length_toList, Array.length_toList, sx, sy] at this
          omega
        refine ⟨?_, fun j hj => ?_, fun i j hi hij hj => ?_⟩
        · rw [layB_list (by rw [Array.length_toList, sm]; omega)]
          have e : (arrOf st).toList = (arrOf st).toList.take (sa + k) ++ (((arrOf st).extract (sa + k) sb).toList ++ ((arrOf st).extract sb (sb + n2)).toList ++ (arrOf st).toList.drop (sa + k + mr.toList.length)) := by
            rw [Array.length_toList, sm, Array.toList_extract, Array.toList_extract, List.extract_eq_take_drop, List.extract_eq_take_drop]
            have e1 : ((arrOf st).toList.drop sb).take (sb + n2 - sb) = (((arrOf st).toList.drop (sa + k)).drop (sb - (sa + k))).take (n2) := by rw [List.drop_drop, show sa + k + (sb - (sa + k)) = sb by omega, Nat.add_sub_cancel_left]
            have e2 : (arrOf st).toList.drop (sa + k + (sb + n2 - (sa + k))) = (((arrOf st).toList.drop (sa + k)).drop (sb - (sa + k))).drop n2 := by rw [List.drop_drop, List.drop_drop]; congr 1; omega
            rw [e1, e2, List.append_assoc, List.take_append_drop, List.take_append_drop, List.take_append_drop]
          conv => rhs; rw [e]
          exact List.Perm.append_left _ (List.Perm.append_right _ hM.2)
        · rw [lay_at (by omega), if_neg (by omega)]
        · rw [lay_at (by omega), lay_at (by omega)]
          by_cases ci : sa + k ≤ i ∧ i < sa + k + mr.size
          · rw [if_pos ci]
            by_cases cj : sa + k ≤ j ∧ j < sa + k + mr.size
            · rw [if_pos cj]
              exact ol_at hM.1 (by omega) (by omega)
            · rw [if_neg cj]
              rcases mgd_mem hM (i := i - (sa + k)) (by omega) with ⟨t, ht, et⟩ | ⟨t, ht, et⟩
              · rw [sx] at ht
                rw [et, gx ht]
                exact above _ j (by omega) (by omega) (by omega) hj
              · rw [sy] at ht
                rw [et, gy ht]
                exact le2 (by omega) (by omega) hj
          · rw [if_neg ci]
            by_cases cj : sa + k ≤ j ∧ j < sa + k + mr.size
            · rw [if_pos cj]
              rcases mgd_mem hM (i := j - (sa + k)) (by omega) with ⟨t, ht, et⟩ | ⟨t, ht, et⟩
              · rw [sx] at ht
                rw [et, gx ht]
                exact le1 hi (by omega) (by omega)
              · rw [sy] at ht
                rw [et, gy ht]
                exact lowB i _ hi (by omega) (by omega) (by omega)
            · rw [if_neg cj]
              by_cases di : i < sa + k
              · by_cases dj : j < sb
                · exact le1 hi (by omega) dj
                · exact lowB i j hi di (by omega) hj
              · exact le2 (by omega) (by omega) hj
      by_cases c3 : na - k ≤ n2
      · rw [if_pos c3]
        refine wpS_bind (mergeLo_ok L (a := (arrOf st).extract (sa + k) sb) (b := (arrOf st).extract sb (sb + n2)) hk m (by omega) (by omega) q0 q1 fun mr g hM => ?_)
        refine wpS_bind (wpS_modify (wpS_bind (wpS_get ?_)))
        refine wpS_pure ?_
        show Q (failedOf st).isNone (SortSt.mk' (kindOf st) (layB (sa + k) mr.toList.zipIdx (arrOf st)) _ g (failedOf st))
        rw [hf, hk]
        exact h _ g (mfin mr hM).1 (mfin mr hM).2.1 (mfin mr hM).2.2
      · rw [if_neg c3]
        refine wpS_bind (mergeHi_ok L (a := (arrOf st).extract (sa + k) sb) (b := (arrOf st).extract sb (sb + n2)) hk m (by omega) (by omega) q0 q1 fun mr g hM => ?_)
        refine wpS_bind (wpS_modify (wpS_bind (wpS_get ?_)))
        refine wpS_pure ?_
        show Q (failedOf st).isNone (SortSt.mk' (kindOf st) (layB (sa + k) mr.toList.zipIdx (arrOf st)) _ g (failedOf st))
        rw [hf, hk]
        exact h _ g (mfin mr hM).1 (mfin mr hM).2.1 (mfin mr hM).2.2
end
end L2
set_option Elab.async false
set_option linter.all false
set_option maxRecDepth 100000
set_option maxHeartbeats 4000000
namespace L2
open PySem PySem.W PyProof.Rows
section
variable {M : Model} {A : Around} {E : Value → Shared → Prop} {s : Shared} {κ : SortKind} {G : Keyed → Prop} {R : Keyed → Keyed → Bool}
theorem wpS_ltAtG (L : LtE M A E s κ G R) {st : SortSt} {i j : Nat} {Q : Option Bool → SortSt → Prop} (hk : kindOf st = κ) (gl : ∀ x ∈ (arrOf st).toList, G x) (hi : i < (arrOf st).size) (hj : j < (arrOf st).size) (h : Q (some (R ((arrOf st).getD i d0) ((arrOf st).getD j d0))) st) : wpS M A E s (ltAt' i j) Q st := by
  rw [ltAt'_eq]
  refine wpS_bind (wpS_get (wpS_bind (wpS_elem (at_get hi) (wpS_bind (wpS_elem (at_get hj) ?_)))))
  exact L.lt _ _ (gl _ (at_mem hi)) (gl _ (at_mem hj)) _ _ hk h
theorem mir_at {xs : Array Keyed} {i j : Nat} (hj : j ≤ xs.size) (k : Nat) : (mirror xs i j ((j - i) / 2)).getD k d0 = if i ≤ k ∧ k < j then xs.getD (i + j - 1 - k) d0 else xs.getD k d0 := by
  rw [Array.getD_eq_getD_getElem?, getElem?_mirror_all hj]
  by_cases c : i ≤ k ∧ k < j
  · rw [if_pos c, if_pos c, Array.getD_eq_getD_getElem?]
  · rw [if_neg c, if_neg c, Array.getD_eq_getD_getElem?]
theorem bub_at {xs : Array Keyed} {src n : Nat} (h : src < xs.size) (hn : n ≤ src) (k : Nat) : (bubble xs src n).getD k d0 = if k = src - n then xs.getD src d0 else if src - n < k ∧ k ≤ src then xs.getD (k - 1) d0 else xs.getD k d0 := by
  rw [Array.getD_eq_getD_getElem?, getElem?_bubble h n hn]
  by_cases c : k = src - n
  · rw [if_pos c, if_pos c, Array.getD_eq_getD_getElem?]
  · rw [if_neg c, if_neg c]
    by_cases d : src - n < k ∧ k ≤ src
    · rw [if_pos d, if_pos d, Array.getD_eq_getD_getElem?]
    · rw [if_neg d, if_neg d, Array.getD_eq_getD_getElem?]
structure Agr (xs ys : Array Keyed) (l u : Nat) : Prop where
  perm : ys.toList.Perm xs.toList
  out : ∀ j, j < l ∨ u ≤ j → ys.getD j d0 = xs.getD j d0
theorem Agr.refl (xs : Array Keyed) (l u : Nat) : Agr xs xs l u := ⟨.refl _, fun _ _ => rfl⟩
theorem Agr.trans {xs ys zs : Array Keyed} {l u : Nat} (a : Agr xs ys l u) (b : Agr ys zs l u) : Agr xs zs l u := ⟨b.perm.trans a.perm, fun j hj => (b.out j hj).trans (a.out j hj)⟩
theorem Agr.wide {xs ys : Array Keyed} {l u l' u' : Nat} (a : Agr xs ys l u) (hl : l' ≤ l) (hu : u ≤ u') : Agr xs ys l' u' := ⟨a.perm, fun j hj => a.out j (by omega)⟩
theorem Agr.size {xs ys : Array Keyed} {l u : Nat} (a : Agr xs ys l u) : ys.size = xs.size := by have := a.perm.length_eq; simpa using this
theorem Agr.gl {xs ys : Array Keyed} {l u : Nat} (a : Agr xs ys l u) (g : ∀ x ∈ xs.toList, G x) : ∀ x ∈ ys.toList, G x := fun x hx => g x (a.perm.mem_iff.mp hx)
theorem agr_mir {xs : Array Keyed} {i j : Nat} (hj : j ≤ xs.size) : Agr xs (mirror xs i j ((j - i) / 2)) i j := ⟨Array.perm_iff_toList_perm.mp (mirror_perm _ _ _ _), fun k hk => by rw [mir_at hj, if_neg (by omega)]⟩
theorem agr_bub {xs : Array Keyed} {src n : Nat} (h : src < xs.size) (hn : n ≤ src) : Agr xs (bubble xs src n) (src - n) (src + 1) := ⟨Array.perm_iff_toList_perm.mp (bubble_perm _ _ _), fun k hk => by rw [bub_at h hn, if_neg (by omega), if_neg (by omega)]⟩
def DsO (R : Keyed → Keyed → Bool) (xs : Array Keyed) (l u : Nat) : Prop := ∀ i j, l ≤ i → i < j → j < u → R (xs.getD i d0) (xs.getD j d0) = false
def EqO (R : Keyed → Keyed → Bool) (xs : Array Keyed) (l u : Nat) : Prop := ∀ i j, l ≤ i → i < u → l ≤ j → j < u → R (xs.getD i d0) (xs.getD j d0) = false
theorem ltE_irr (L : LtE M A E s κ G R) {x : Keyed} (g : G x) : R x x = false := by
  cases z : R x x with
  | false => rfl
  | true => have := L.asym _ _ g g z; rw [z] at this; cases this
theorem SegO.more (L : LtE M A E s κ G R) {xs : Array Keyed} {l u : Nat} (g : ∀ x ∈ xs.toList, G x) (hu : u < xs.size) (hlu : l < u) (h : SegO R xs l u) (e : R (xs.getD u d0) (xs.getD (u - 1) d0) = false) : SegO R xs l (u + 1) := fun i j hi hij hj => by
  by_cases c : j = u
  · subst c
    by_cases d : i = j - 1
    · rw [d]; exact e
    · exact L.tr _ _ _ (g _ (at_mem (by omega))) (g _ (at_mem (by omega))) (g _ (at_mem (by omega))) e (h i (j - 1) hi (by omega) (by omega))
  · exact h i j hi hij (by omega)
theorem DsO.more (L : LtE M A E s κ G R) {xs : Array Keyed} {l u : Nat} (g : ∀ x ∈ xs.toList, G x) (hu : u < xs.size) (hlu : l < u) (h : DsO R xs l u) (e : R (xs.getD (u - 1) d0) (xs.getD u d0) = false) : DsO R xs l (u + 1) := fun i j hi hij hj => by
  by_cases c : j = u
  · subst c
    by_cases d : i = j - 1
    · rw [d]; exact e
    · exact L.tr _ _ _ (g _ (at_mem (by omega))) (g _ (at_mem (by omega))) (g _ (at_mem (by omega))) (h i (j - 1) hi (by omega) (by omega)) e
  · exact h i j hi hij (by omega)
theorem dso_rev {xs : Array Keyed} {l a k m : Nat} (hla : l ≤ a) (hkm : k ≤ m) (hk : k ≤ xs.size) (h : DsO R xs l m) (e : EqO R xs a k) : DsO R (mirror xs a k ((k - a) / 2)) l m := fun i j hi hij hj => by
  rw [mir_at hk, mir_at hk]
  by_cases ci : a ≤ i ∧ i < k
  · rw [if_pos ci]
    by_cases cj : a ≤ j ∧ j < k
    · rw [if_pos cj]; exact e _ _ (by omega) (by omega) (by omega) (by omega)
    · rw [if_neg cj]; exact h _ _ (by omega) (by omega) hj
  · rw [if_neg ci]
    by_cases cj : a ≤ j ∧ j < k
    · rw [if_pos cj]; exact h _ _ hi (by omega) (by omega)
    · rw [if_neg cj]; exact h _ _ hi hij hj
theorem seg_rev {xs : Array Keyed} {l u : Nat} (hu : u ≤ xs.size) (h : DsO R xs l u) : SegO R (mirror xs l u ((u - l) / 2)) l u := fun i j hi hij hj => by
  rw [mir_at hu, mir_at hu, if_pos (by omega), if_pos (by omega)]
  exact h _ _ (by omega) (by omega) (by omega)
theorem wpS_revS {st : SortSt} {arr : Array Keyed} {i j : Nat} {Q : Unit → SortSt → Prop} (h : Q () (setArr st (mirror arr i j ((j - i) / 2)))) : wpS M A E s (reverseSlice' i j) Q (setArr st arr) := by
  rw [reverseSlice'_eq]
  exact wpS_modify h
theorem wpS_moveS {st : SortSt} {arr : Array Keyed} {i j : Nat} {Q : Unit → SortSt → Prop} (h : Q () (setArr st (bubble arr i (i - j)))) : wpS M A E s (moveDown' i j) Q (setArr st arr) := by
  rw [moveDown'_eq]
  exact wpS_modify h
theorem binary_ok (L : LtE M A E s κ G R) {st : SortSt} {lo n ok : Nat} {Q : Bool → SortSt → Prop} (hk : kindOf st = κ) (gl : ∀ x ∈ (arrOf st).toList, G x) (hn : lo + n ≤ (arrOf st).size) (h1 : 1 ≤ ok) (hok : ok ≤ n) (hs : SegO R (arrOf st) lo (lo + ok))
    (h : ∀ arr, Agr (arrOf st) arr lo (lo + n) → SegO R arr lo (lo + n) → Q true (setArr st arr)) : wpS M A E s (binarySort' lo n ok) Q st := by
  rw [binarySort'_eq]
  refine wpS_bind (wpS_mono (wpS_forRange (I := fun k (c : Option Bool × Unit) st' => ∃ arr, st' = setArr st arr ∧ c.1 = none ∧ Agr (arrOf st) arr lo (lo + n) ∧ SegO R arr lo (lo + k)) (Q := fun c st' => ∃ arr, st' = setArr st arr ∧ c.1 = none ∧ Agr (arrOf st) arr lo (lo + n) ∧ SegO R arr lo (lo + n)) ?_ ?_ ⟨arrOf st, rfl, rfl, Agr.refl _ _ _, by rw [Nat.max_eq_left h1]; exact hs⟩) ?_)
  · rintro k ⟨r, u⟩ st' hk1 hk2 ⟨arr, rfl, rfl, ag, sg⟩
    have sz := ag.size
    have ga := ag.gl gl
    dsimp only at sg ⊢
    refine wpS_bind (wpS_mono (wpS_forRange (I := fun i (c : Option Bool × Nat × Nat) st2 => st2 = setArr st arr ∧ c.1 = none ∧ c.2.1 ≤ c.2.2 ∧ c.2.2 ≤ k ∧ c.2.2 - c.2.1 ≤ k - i ∧ (∀ j, j < c.2.1 → R (arr.getD (lo + k) d0) (arr.getD (lo + j) d0) = false) ∧ (∀ j, c.2.2 ≤ j → j < k → R (arr.getD (lo + j) d0) (arr.getD (lo + k) d0) = false))
      (Q := fun c st2 => st2 = setArr st arr ∧ c.1 = none ∧ c.2.1 ≤ k ∧ (∀ j, j < c.2.1 → R (arr.getD (lo + k) d0) (arr.getD (lo + j) d0) = false) ∧ (∀ j, c.2.1 ≤ j → j < k → R (arr.getD (lo + j) d0) (arr.getD (lo + k) d0) = false)) ?_ ?_ ⟨rfl, rfl, Nat.zero_le _, Nat.le_refl _, Nat.le_refl _, (fun j hj => by dsimp only at hj; omega), (fun j h1 h2 => by dsimp only at h1; omega)⟩) ?_)
    · rintro i ⟨r, l, u⟩ st2 _ hi ⟨rfl, rfl, q1, q2, q3, q4, q5⟩
      dsimp only at q1 q2 q3 q4 q5 ⊢
      by_cases c : l ≥ u
      · rw [if_pos c]
        exact wpS_pure ⟨rfl, rfl, (by dsimp only; omega), q4, fun j j1 j2 => q5 j (by dsimp only at j1; omega) j2⟩
      · rw [if_neg c]
        refine wpS_bind (wpS_ltAtG L (st := setArr st arr) hk ga (show lo + k < arr.size by omega) (show lo + (l + u) / 2 < arr.size by omega) ?_)
        dsimp only
        cases z : R (arr.getD (lo + k) d0) (arr.getD (lo + (l + u) / 2) d0) with
        | true =>
          have z' := L.asym _ _ (ga _ (at_mem (by omega))) (ga _ (at_mem (by omega))) z
          exact wpS_pure ⟨rfl, rfl, (by dsimp only; omega), (by dsimp only; omega), (by dsimp only; omega), q4, fun j j1 j2 => by
            dsimp only at j1
            exact L.tr _ _ _ (ga _ (at_mem (by omega))) (ga _ (at_mem (by omega))) (ga _ (at_mem (by omega))) (sg.le L ga (by omega) (by omega) (by omega) (by omega)) z'⟩
        | false =>
          exact wpS_pure ⟨rfl, rfl, (by dsimp only; omega), (by dsimp only; omega), (by dsimp only; omega), (fun j j1 => by
            dsimp only at j1
            exact L.tr _ _ _ (ga _ (at_mem (by omega))) (ga _ (at_mem (by omega))) (ga _ (at_mem (by omega))) z (sg.le L ga (by omega) (by omega) (by omega) (by omega))), q5⟩
    · rintro ⟨r, l, u⟩ st2 ⟨rfl, rfl, q1, q2, q3, q4, q5⟩
      dsimp only at q1 q2 q3 q4 q5 ⊢
      exact ⟨rfl, rfl, (by omega), q4, fun j j1 j2 => q5 j (by omega) j2⟩
    rintro ⟨r, l, u⟩ st2 ⟨rfl, rfl, q2, q4, q5⟩
    dsimp only at q2 q4 q5 ⊢
    refine wpS_bind (wpS_moveS (wpS_pure ⟨_, rfl, rfl, ag.trans ((agr_bub (src := lo + k) (n := lo + k - (lo + l)) (by omega) (by omega)).wide (by omega) (by omega)), ?_⟩))
    intro i j hi hij hj
    rw [bub_at (by omega) (by omega), bub_at (by omega) (by omega)]
    have es : lo + k - (lo + k - (lo + l)) = lo + l := by omega
    rw [es]
    by_cases i1 : i = lo + l
    · rw [if_pos i1, if_neg (by omega), if_pos ⟨by omega, by omega⟩]
      have := q5 (j - 1 - lo) (by omega) (by omega)
      rw [show lo + (j - 1 - lo) = j - 1 by omega] at this
      exact this
    · rw [if_neg i1]
      by_cases j1 : j = lo + l
      · rw [if_pos j1, if_neg (by omega)]
        have := q4 (i - lo) (by omega)
        rw [show lo + (i - lo) = i by omega] at this
        exact this
      · rw [if_neg j1]
        by_cases i2 : lo + l < i ∧ i ≤ lo + k
        · rw [if_pos i2, if_pos ⟨by omega, by omega⟩]
          exact sg (i - 1) (j - 1) (by omega) (by omega) (by omega)
        · rw [if_neg i2]
          by_cases j2 : lo + l < j ∧ j ≤ lo + k
          · rw [if_pos j2]
            exact sg i (j - 1) hi (by omega) (by omega)
          · rw [if_neg j2]
            exact sg i j hi hij (by omega)
  · rintro ⟨r, u⟩ st' ⟨arr, rfl, rfl, ag, sg⟩
    exact ⟨arr, rfl, rfl, ag, by rw [show max (max ok 1) n = n by omega] at sg; exact sg⟩
  rintro ⟨r, u⟩ st' ⟨arr, rfl, rfl, ag, sg⟩
  exact wpS_pure (h arr ag sg)
theorem count_ok (L : LtE M A E s κ G R) {st : SortSt} {lo nrem : Nat} {Q : Option Nat → SortSt → Prop} (hk : kindOf st = κ) (gl : ∀ x ∈ (arrOf st).toList, G x) (hn : lo + nrem ≤ (arrOf st).size) (h1 : 1 ≤ nrem)
    (h : ∀ n arr, 1 ≤ n → n ≤ nrem → Agr (arrOf st) arr lo (lo + nrem) → SegO R arr lo (lo + n) → Q (some n) (setArr st arr)) : wpS M A E s (countRun' lo nrem) Q st := by
  rw [countRun'_eq]
  have sg0 : SegO R (arrOf st) lo (lo + 1) := fun i j hi hij hj => by omega
  refine wpS_bind (wpS_mono (wpS_forRange (I := fun i (c : Option (Option Nat) × Nat) st2 => st2 = setArr st (arrOf st) ∧ c.1 = none ∧ c.2 = i ∧ 1 ≤ c.2 ∧ c.2 ≤ nrem ∧ SegO R (arrOf st) lo (lo + c.2)) (Q := fun c st2 => st2 = setArr st (arrOf st) ∧ c.1 = none ∧ 1 ≤ c.2 ∧ c.2 ≤ nrem ∧ SegO R (arrOf st) lo (lo + c.2) ∧ (c.2 < nrem → R ((arrOf st).getD (lo + c.2) d0) ((arrOf st).getD (lo + c.2 - 1) d0) = true)) ?_ ?_ ⟨rfl, rfl, rfl, Nat.le_refl _, h1, sg0⟩) ?_)
  · rintro i ⟨r, n⟩ st2 _ hi ⟨rfl, rfl, rfl, q1, q2, q3⟩
    dsimp only at q1 q2 q3 hi ⊢
    refine wpS_bind (wpS_ltAtG L (st := setArr st (arrOf st)) hk gl (show lo + n < (arrOf st).size by omega) (show lo + n - 1 < (arrOf st).size by omega) ?_)
    dsimp only
    cases z : R ((arrOf st).getD (lo + n) d0) ((arrOf st).getD (lo + n - 1) d0) with
    | true => exact wpS_pure ⟨rfl, rfl, q1, q2, q3, fun _ => z⟩
    | false => exact wpS_pure ⟨rfl, rfl, rfl, (by dsimp only; omega), (by dsimp only; omega), q3.more (u := lo + n) L gl (by omega) (by omega) z⟩
  · rintro ⟨r, n⟩ st2 ⟨rfl, rfl, q0, q1, q2, q3⟩
    dsimp only at q0 q1 q2 q3 ⊢
    exact ⟨rfl, rfl, q1, q2, q3, fun z => by omega⟩
  rintro ⟨r, m⟩ st2 ⟨rfl, rfl, q1, q2, q3, q4⟩
  dsimp only at q1 q2 q3 q4 ⊢
  by_cases e0 : (m == nrem) = true
  · rw [if_pos e0]
    exact wpS_pure (h m (arrOf st) q1 q2 (Agr.refl _ _ _) q3)
  · rw [if_neg e0]
    have e0' : ¬ m = nrem := by simpa using e0
    have lm := q4 (by omega)
    have gm := L.asym _ _ (gl _ (at_mem (by omega))) (gl _ (at_mem (by omega))) lm
    by_cases e1 : m > 1
    · rw [if_pos e1]
      refine wpS_bind (wpS_ltAtG L (st := setArr st (arrOf st)) hk gl (show lo < (arrOf st).size by omega) (show lo + m - 1 < (arrOf st).size by omega) ?_)
      dsimp only
      cases z : R ((arrOf st).getD lo d0) ((arrOf st).getD (lo + m - 1) d0) with
      | true => exact wpS_pure (h m (arrOf st) q1 q2 (Agr.refl _ _ _) q3)
      | false =>
        rw [if_neg (by simp)]
        have le0 : ∀ j, lo ≤ j → j < lo + m → R ((arrOf st).getD lo d0) ((arrOf st).getD j d0) = false := fun j j1 j2 => L.tr _ _ _ (gl _ (at_mem (by omega))) (gl _ (at_mem (by omega))) (gl _ (at_mem (by omega))) z (q3.le L gl (by omega) j1 (by omega) (by omega))
        have eq : EqO R (arrOf st) lo (lo + m) := fun i j i1 i2 j1 j2 => L.tr _ _ _ (gl _ (at_mem (by omega))) (gl _ (at_mem (by omega))) (gl _ (at_mem (by omega))) (q3.le L gl (by omega) (Nat.le_refl _) i1 i2) (le0 j j1 j2)
        have ds : DsO R (arrOf st) lo (lo + m + 1) := fun i j i1 ij j2 => by
          by_cases c : j = lo + m
          · rw [c]
            exact L.tr _ _ _ (gl _ (at_mem (by omega))) (gl _ (at_mem (by omega))) (gl _ (at_mem (by omega))) (eq i (lo + m - 1) i1 (by omega) (by omega) (by omega)) gm
          · exact eq i j i1 (by omega) (by omega) (by omega)
        refine wpS_bind (wpS_revS ?_)
        have ag0 : Agr (arrOf st) (mirror (arrOf st) lo (lo + m) ((lo + m - lo) / 2)) lo (lo + nrem) := (agr_mir (by omega)).wide (by omega) (by omega)
        have ds0 := dso_rev (l := lo) (Nat.le_refl _) (show lo + m ≤ lo + (m + 1) by omega) (by omega) ds eq
        generalize mirror (arrOf st) lo (lo + m) ((lo + m - lo) / 2) = arr0 at ag0 ds0 ⊢
        refine wpS_bind (wpS_rule ?_)
        refine wpS_bind (wpS_mono (wpS_forRange (I := fun i (c : Option (Option Nat) × Nat × Nat) st2 => ∃ arr, st2 = setArr st arr ∧ c.1 = none ∧ c.2.1 = i ∧ c.2.1 ≤ nrem ∧ Agr (arrOf st) arr lo (lo + nrem) ∧ DsO R arr lo (lo + c.2.1) ∧ c.2.2 + 1 ≤ c.2.1 ∧ EqO R arr (lo + c.2.1 - (c.2.2 + 1)) (lo + c.2.1)) (Q := fun c st2 => ∃ arr, st2 = setArr st arr ∧ c.1 = none ∧ c.2.1 ≤ nrem ∧ Agr (arrOf st) arr lo (lo + nrem) ∧ DsO R arr lo (lo + c.2.1) ∧ c.2.2 + 1 ≤ c.2.1 ∧ EqO R arr (lo + c.2.1 - (c.2.2 + 1)) (lo + c.2.1)) ?_ ?_ ⟨arr0, rfl, rfl, rfl, (by dsimp only; omega), ag0, ds0, (by dsimp only; omega), fun i j i1 i2 j1 j2 => by
            dsimp only at i1 i2 j1 j2
            have e1 : i = lo + m := by omega
            have e2 : j = lo + m := by omega
            rw [e1, e2]
            exact ltE_irr L (ag0.gl gl _ (at_mem (by have := ag0.size; omega)))⟩) ?_)
        · rintro i ⟨r, n, q⟩ st2 _ hi ⟨arr, rfl, rfl, rfl, q2, ag, ds, hq, eb⟩
          dsimp only at q2 ds hq eb hi ⊢
          have ga := ag.gl gl
          have sz := ag.size
          refine wpS_bind (wpS_ltAtG L (st := setArr st arr) hk ga (show lo + n < arr.size by omega) (show lo + n - 1 < arr.size by omega) ?_)
          dsimp only
          have one : ∀ {xs : Array Keyed}, Agr (arrOf st) xs lo (lo + nrem) → EqO R xs (lo + (n + 1) - (0 + 1)) (lo + (n + 1)) := fun {xs} agx i j i1 i2 j1 j2 => by
            have e1 : i = lo + n := by omega
            have e2 : j = lo + n := by omega
            rw [e1, e2]
            exact ltE_irr L (agx.gl gl _ (at_mem (by have := agx.size; omega)))
          cases z : R (arr.getD (lo + n) d0) (arr.getD (lo + n - 1) d0) with
          | true =>
            have d2 := ds.more L ga (by omega) (by omega) (L.asym _ _ (ga _ (at_mem (by omega))) (ga _ (at_mem (by omega))) z)
            rw [if_pos rfl]
            by_cases c : q > 0
            · rw [if_pos c]
              have ag3 := ag.trans ((agr_mir (xs := arr) (i := lo + n - (q + 1)) (j := lo + n) (by omega)).wide (by omega) (by omega))
              exact wpS_bind (wpS_revS (wpS_pure ⟨_, rfl, rfl, rfl, (by dsimp only; omega), ag3, dso_rev (m := lo + n + 1) (by omega) (by omega) (by omega) d2 eb, (by dsimp only; omega), one ag3⟩))
            · rw [if_neg c]
              exact wpS_pure ⟨_, rfl, rfl, rfl, (by dsimp only; omega), ag, d2, (by dsimp only; omega), one ag⟩
          | false =>
            rw [if_neg (by simp)]
            refine wpS_bind (wpS_ltAtG L (st := setArr st arr) hk ga (show lo + n - 1 < arr.size by omega) (show lo + n < arr.size by omega) ?_)
            dsimp only
            cases z2 : R (arr.getD (lo + n - 1) d0) (arr.getD (lo + n) d0) with
            | true => exact wpS_pure ⟨_, rfl, rfl, q2, ag, ds, hq, eb⟩
            | false =>
              have d2 := ds.more L ga (by omega) (by omega) z2
              refine wpS_pure ⟨_, rfl, rfl, rfl, (by dsimp only; omega), ag, d2, (by dsimp only; omega), fun i j i1 i2 j1 j2 => ?_⟩
              dsimp only at i1 i2 j1 j2
              have b1 : ∀ i, lo + n - (q + 1) ≤ i → i < lo + n → R (arr.getD i d0) (arr.getD (lo + n) d0) = false := fun i i1 i2 => L.tr _ _ _ (ga _ (at_mem (by omega))) (ga _ (at_mem (by omega))) (ga _ (at_mem (by omega))) (eb i (lo + n - 1) i1 i2 (by omega) (by omega)) z2
              have b2 : ∀ i, lo + n - (q + 1) ≤ i → i < lo + n → R (arr.getD (lo + n) d0) (arr.getD i d0) = false := fun i i1 i2 => L.tr _ _ _ (ga _ (at_mem (by omega))) (ga _ (at_mem (by omega))) (ga _ (at_mem (by omega))) z (eb (lo + n - 1) i (by omega) (by omega) i1 i2)
              by_cases ci : i = lo + n
              · by_cases cj : j = lo + n
                · rw [ci, cj]; exact ltE_irr L (ga _ (at_mem (by omega)))
                · rw [ci]; exact b2 j (by omega) (by omega)
              · by_cases cj : j = lo + n
                · rw [cj]; exact b1 i (by omega) (by omega)
                · exact eb i j (by omega) (by omega) (by omega) (by omega)
        · rintro ⟨r, n, q⟩ st2 ⟨arr, rfl, rfl, q0, q2, ag, ds, hq, eb⟩
          exact ⟨arr, rfl, rfl, q2, ag, ds, hq, eb⟩
        rintro ⟨r, n2, q⟩ st2 ⟨arr, rfl, rfl, q2, ag, ds, hq, eb⟩
        dsimp only at q2 ds hq eb ⊢
        have sz := ag.size
        by_cases c : q > 0
        · rw [if_pos c]
          have ag3 := ag.trans ((agr_mir (xs := arr) (i := lo + n2 - (q + 1)) (j := lo + n2) (by omega)).wide (by omega) (by omega))
          have sz3 := ag3.size
          have d3 := dso_rev (l := lo) (by omega) (Nat.le_refl (lo + n2)) (by omega) ds eb
          refine wpS_bind (wpS_revS (wpS_bind (wpS_revS ?_)))
          have ag2 := ag3.trans ((agr_mir (i := lo) (j := lo + n2) (by omega)).wide (by omega) (by omega))
          have sg2 := seg_rev (by omega) d3
          generalize mirror (mirror arr (lo + n2 - (q + 1)) (lo + n2) ((lo + n2 - (lo + n2 - (q + 1))) / 2)) lo (lo + n2) ((lo + n2 - lo) / 2) = arr2 at ag2 sg2 ⊢
          have ga2 := ag2.gl gl
          have sz2 := ag2.size
          refine wpS_bind (wpS_mono (wpS_forRange (I := fun i (c : Option (Option Nat) × Nat) st2 => st2 = setArr st arr2 ∧ c.1 = none ∧ c.2 = i ∧ 1 ≤ c.2 ∧ c.2 ≤ nrem ∧ SegO R arr2 lo (lo + c.2)) (Q := fun c st2 => st2 = setArr st arr2 ∧ c.1 = none ∧ 1 ≤ c.2 ∧ c.2 ≤ nrem ∧ SegO R arr2 lo (lo + c.2) ∧ (c.2 < nrem → R (arr2.getD (lo + c.2) d0) (arr2.getD (lo + c.2 - 1) d0) = true)) ?_ ?_ ⟨rfl, rfl, rfl, (by dsimp only; omega), (by dsimp only; omega), sg2⟩) ?_)
          · rintro i ⟨r, n⟩ st2 _ hi ⟨rfl, rfl, rfl, q1, q2, q3⟩
            dsimp only at q1 q2 q3 hi ⊢
            refine wpS_bind (wpS_ltAtG L (st := setArr st arr2) hk ga2 (show lo + n < arr2.size by omega) (show lo + n - 1 < arr2.size by omega) ?_)
            dsimp only
            cases z : R (arr2.getD (lo + n) d0) (arr2.getD (lo + n - 1) d0) with
            | true => exact wpS_pure ⟨rfl, rfl, q1, q2, q3, fun _ => z⟩
            | false => exact wpS_pure ⟨rfl, rfl, rfl, (by dsimp only; omega), (by dsimp only; omega), q3.more (u := lo + n) L ga2 (by omega) (by omega) z⟩
          · rintro ⟨r, n⟩ st2 ⟨rfl, rfl, q0, q1, q2, q3⟩
            dsimp only at q0 q1 q2 q3 ⊢
            exact ⟨rfl, rfl, q1, q2, q3, fun z => by omega⟩
          rintro ⟨r, n⟩ st2 ⟨rfl, rfl, q1, q2, q3, q4⟩
          dsimp only at q1 q2 q3 q4 ⊢
          exact wpS_pure (h n arr2 q1 q2 ag2 q3)
        · rw [if_neg c]
          refine wpS_bind (wpS_revS ?_)
          have ag2 := ag.trans ((agr_mir (xs := arr) (i := lo) (j := lo + n2) (by omega)).wide (by omega) (by omega))
          have sg2 := seg_rev (by omega) ds
          generalize mirror arr lo (lo + n2) ((lo + n2 - lo) / 2) = arr2 at ag2 sg2 ⊢
          have ga2 := ag2.gl gl
          have sz2 := ag2.size
          refine wpS_bind (wpS_mono (wpS_forRange (I := fun i (c : Option (Option Nat) × Nat) st2 => st2 = setArr st arr2 ∧ c.1 = none ∧ c.2 = i ∧ 1 ≤ c.2 ∧ c.2 ≤ nrem ∧ SegO R arr2 lo (lo + c.2)) (Q := fun c st2 => st2 = setArr st arr2 ∧ c.1 = none ∧ 1 ≤ c.2 ∧ c.2 ≤ nrem ∧ SegO R arr2 lo (lo + c.2) ∧ (c.2 < nrem → R (arr2.getD (lo + c.2) d0) (arr2.getD (lo + c.2 - 1) d0) = true)) ?_ ?_ ⟨rfl, rfl, rfl, (by dsimp only; omega), (by dsimp only; omega), sg2⟩) ?_)
          · rintro i ⟨r, n⟩ st2 _ hi ⟨rfl, rfl, rfl, q1, q2, q3⟩
            dsimp only at q1 q2 q3 hi ⊢
            refine wpS_bind (wpS_ltAtG L (st := setArr st arr2) hk ga2 (show lo + n < arr2.size by omega) (show lo + n - 1 < arr2.size by omega) ?_)
            dsimp only
            cases z : R (arr2.getD (lo + n) d0) (arr2.getD (lo + n - 1) d0) with
            | true => exact wpS_pure ⟨rfl, rfl, q1, q2, q3, fun _ => z⟩
            | false => exact wpS_pure ⟨rfl, rfl, rfl, (by dsimp only; omega), (by dsimp only; omega), q3.more (u := lo + n) L ga2 (by omega) (by omega) z⟩
          · rintro ⟨r, n⟩ st2 ⟨rfl, rfl, q0, q1, q2, q3⟩
            dsimp only at q0 q1 q2 q3 ⊢
            exact ⟨rfl, rfl, q1, q2, q3, fun z => by omega⟩
          rintro ⟨r, n⟩ st2 ⟨rfl, rfl, q1, q2, q3, q4⟩
          dsimp only at q1 q2 q3 q4 ⊢
          exact wpS_pure (h n arr2 q1 q2 ag2 q3)
    · rw [if_neg e1]
      have em : m = 1 := by omega
      have ag0 := Agr.refl (arrOf st) lo (lo + nrem)
      have ds0 : DsO R (arrOf st) lo (lo + (m + 1)) := fun i j i1 ij j2 => by
        have c1 : i = lo + m - 1 := by omega
        have c2 : j = lo + m := by omega
        rw [c1, c2]
        exact gm
      have hx : ∃ arr0, arr0 = arrOf st := ⟨_, rfl⟩
      obtain ⟨arr0, harr⟩ := hx
      rw [← harr] at ag0 ds0 ⊢
      rw [harr] at ag0
      conv at ag0 => arg 2; rw [← harr]
      refine wpS_bind (wpS_rule ?_)
      refine wpS_bind (wpS_mono (wpS_forRange (I := fun i (c : Option (Option Nat) × Nat × Nat) st2 => ∃ arr, st2 = setArr st arr ∧ c.1 = none ∧ c.2.1 = i ∧ c.2.1 ≤ nrem ∧ Agr (arrOf st) arr lo (lo + nrem) ∧ DsO R arr lo (lo + c.2.1) ∧ c.2.2 + 1 ≤ c.2.1 ∧ EqO R arr (lo + c.2.1 - (c.2.2 + 1)) (lo + c.2.1)) (Q := fun c st2 => ∃ arr, st2 = setArr st arr ∧ c.1 = none ∧ c.2.1 ≤ nrem ∧ Agr (arrOf st) arr lo (lo + nrem) ∧ DsO R arr lo (lo + c.2.1) ∧ c.2.2 + 1 ≤ c.2.1 ∧ EqO R arr (lo + c.2.1 - (c.2.2 + 1)) (lo + c.2.1)) ?_ ?_ ⟨arr0, rfl, rfl, rfl, (by dsimp only; omega), ag0, ds0, (by dsimp only; omega), fun i j i1 i2 j1 j2 => by
          dsimp only at i1 i2 j1 j2
          have e1 : i = lo + m := by omega
          have e2 : j = lo + m := by omega
          rw [e1, e2]
          exact ltE_irr L (ag0.gl gl _ (at_mem (by have := ag0.size; omega)))⟩) ?_)
      · rintro i ⟨r, n, q⟩ st2 _ hi ⟨arr, rfl, rfl, rfl, q2, ag, ds, hq, eb⟩
        dsimp only at q2 ds hq eb hi ⊢
        have ga := ag.gl gl
        have sz := ag.size
        refine wpS_bind (wpS_ltAtG L (st := setArr st arr) hk ga (show lo + n < arr.size by omega) (show lo + n - 1 < arr.size by omega) ?_)
        dsimp only
        have one : ∀ {xs : Array Keyed}, Agr (arrOf st) xs lo (lo + nrem) → EqO R xs (lo + (n + 1) - (0 + 1)) (lo + (n + 1)) := fun {xs} agx i j i1 i2 j1 j2 => by
          have e1 : i = lo + n := by omega
          have e2 : j = lo + n := by omega
          rw [e1, e2]
          exact ltE_irr L (agx.gl gl _ (at_mem (by have := agx.size; omega)))
        cases z : R (arr.getD (lo + n) d0) (arr.getD (lo + n - 1) d0) with
        | true =>
          have d2 := ds.more L ga (by omega) (by omega) (L.asym _ _ (ga _ (at_mem (by omega))) (ga _ (at_mem (by omega))) z)
          rw [if_pos rfl]
          by_cases c : q > 0
          · rw [if_pos c]
            have ag3 := ag.trans ((agr_mir (xs := arr) (i := lo + n - (q + 1)) (j := lo + n) (by omega)).wide (by omega) (by omega))
            exact wpS_bind (wpS_revS (wpS_pure ⟨_, rfl, rfl, rfl, (by dsimp only; omega), ag3, dso_rev (m := lo + n + 1) (by omega) (by omega) (by omega) d2 eb, (by dsimp only; omega), one ag3⟩))
          · rw [if_neg c]
            exact wpS_pure ⟨_, rfl, rfl, rfl, (by dsimp only; omega), ag, d2, (by dsimp only; omega), one ag⟩
        | false =>
          rw [if_neg (by simp)]
          refine wpS_bind (wpS_ltAtG L (st := setArr st arr) hk ga (show lo + n - 1 < arr.size by omega) (show lo + n < arr.size by omega) ?_)
          dsimp only
          cases z2 : R (arr.getD (lo + n - 1) d0) (arr.getD (lo + n) d0) with
          | true => exact wpS_pure ⟨_, rfl, rfl, q2, ag, ds, hq, eb⟩
          | false =>
            have d2 := ds.more L ga (by omega) (by omega) z2
            refine wpS_pure ⟨_, rfl, rfl, rfl, (by dsimp only; omega), ag, d2, (by dsimp only; omega), fun i j i1 i2 j1 j2 => ?_⟩
            dsimp only at i1 i2 j1 j2
            have b1 : ∀ i, lo + n - (q + 1) ≤ i → i < lo + n → R (arr.getD i d0) (arr.getD (lo + n) d0) = false := fun i i1 i2 => L.tr _ _ _ (ga _ (at_mem (by omega))) (ga _ (at_mem (by omega))) (ga _ (at_mem (by omega))) (eb i (lo + n - 1) i1 i2 (by omega) (by omega)) z2
            have b2 : ∀ i, lo + n - (q + 1) ≤ i → i < lo + n → R (arr.getD (lo + n) d0) (arr.getD i d0) = false := fun i i1 i2 => L.tr _ _ _ (ga _ (at_mem (by omega))) (ga _ (at_mem (by omega))) (ga _ (at_mem (by omega))) z (eb (lo + n - 1) i (by omega) (by omega) i1 i2)
            by_cases ci : i = lo + n
            · by_cases cj : j = lo + n
              · rw [ci, cj]; exact ltE_irr L (ga _ (at_mem (by omega)))
              · rw [ci]; exact b2 j (by omega) (by omega)
            · by_cases cj : j = lo + n
              · rw [cj]; exact b1 i (by omega) (by omega)
              · exact eb i j (by omega) (by omega) (by omega) (by omega)
      · rintro ⟨r, n, q⟩ st2 ⟨arr, rfl, rfl, q0, q2, ag, ds, hq, eb⟩
        exact ⟨arr, rfl, rfl, q2, ag, ds, hq, eb⟩
      rintro ⟨r, n2, q⟩ st2 ⟨arr, rfl, rfl, q2, ag, ds, hq, eb⟩
      dsimp only at q2 ds hq eb ⊢
      have sz := ag.size
      by_cases c : q > 0
      · rw [if_pos c]
        have ag3 := ag.trans ((agr_mir (xs := arr) (i := lo + n2 - (q + 1)) (j := lo + n2) (by omega)).wide (by omega) (by omega))
        have sz3 := ag3.size
        have d3 := dso_rev (l := lo) (by omega) (Nat.le_refl (lo + n2)) (by omega) ds eb
        refine wpS_bind (wpS_revS (wpS_bind (wpS_revS ?_)))
        have ag2 := ag3.trans ((agr_mir (i := lo) (j := lo + n2) (by omega)).wide (by omega) (by omega))
        have sg2 := seg_rev (by omega) d3
        generalize mirror (mirror arr (lo + n2 - (q + 1)) (lo + n2) ((lo + n2 - (lo + n2 - (q + 1))) / 2)) lo (lo + n2) ((lo + n2 - lo) / 2) = arr2 at ag2 sg2 ⊢
        have ga2 := ag2.gl gl
        have sz2 := ag2.size
        refine wpS_bind (wpS_mono (wpS_forRange (I := fun i (c : Option (Option Nat) × Nat) st2 => st2 = setArr st arr2 ∧ c.1 = none ∧ c.2 = i ∧ 1 ≤ c.2 ∧ c.2 ≤ nrem ∧ SegO R arr2 lo (lo + c.2)) (Q := fun c st2 => st2 = setArr st arr2 ∧ c.1 = none ∧ 1 ≤ c.2 ∧ c.2 ≤ nrem ∧ SegO R arr2 lo (lo + c.2) ∧ (c.2 < nrem → R (arr2.getD (lo + c.2) d0) (arr2.getD (lo + c.2 - 1) d0) = true)) ?_ ?_ ⟨rfl, rfl, rfl, (by dsimp only; omega), (by dsimp only; omega), sg2⟩) ?_)
        · rintro i ⟨r, n⟩ st2 _ hi ⟨rfl, rfl, rfl, q1, q2, q3⟩
          dsimp only at q1 q2 q3 hi ⊢
          refine wpS_bind (wpS_ltAtG L (st := setArr st arr2) hk ga2 (show lo + n < arr2.size by omega) (show lo + n - 1 < arr2.size by omega) ?_)
          dsimp only
          cases z : R (arr2.getD (lo + n) d0) (arr2.getD (lo + n - 1) d0) with
          | true => exact wpS_pure ⟨rfl, rfl, q1, q2, q3, fun _ => z⟩
          | false => exact wpS_pure ⟨rfl, rfl, rfl, (by dsimp only; omega), (by dsimp only; omega), q3.more (u := lo + n) L ga2 (by omega) (by omega) z⟩
        · rintro ⟨r, n⟩ st2 ⟨rfl, rfl, q0, q1, q2, q3⟩
          dsimp only at q0 q1 q2 q3 ⊢
          exact ⟨rfl, rfl, q1, q2, q3, fun z => by omega⟩
        rintro ⟨r, n⟩ st2 ⟨rfl, rfl, q1, q2, q3, q4⟩
        dsimp only at q1 q2 q3 q4 ⊢
        exact wpS_pure (h n arr2 q1 q2 ag2 q3)
      · rw [if_neg c]
        refine wpS_bind (wpS_revS ?_)
        have ag2 := ag.trans ((agr_mir (xs := arr) (i := lo) (j := lo + n2) (by omega)).wide (by omega) (by omega))
        have sg2 := seg_rev (by omega) ds
        generalize mirror arr lo (lo + n2) ((lo + n2 - lo) / 2) = arr2 at ag2 sg2 ⊢
        have ga2 := ag2.gl gl
        have sz2 := ag2.size
        refine wpS_bind (wpS_mono (wpS_forRange (I := fun i (c : Option (Option Nat) × Nat) st2 => st2 = setArr st arr2 ∧ c.1 = none ∧ c.2 = i ∧ 1 ≤ c.2 ∧ c.2 ≤ nrem ∧ SegO R arr2 lo (lo + c.2)) (Q := fun c st2 => st2 = setArr st arr2 ∧ c.1 = none ∧ 1 ≤ c.2 ∧ c.2 ≤ nrem ∧ SegO R arr2 lo (lo + c.2) ∧ (c.2 < nrem → R (arr2.getD (lo + c.2) d0) (arr2.getD (lo + c.2 - 1) d0) = true)) ?_ ?_ ⟨rfl, rfl, rfl, (by dsimp only; omega), (by dsimp only; omega), sg2⟩) ?_)
        · rintro i ⟨r, n⟩ st2 _ hi ⟨rfl, rfl, rfl, q1, q2, q3⟩
          dsimp only at q1 q2 q3 hi ⊢
          refine wpS_bind (wpS_ltAtG L (st := setArr st arr2) hk ga2 (show lo + n < arr2.size by omega) (show lo + n - 1 < arr2.size by omega) ?_)
          dsimp only
          cases z : R (arr2.getD (lo + n) d0) (arr2.getD (lo + n - 1) d0) with
          | true => exact wpS_pure ⟨rfl, rfl, q1, q2, q3, fun _ => z⟩
          | false => exact wpS_pure ⟨rfl, rfl, rfl, (by dsimp only; omega), (by dsimp only; omega), q3.more (u := lo + n) L ga2 (by omega) (by omega) z⟩
        · rintro ⟨r, n⟩ st2 ⟨rfl, rfl, q0, q1, q2, q3⟩
          dsimp only at q0 q1 q2 q3 ⊢
          exact ⟨rfl, rfl, q1, q2, q3, fun z => by omega⟩
        rintro ⟨r, n⟩ st2 ⟨rfl, rfl, q1, q2, q3, q4⟩
        dsimp only at q1 q2 q3 q4 ⊢
        exact wpS_pure (h n arr2 q1 q2 ag2 q3)
end
end L2
set_option Elab.async false
set_option linter.all false
set_option maxRecDepth 100000
set_option maxHeartbeats 4000000
namespace L2
open PySem PySem.W PyProof.Rows
abbrev Run3 := Nat × Nat × Nat
def CovR : List Run3 → Nat → Nat → Prop
  | [], lo, hi => lo = hi
  | r :: rs, lo, hi => r.1 = lo ∧ 0 < r.2.1 ∧ CovR rs (lo + r.2.1) hi
theorem CovR.app : ∀ {a b : List Run3} {lo hi : Nat}, CovR (a ++ b) lo hi ↔ ∃ m, CovR a lo m ∧ CovR b m hi
  | [], b, lo, hi => by simp [CovR]
  | r :: a, b, lo, hi => by
    simp only [List.cons_append, CovR, CovR.app (a := a)]
    constructor
    · rintro ⟨h1, h2, m, h3, h4⟩; exact ⟨m, ⟨h1, h2, h3⟩, h4⟩
    · rintro ⟨m, ⟨h1, h2, h3⟩, h4⟩; exact ⟨h1, h2, m, h3, h4⟩
theorem CovR.le : ∀ {a : List Run3} {lo hi : Nat}, CovR a lo hi → lo + a.length ≤ hi
  | [], lo, hi, h => by simp [CovR] at h ⊢; omega
  | r :: a, lo, hi, h => by
    obtain ⟨h1, h2, h3⟩ := h
    have := h3.le
    simp
    omega
theorem CovR.mem : ∀ {a : List Run3} {lo hi : Nat}, CovR a lo hi → ∀ r ∈ a, lo ≤ r.1 ∧ r.1 + r.2.1 ≤ hi
  | r :: a, lo, hi, ⟨h1, h2, h3⟩, x, hx => by
    have := h3.le
    rcases List.mem_cons.mp hx with rfl | hx
    · omega
    · have := h3.mem x hx
      omega
section
variable {M : Model} {A : Around} {E : Value → Shared → Prop} {s : Shared} {κ : SortKind} {G : Keyed → Prop} {R : Keyed → Keyed → Bool} {a₀ : Array Keyed}
structure RunS (κ : SortKind) (R : Keyed → Keyed → Bool) (a₀ : Array Keyed) (st : SortSt) (lo : Nat) : Prop where
  kind : kindOf st = κ
  fail : failedOf st = none
  perm : (arrOf st).toList.Perm a₀.toList
  cov : CovR (pendingOf st).toList 0 lo
  seg : ∀ r ∈ (pendingOf st).toList, SegO R (arrOf st) r.1 (r.1 + r.2.1)
theorem RunS.size {st : SortSt} {lo : Nat} (p : RunS κ R a₀ st lo) : (arrOf st).size = a₀.size := by have := p.perm.length_eq; simpa using this
theorem SegO.same {xs ys : Array Keyed} {l u : Nat} (h : SegO R xs l u) (e : ∀ j, l ≤ j → j < u → ys.getD j d0 = xs.getD j d0) : SegO R ys l u := fun i j hi hij hj => by
  rw [e i hi (by omega), e j (by omega) hj]
  exact h i j hi hij hj
theorem RunS.above {st : SortSt} {lo u : Nat} (p : RunS κ R a₀ st lo) {arr : Array Keyed} (ag : Agr (arrOf st) arr lo u) : RunS κ R a₀ (setArr st arr) lo :=
  ⟨p.kind, p.fail, ag.perm.trans p.perm, p.cov, fun r hr => (p.seg r hr).same fun j h1 h2 => ag.out j (.inl (by have := p.cov.mem r hr; omega))⟩
theorem split2 {p : List Run3} {i : Nat} (h : i + 1 < p.length) : ∃ pre x y post, p = pre ++ x :: y :: post ∧ pre.length = i := by
  refine ⟨p.take i, p[i], p[i + 1], p.drop (i + 2), ?_, by simp; omega⟩
  rw [← List.drop_eq_getElem_cons (i := i + 1) (by omega), ← List.drop_eq_getElem_cons (i := i) (by omega), List.take_append_drop]
theorem merge_step (L : LtE M A E s κ G R) (ga : ∀ x ∈ a₀.toList, G x) {st : SortSt} {lo i : Nat} (p : RunS κ R a₀ st lo) (hlo : lo ≤ a₀.size) (hi : i + 1 < (pendingOf st).size) {Q : Bool → SortSt → Prop}
    (h : ∀ st' : SortSt, RunS κ R a₀ st' lo → (pendingOf st').size + 1 = (pendingOf st).size → (∀ j, lo ≤ j → (arrOf st').getD j d0 = (arrOf st).getD j d0) → Q true st') : wpS M A E s (mergeAt' i) Q st := by
  obtain ⟨pre, ⟨sa, na, pa⟩, ⟨sb, nb, pb⟩, post, ep, el⟩ := split2 (p := (pendingOf st).toList) (i := i) (by simpa using hi)
  have cv := p.cov
  rw [ep] at cv
  obtain ⟨m, c1, c2, c3, c4, c5, c6⟩ := CovR.app.mp cv
  dsimp only at c2 c3 c4 c5 c6
  have hle := c6.le
  have g1 : (pendingOf st)[i]? = some (sa, na, pa) := by rw [← Array.getElem?_toList, ep, List.getElem?_append_right (by omega), el]; simp
  have g2 : (pendingOf st)[i + 1]? = some (sb, nb, pb) := by rw [← Array.getElem?_toList, ep, List.getElem?_append_right (by omega), el]; simp
  have s1 := p.seg (sa, na, pa) (by rw [ep]; simp)
  have s2 := p.seg (sb, nb, pb) (by rw [ep]; simp)
  dsimp only at s1 s2
  have sz := p.size
  refine mergeAt_ok L p.kind p.fail (fun x hx => ga x (p.perm.mem_iff.mp hx)) g1 g2 (by omega) (by omega) c3 c5 (by rw [show sb = sa + na by omega]; exact s1) s2 fun arr g pm same sg => ?_
  have en : (((pendingOf st).setIfInBounds i (sa, na + nb, pa)).eraseIdxIfInBounds (i + 1)).toList = pre ++ (sa, na + nb, pa) :: post := by
    rw [Array.toList_eraseIdxIfInBounds, Array.toList_setIfInBounds, ep, List.set_append_right _ _ (by omega), el, Nat.sub_self]
    rw [List.eraseIdx_append_of_length_le (by omega), el, Nat.add_sub_cancel_left]
    simp
  refine h _ ⟨rfl, rfl, pm.trans p.perm, ?_, ?_⟩ ?_ fun j hj => same j (.inr (by omega))
  · show CovR (((pendingOf st).setIfInBounds i (sa, na + nb, pa)).eraseIdxIfInBounds (i + 1)).toList 0 lo
    rw [en]
    refine CovR.app.mpr ⟨m, c1, c2, by show 0 < na + nb; omega, ?_⟩
    show CovR post (m + (na + nb)) lo
    rw [← Nat.add_assoc]
    exact c6
  · intro r hr
    have hr' : r ∈ pre ++ (sa, na + nb, pa) :: post := by rw [← en]; exact hr
    rcases List.mem_append.mp hr' with hr' | hr'
    · have z := c1.mem r hr'
      exact (p.seg r (by rw [ep]; exact List.mem_append_left _ hr')).same fun j h1 h2 => same j (.inl (by omega))
    · rcases List.mem_cons.mp hr' with rfl | hr'
      · show SegO R arr sa (sa + (na + nb))
        rw [show sa + (na + nb) = sb + nb by omega]
        exact sg
      · have z := c6.mem r hr'
        exact (p.seg r (by rw [ep]; simp [hr'])).same fun j h1 h2 => same j (.inr (by omega))
  · have := congrArg List.length en
    have e2 := congrArg List.length ep
    simp only [Array.length_toList, List.length_append, List.length_cons] at this e2
    show (((pendingOf st).setIfInBounds i (sa, na + nb, pa)).eraseIdxIfInBounds (i + 1)).size + 1 = _
    omega
theorem wpS_ite {α : Type} {c : Prop} [Decidable c] {m n : StateT SortSt Sem α} {Q : α → SortSt → Prop} {st : SortSt} (h1 : c → wpS M A E s m Q st) (h2 : ¬ c → wpS M A E s n Q st) : wpS M A E s (if c then m else n) Q st := by
  by_cases z : c
  · rw [if_pos z]; exact h1 z
  · rw [if_neg z]; exact h2 z
theorem CovR.of_map : ∀ {a b : List Run3} {lo hi : Nat}, a.map (fun r => (r.1, r.2.1)) = b.map (fun r => (r.1, r.2.1)) → CovR a lo hi → CovR b lo hi
  | [], [], _, _, _, h => h
  | [], _ :: _, _, _, e, _ => by simp at e
  | _ :: _, [], _, _, e, _ => by simp at e
  | r :: a, q :: b, lo, hi, e, ⟨h1, h2, h3⟩ => by
    simp only [List.map_cons, List.cons.injEq, Prod.mk.injEq] at e
    obtain ⟨⟨e1, e2⟩, e3⟩ := e
    exact ⟨e1 ▸ h1, e2 ▸ h2, e2 ▸ CovR.of_map e3 h3⟩
theorem RunS.push {st : SortSt} {lo n : Nat} (p : RunS κ R a₀ st lo) (hn : 0 < n) (sg : SegO R (arrOf st) lo (lo + n)) : RunS κ R a₀ (setPending st ((pendingOf st).push (lo, n, 0))) (lo + n) := by
  refine ⟨p.kind, p.fail, p.perm, ?_, ?_⟩
  · show CovR ((pendingOf st).push (lo, n, 0)).toList 0 (lo + n)
    rw [Array.toList_push]
    exact CovR.app.mpr ⟨lo, p.cov, rfl, hn, rfl⟩
  · intro r hr
    have hr' : r ∈ ((pendingOf st).push (lo, n, 0)).toList := hr
    rw [Array.toList_push] at hr'
    rcases List.mem_append.mp hr' with hr' | hr'
    · exact p.seg r hr'
    · rw [List.mem_singleton] at hr'
      subst hr'
      exact sg
theorem RunS.modify {st : SortSt} {lo k w : Nat} (p : RunS κ R a₀ st lo) : RunS κ R a₀ (setPending st ((pendingOf st).modify k fun x => (x.1, x.2.1, w))) lo := by
  have em : ((pendingOf st).modify k fun x => (x.1, x.2.1, w)).toList.map (fun r => (r.1, r.2.1)) = (pendingOf st).toList.map (fun r => (r.1, r.2.1)) := by
    rw [Array.toList_modify]
    refine List.ext_getElem? fun j => ?_
    rw [List.getElem?_map, List.getElem?_map, List.getElem?_modify]
    cases (pendingOf st).toList[j]? with
    | none => rfl
    | some x => by_cases c : k = j <;> simp [c]
  refine ⟨p.kind, p.fail, p.perm, p.cov.of_map em.symm, fun r hr => ?_⟩
  have hr' : (r.1, r.2.1) ∈ ((pendingOf st).modify k fun x => (x.1, x.2.1, w)).toList.map (fun r => (r.1, r.2.1)) := List.mem_map.mpr ⟨r, hr, rfl⟩
  rw [em] at hr'
  obtain ⟨q, hq, e⟩ := List.mem_map.mp hr'
  have := p.seg q hq
  simp only [Prod.mk.injEq] at e
  rw [e.1, e.2] at this
  exact this
theorem sortRuns_ok (L : LtE M A E s κ G R) (ga : ∀ x ∈ a₀.toList, G x) {st : SortSt} {Q : Unit → SortSt → Prop} (p : RunS κ R a₀ st 0) (h0 : 0 < a₀.size)
    (h : ∀ st' : SortSt, kindOf st' = κ → failedOf st' = none → (arrOf st').toList.Perm a₀.toList → SegO R (arrOf st') 0 a₀.size → Q () st') : wpS M A E s sortRuns' Q st := by
  rw [sortRuns'_eq]
  refine wpS_bind (wpS_get ?_)
  dsimp only
  have sz0 := p.size
  refine wpS_bind (wpS_mono (wpS_forRange (I := fun i (c : Option Unit × Nat) st' => c.1 = none ∧ RunS κ R a₀ st' c.2 ∧ c.2 ≤ a₀.size ∧ i ≤ c.2) (Q := fun c st' => c.1 = none ∧ RunS κ R a₀ st' a₀.size) ?_ ?_ ⟨rfl, p, Nat.zero_le _, Nat.le_refl _⟩) ?_)
  · rintro i ⟨r, lo⟩ st' _ hi ⟨rfl, p', hlo, hil⟩
    dsimp only at p' hlo hil ⊢
    have szp := p'.size
    by_cases c0 : lo ≥ (arrOf st).size
    · rw [if_pos c0]
      have : lo = a₀.size := by omega
      rw [this] at p' ⊢
      exact wpS_pure ⟨rfl, p'⟩
    · rw [if_neg c0]
      refine wpS_bind (count_ok L p'.kind (fun x hx => ga x (p'.perm.mem_iff.mp hx)) (by omega) (by omega) fun n arr hn1 hn2 ag sg => ?_)
      dsimp only
      have pa := p'.above ag
      have aga := ag.size
      by_cases cm : n < minRun' (arrOf st).size (arrOf st).size 0
      · rw [if_pos cm]
        refine wpS_bind (wpS_rule ?_)
        refine wpS_bind (binary_ok L (st := setArr st' arr) pa.kind (fun x hx => ga x (pa.perm.mem_iff.mp hx)) (show lo + min ((arrOf st).size - lo) (minRun' (arrOf st).size (arrOf st).size 0) ≤ arr.size by omega) hn1 (by omega) sg fun arr2 ag2 sg2 => ?_)
        rw [if_neg (by simp)]
        have p1 : RunS κ R a₀ (setArr st' arr2) lo := pa.above ag2
        have sg1 : SegO R (arrOf (setArr st' arr2)) lo (lo + min ((arrOf st).size - lo) (minRun' (arrOf st).size (arrOf st).size 0)) := sg2
        have hN : 0 < min ((arrOf st).size - lo) (minRun' (arrOf st).size (arrOf st).size 0) := by omega
        have hN2 : lo + min ((arrOf st).size - lo) (minRun' (arrOf st).size (arrOf st).size 0) ≤ a₀.size := by omega
        show wpS M A E s _ _ (setArr st' arr2)
        generalize setArr st' arr2 = st1 at p1 sg1 ⊢
        generalize min ((arrOf st).size - lo) (minRun' (arrOf st).size (arrOf st).size 0) = N at hN hN2 sg1 ⊢
        refine wpS_bind (wpS_get ?_)
        cases hb : (pendingOf st1).back? with
        | none =>
          dsimp only
          refine wpS_bind (wpS_modify (wpS_pure ⟨rfl, p1.push hN sg1, ?_, ?_⟩))
          · exact hN2
          · dsimp only; omega
        | some r3 =>
          obtain ⟨s1, n1, o1⟩ := r3
          dsimp only
          refine wpS_bind (wpS_mono (wpS_forRange (I := fun i (c : Option Unit × Unit) st2 => c.1 = none ∧ RunS κ R a₀ st2 lo ∧ SegO R (arrOf st2) lo (lo + N)) (Q := fun c st2 => c.1 = none ∧ RunS κ R a₀ st2 lo ∧ SegO R (arrOf st2) lo (lo + N)) ?_ ?_ ⟨rfl, p1, sg1⟩) ?_)
          · rintro i2 ⟨r, u⟩ st2 _ _ ⟨rfl, p2, sg2⟩
            refine wpS_bind (wpS_get ?_)
            by_cases c : (pendingOf st2).size > 1
            · rw [if_pos c]
              obtain ⟨⟨x1, x2, x3⟩, hx⟩ : ∃ x, (pendingOf st2)[(pendingOf st2).size - 2]? = some x := ⟨_, Array.getElem?_eq_getElem (by omega)⟩
              rw [hx]
              dsimp only
              refine wpS_ite (fun _ => wpS_pure ⟨rfl, p2, sg2⟩) fun _ => ?_
              refine wpS_bind (merge_step L ga p2 (by omega) (by omega) fun st3 p3 _ same => ?_)
              rw [if_neg (by simp)]
              exact wpS_pure ⟨rfl, p3, sg2.same fun j h1 h2 => same j h1⟩
            · rw [if_neg c]
              exact wpS_pure ⟨rfl, p2, sg2⟩
          · rintro ⟨r, u⟩ st2 ⟨rfl, p2, sg2⟩
            exact ⟨rfl, p2, sg2⟩
          rintro ⟨r, u⟩ st2 ⟨rfl, p2, sg2⟩
          dsimp only
          refine wpS_bind (wpS_modify (wpS_bind (wpS_modify (wpS_pure ⟨rfl, (p2.modify).push hN sg2, ?_, ?_⟩))))
          · exact hN2
          · dsimp only; omega
      · rw [if_neg cm]
        have p1 := pa
        have sg1 : SegO R (arrOf (setArr st' arr)) lo (lo + n) := sg
        have hN : 0 < n := hn1
        have hN2 : lo + n ≤ a₀.size := by omega
        generalize setArr st' arr = st1 at p1 sg1 ⊢
        refine wpS_bind (wpS_get ?_)
        cases hb : (pendingOf st1).back? with
        | none =>
          dsimp only
          refine wpS_bind (wpS_modify (wpS_pure ⟨rfl, p1.push hN sg1, ?_, ?_⟩))
          · exact hN2
          · dsimp only; omega
        | some r3 =>
          obtain ⟨s1, n1, o1⟩ := r3
          dsimp only
          refine wpS_bind (wpS_mono (wpS_forRange (I := fun i (c : Option Unit × Unit) st2 => c.1 = none ∧ RunS κ R a₀ st2 lo ∧ SegO R (arrOf st2) lo (lo + n)) (Q := fun c st2 => c.1 = none ∧ RunS κ R a₀ st2 lo ∧ SegO R (arrOf st2) lo (lo + n)) ?_ ?_ ⟨rfl, p1, sg1⟩) ?_)
          · rintro i2 ⟨r, u⟩ st2 _ _ ⟨rfl, p2, sg2⟩
            refine wpS_bind (wpS_get ?_)
            by_cases c : (pendingOf st2).size > 1
            · rw [if_pos c]
              obtain ⟨⟨x1, x2, x3⟩, hx⟩ : ∃ x, (pendingOf st2)[(pendingOf st2).size - 2]? = some x := ⟨_, Array.getElem?_eq_getElem (by omega)⟩
              rw [hx]
              dsimp only
              refine wpS_ite (fun _ => wpS_pure ⟨rfl, p2, sg2⟩) fun _ => ?_
              refine wpS_bind (merge_step L ga p2 (by omega) (by omega) fun st3 p3 _ same => ?_)
              rw [if_neg (by simp)]
              exact wpS_pure ⟨rfl, p3, sg2.same fun j h1 h2 => same j h1⟩
            · rw [if_neg c]
              exact wpS_pure ⟨rfl, p2, sg2⟩
          · rintro ⟨r, u⟩ st2 ⟨rfl, p2, sg2⟩
            exact ⟨rfl, p2, sg2⟩
          rintro ⟨r, u⟩ st2 ⟨rfl, p2, sg2⟩
          dsimp only
          refine wpS_bind (wpS_modify (wpS_bind (wpS_modify (wpS_pure ⟨rfl, (p2.modify).push hN sg2, ?_, ?_⟩))))
          · exact hN2
          · dsimp only; omega
  · rintro ⟨r, lo⟩ st' ⟨rfl, p', hlo, hil⟩
    dsimp only at p' hlo hil ⊢
    have : lo = a₀.size := by omega
    rw [this] at p'
    exact ⟨rfl, p'⟩
  rintro ⟨r, lo⟩ st' ⟨rfl, p'⟩
  dsimp only
  have hend : ∀ st2, RunS κ R a₀ st2 a₀.size → (pendingOf st2).size ≤ 1 → Q () st2 := fun st2 p2 hs => by
    refine h st2 p2.kind p2.fail p2.perm ?_
    have cv := p2.cov
    have sg := p2.seg
    have hs' : (pendingOf st2).toList.length ≤ 1 := by simpa using hs
    match hp : (pendingOf st2).toList, hs' with
    | [], _ =>
      rw [hp] at cv
      simp [CovR] at cv
      omega
    | [x], _ =>
      rw [hp] at cv sg
      obtain ⟨c1, c2, c3⟩ := cv
      have := sg x List.mem_cons_self
      rw [c1] at this
      have c3' : 0 + x.2.1 = a₀.size := c3
      rw [c3'] at this
      exact this
    | _ :: _ :: _, z => simp at z
  have sz' : (pendingOf st').size ≤ a₀.size := by have := p'.cov.le; simpa using this
  refine wpS_bind (wpS_mono (wpS_forRange (I := fun i (c : Option Unit × Unit) st2 => c.1 = none ∧ RunS κ R a₀ st2 a₀.size ∧ (pendingOf st2).size + i ≤ a₀.size) (Q := fun c st2 => c.1 = none ∧ RunS κ R a₀ st2 a₀.size ∧ (pendingOf st2).size ≤ 1) ?_ ?_ ⟨rfl, p', sz'⟩) ?_)
  · rintro i ⟨r, u⟩ st2 _ hi ⟨rfl, p2, hc⟩
    refine wpS_bind (wpS_get ?_)
    by_cases c : (pendingOf st2).size ≤ 1
    · rw [if_pos c]
      exact wpS_pure ⟨rfl, p2, c⟩
    · rw [if_neg c]
      refine wpS_bind (merge_step L ga p2 (Nat.le_refl _) ?_ fun st3 p3 hs _ => ?_)
      · have ite_le : ∀ (b : Prop) [Decidable b] (x : Nat), (if b then x - 1 else x) ≤ x := fun b _ x => by split <;> omega
        refine Nat.lt_of_le_of_lt (Nat.succ_le_succ (ite_le _ _)) ?_
        omega
      · rw [if_neg (by simp)]
        exact wpS_pure ⟨rfl, p3, by omega⟩
  · rintro ⟨r, u⟩ st2 ⟨rfl, p2, hc⟩
    exact ⟨rfl, p2, by omega⟩
  rintro ⟨r, u⟩ st2 ⟨rfl, p2, hs⟩
  exact wpS_pure (hend st2 p2 hs)
end
end L2
set_option Elab.async false
set_option linter.all false
set_option maxRecDepth 100000
set_option maxHeartbeats 4000000
namespace L2
open PySem PySem.Calls PySem.W PyProof.Rows
section
variable {prog : Program} {w : World} {A : Around} {E : Value → Shared → Prop} {s : Shared} {κ : SortKind} {G : Keyed → Prop} {R : Keyed → Keyed → Bool}
theorem ltE_of (hlt : ∀ x y, G x → G y → ∀ (E' : Value → Shared → Prop) (Q : Bool → Shared → Prop), Q (R x y) s → wpAny (model prog w) A (keyLt' κ x.1 y.1) Q E' s)
    (asym : ∀ x y, G x → G y → R x y = true → R y x = false) (tr : ∀ x y z, G x → G y → G z → R x y = false → R y z = false → R x z = false) : LtE (model prog w) A E s κ G R :=
  ⟨fun x y gx gy st Q hk h => by
    rw [lt'_eq]
    refine wpS_bind (wpS_get ?_)
    rw [hk]
    exact wpS_bind (wpS_lift (wpAny_attempt (hlt x y gx gy _ _ ⟨rfl, wpS_pure h⟩))), asym, tr⟩
theorem zip_self (vs : List Value) : (vs.toArray.zip vs.toArray).toList = vs.map fun v => (v, v) := by
  simp only [Array.toList_zip]
  induction vs with
  | nil => rfl
  | cons v vs ih => simpa using ih
theorem list_sort_gen {a : Addr} {vs : List Value} {n : Nat} {P : PySem.Fin → Shared → Prop} (Kd : SortKind → Prop) (ho : s.heap.get? a = some (seqObj "list" vs.toArray n)) (hz : vs.length ≤ 1000)
    (hk : ∀ h' : Heap, (∀ b x, s.heap.IsTuple b x → h'.IsTuple b x) → 2 ≤ vs.length → ∀ Q : SortKind → Shared → Prop, (∀ κ, Kd κ → Q κ { s with heap := h' }) → wpAny (model prog w) A (keyKind' vs.toArray) Q E { s with heap := h' })
    (hL : ∀ h' : Heap, (∀ b x, s.heap.IsTuple b x → h'.IsTuple b x) → ∀ κ, Kd κ → LtE (model prog w) A E { s with heap := h' } κ G R) (hG : ∀ v ∈ vs, G (v, v))
    (h : ∀ ws : List Value, ws.Perm vs → ws.Pairwise (fun x y => R (y, y) (x, x) = false) → P (.done (.ret .none)) { s with heap := sortedHeap s.heap a vs ws.toArray }) :
    wpAny (model prog w) A (Builtin.«list.sort» ⟨[.ref a], []⟩) P E s := by
  have zl : vs.length ≤ sizeLine := Nat.le_of_lt (small1000 hz)
  rw [list_sort_plain]
  have ha : a < s.heap.objs.size := Heap.lt_size ho
  refine wpAny_bind (listItems_at ho rfl (wpAny_bind (listUpdate_at ho rfl ?_ (by rw [List.size_toArray]; exact zl) (Nat.zero_le _))))
  obtain ⟨e1, ho1⟩ : ∃ e1, (s.heap.update a (Obj.mapSeq fun _ => #[])).get? a = some (seqObj "list" #[] e1) := ⟨_, get?_update_seq ho (fun _ => #[])⟩
  refine wpAny_bind (seqEpoch_at ho1 rfl (wpAny_bind (wpAny_newTuple ?_ (by show vs.length ≤ _; exact zl))))
  refine wpAny_bind (wpAny_newList ?_ (Nat.zero_le _))
  refine wpAny_holding ?_
  have ho6 : (((s.heap.update a (Obj.mapSeq fun _ => #[])).push (seqObj "tuple" vs.toArray 0)).push (seqObj "list" #[] 0)).get? a = some (seqObj "list" #[] e1) := by rw [Heap.get?_push_ne _ _ _ (by rw [size_push', Heap.size_update]; exact Nat.ne_of_lt (Nat.lt_succ_of_lt ha)), Heap.get?_push_ne _ _ _ (by rw [Heap.size_update]; exact Nat.ne_of_lt ha)]; exact ho1
  have keep : ∀ b x, s.heap.IsTuple b x → (((s.heap.update a (Obj.mapSeq fun _ => #[])).push (seqObj "tuple" vs.toArray 0)).push (seqObj "list" #[] 0)).IsTuple b x := fun b x hb => istup_kept (fun b o hc hb => by
    have hne : b ≠ a := fun z => by
      rw [z, ho] at hb
      cases hb
      injection hc with hh
      exact absurd hh (by decide)
    exact Heap.get?_push_of_some _ (Heap.get?_push_of_some _ (by rw [Heap.get?_update_ne _ _ _ _ hne]; exact hb))) hb
  show wpAny (model prog w) A _ P E { s with heap := ((s.heap.update a (Obj.mapSeq fun _ => #[])).push (seqObj "tuple" vs.toArray 0)).push (seqObj "list" #[] 0) }
  dsimp only
  have outs : ∀ arr : Array Keyed, arr.toList.Perm (vs.map fun v => (v, v)) → ∃ ws : List Value, ws.Perm vs ∧ arr.map (·.2) = ws.toArray ∧ arr.toList = ws.map fun v => (v, v) := fun arr pm => by
    refine ⟨arr.toList.map (·.2), ?_, ?_, ?_⟩
    · have := pm.map (·.2)
      rw [List.map_map] at this
      have e : ((fun x : Keyed => x.2) ∘ fun v : Value => (v, v)) = id := rfl
      rw [e, List.map_id] at this
      exact this
    · rw [← Array.toList_map]
    · rw [List.map_map]
      refine (List.map_id _).symm.trans (List.map_congr_left fun x hx => ?_)
      obtain ⟨v, _, rfl⟩ := List.mem_map.mp (pm.mem_iff.mp hx)
      rfl
  by_cases h2 : vs.toArray.size < 2
  · rw [if_pos h2, if_pos h2]
    refine wpAny_bind (wpAny_pure ?_); rw [StateT.run_pure]
    refine wpAny_bind (wpAny_pure ?_)
    dsimp only
    have h2' : vs.length < 2 := by simpa using h2
    have hid : (arrOf (SortSt.mk' general' (vs.toArray.zip vs.toArray) #[] 7 none)).map (·.2) = vs.toArray := by
      show (vs.toArray.zip vs.toArray).map (·.2) = _
      rw [snds_few h2']
      match vs, h2' with
      | [], _ => rfl
      | [x], _ => simp [List.range_succ]
    rw [hid]
    refine wpAny_bind (seqEpoch_at ho6 rfl ?_)
    refine wpAny_bind (listUpdate_at ho6 rfl ?_ (Nat.zero_le _) (by rw [List.size_toArray]; omega))
    simp only [bne_self_eq_false, Bool.false_eq_true, if_false]
    refine wpAny_pure (h vs (.refl _) ?_)
    match vs, h2' with
    | [], _ => exact List.Pairwise.nil
    | [x], _ => exact List.pairwise_singleton _ _
  · rw [if_neg h2, if_neg h2]
    have h2' : 2 ≤ vs.length := by simpa using h2
    refine wpAny_bind (hk _ keep h2' _ fun κ hκ => ?_)
    have L := hL _ keep κ hκ
    have ga : ∀ x ∈ (vs.toArray.zip vs.toArray).toList, G x := fun x hx => by
      rw [zip_self] at hx
      obtain ⟨v, hv, rfl⟩ := List.mem_map.mp hx
      exact hG v hv
    show wpAny (model prog w) A ((sortRuns').run (SortSt.mk' κ (vs.toArray.zip vs.toArray) #[] 7 none) >>= _) P E _
    have sr := sortRuns_ok L (a₀ := vs.toArray.zip vs.toArray) ga (st := SortSt.mk' κ (vs.toArray.zip vs.toArray) #[] 7 none) (Q := fun _ st' => failedOf st' = none ∧ (arrOf st').toList.Perm (vs.map fun v => (v, v)) ∧ SegO R (arrOf st') 0 vs.length) ⟨rfl, rfl, .refl _, rfl, fun r hr => by cases hr⟩ (by simp; omega) fun st' _ q2 q3 q4 => ⟨q2, by rw [zip_self] at q3; exact q3, by
      have : (vs.toArray.zip vs.toArray).size = vs.length := by simp
      rw [this] at q4
      exact q4⟩
    refine wpAny_bind (wpAny_mono sr ?_ fun _ _ e => e)
    rintro ⟨⟨⟩, st'⟩ s' ⟨rfl, hf, pm, sg⟩
    dsimp only at hf pm sg ⊢
    obtain ⟨ws, pw, ew, el⟩ := outs (arrOf st') pm
    have szw : ws.length = vs.length := pw.length_eq
    have sza : (arrOf st').size = vs.length := by have := pm.length_eq; simpa using this
    rw [ew]
    refine wpAny_bind (seqEpoch_at ho6 rfl ?_)
    refine wpAny_bind (listUpdate_at ho6 rfl ?_ (Nat.zero_le _) (by rw [List.size_toArray, szw]; omega))
    rw [hf]
    simp only [bne_self_eq_false, Bool.false_eq_true, if_false]
    refine wpAny_pure (h ws pw ?_)
    have ol : OL R (arrOf st').toList := ol_of fun i j hij hj => sg i j (Nat.zero_le _) hij (by omega)
    rw [el] at ol
    unfold OL at ol
    rw [List.pairwise_map] at ol
    exact ol
end
end L2
set_option Elab.async false
set_option linter.all false
set_option maxRecDepth 100000
set_option maxHeartbeats 4000000
namespace L2
open PySem PySem.Calls PySem.Spec PySem.W PyProof.Rows
open Classical in
noncomputable def dtOf (h : Heap) (v : Value) : Dt := if e : ∃ d, DA h d v then e.choose else .tup []
theorem dtOf_eq {h : Heap} {d : Dt} {v : Value} (r : DA h d v) : dtOf h v = d := by
  unfold dtOf
  have e : ∃ d, DA h d v := ⟨d, r⟩
  rw [dif_pos e]
  exact e.choose_spec.inj r
theorem dts_of {h : Heap} : ∀ {ds : List Dt} {vs : List Value}, DAs h ds vs → vs.map (dtOf h) = ds
  | _, _, .nil => rfl
  | _, _, .cons r q => by rw [List.map_cons, dtOf_eq r, dts_of q]
theorem da_mem {h : Heap} {ds : List Dt} {vs : List Value} (r : DAs h ds vs) {v : Value} (hv : v ∈ vs) : ∃ d ∈ ds, DA h d v := by
  obtain ⟨j, hj, e⟩ := List.getElem_of_mem hv
  obtain ⟨d, ed, rd⟩ := r.get (show vs[j]? = some v by rw [List.getElem?_eq_getElem hj, e])
  exact ⟨d, List.mem_of_getElem? ed, rd⟩
theorem heads_tup {ds : List Dt} (hh : Heads ds) : ∀ d ∈ ds, ∃ r, d = Dt.tup r := fun d hd => by
  rcases hh with hh | hh
  · obtain ⟨x, r, rfl⟩ := hh d hd; exact ⟨_, rfl⟩
  · rcases hh d hd with rfl | ⟨l, r, rfl⟩ <;> exact ⟨_, rfl⟩
section
variable {prog : Program} {w : World} {A : Around} {E : Value → Shared → Prop} {s : Shared}
theorem list_sort_datA {a : Addr} {vs : List Value} {ds : List Dt} {n m : Nat} {P : PySem.Fin → Shared → Prop} (ho : s.heap.get? a = some (seqObj "list" vs.toArray n)) (hp : DAs s.heap ds vs) (hh : Heads ds) (hc : ∀ d ∈ ds, ∀ e ∈ ds, Dt.cmp d e = true) (hm : Dt.deeps ds ≤ m) (hz : vs.length ≤ 1000) (hu : A.units + m < cLine)
    (h : ∀ ws : List Value, ws.Perm vs → ws.map (dtOf s.heap) = sortD ds → P (.done (.ret .none)) { s with heap := sortedHeap s.heap a vs ws.toArray }) :
    wpAny (model prog w) A (Builtin.«list.sort» ⟨[.ref a], []⟩) P E s := by
  refine list_sort_gen (G := fun x => x.1 ∈ vs) (R := fun x y => Dt.lt (dtOf s.heap x.1) (dtOf s.heap y.1)) (fun κ => GoodK κ ds) ho hz (fun h' kp h2 Q q => kind_DA (hp.kept kp) h2 hh q) (fun h' kp κ hκ => ?_) (fun v hv => hv) fun ws pw od => h ws pw ?_
  · refine ltE_of (fun x y gx gy E' Q q => ?_) (fun x y _ _ => Dt.lt_asym) fun x y z _ _ _ => Dt.lt_neg
    obtain ⟨d, hd, rd⟩ := da_mem hp gx
    obtain ⟨e, he, re⟩ := da_mem hp gy
    rw [dtOf_eq rd, dtOf_eq re] at q
    obtain ⟨j, hj, ej⟩ := List.getElem_of_mem hd
    exact ask_DA hκ hd he (heads_tup hh d hd) (heads_tup hh e he) m (Nat.le_trans (deep_get (show ds[j]? = some d by rw [List.getElem?_eq_getElem hj, ej])) hm) (hc d hd e he) (rd.kept kp) (re.kept kp) hu q
  · refine sortD_of ?_ ?_
    · unfold OrdD
      rw [List.pairwise_map]
      exact od
    · have := pw.map (dtOf s.heap)
      rw [dts_of hp] at this
      exact this
end
def absR : Value → V
  | .ref a => .ref a
  | _ => .non
theorem vals_mem : ∀ {vs : List V} {its : List Value}, Vals vs its → ∀ {u : Value}, u ∈ its → ∃ v ∈ vs, RelV v u
  | _, _, .cons r q, u, hu => by
    rcases List.mem_cons.mp hu with rfl | hu
    · exact ⟨_, List.mem_cons_self, r⟩
    · obtain ⟨v, hv, rv⟩ := vals_mem q hu
      exact ⟨v, List.mem_cons_of_mem _ hv, rv⟩
theorem drs_mem {H : Hp} : ∀ {ds : List Dt} {vs : List V}, DRs H ds vs → ∀ {v : V}, v ∈ vs → ∃ d ∈ ds, DR H d v
  | _, _, .cons r q, v, hv => by
    rcases List.mem_cons.mp hv with rfl | hv
    · exact ⟨_, List.mem_cons_self, r⟩
    · obtain ⟨d, hd, rd⟩ := drs_mem q hv
      exact ⟨d, List.mem_cons_of_mem _ hd, rd⟩
theorem pick_abs {P : Program} {w : World} {H : Hp} {h : Heap} (ok : HOk P w H h) {ds : List Dt} {vs : List V} {its : List Value} (rv : Vals vs its) (hd : DRs H ds vs) (ht : ∀ d ∈ ds, ∃ r, d = Dt.tup r) :
    ∀ {ws : List Value}, (∀ u ∈ ws, u ∈ its) → Vals (ws.map absR) ws ∧ DRs H (ws.map (dtOf h)) (ws.map absR)
  | [], _ => ⟨.nil, .nil⟩
  | u :: ws, hm => by
    obtain ⟨i1, i2⟩ := pick_abs ok rv hd ht (ws := ws) fun x hx => hm x (List.mem_cons_of_mem _ hx)
    obtain ⟨v, hv, r⟩ := vals_mem rv (hm u List.mem_cons_self)
    obtain ⟨d, hdm, rd⟩ := drs_mem hd hv
    obtain ⟨l, rfl⟩ := ht d hdm
    obtain ⟨a, rfl⟩ : ∃ a, v = .ref a := by cases rd; exact ⟨_, rfl⟩
    cases r
    refine ⟨.cons rfl i1, ?_⟩
    rw [List.map_cons, List.map_cons, dtOf_eq (DR.da ok rd rfl)]
    exact .cons rd i2
end L2
set_option Elab.async false
set_option linter.all false
set_option maxRecDepth 100000
set_option maxHeartbeats 4000000
namespace L2
open PySem PySem.Calls PySem.Spec PyProof.Rows PySem.W
structure SrtOk (ds : List Dt) : Prop where
  heads : Heads ds
  cmp : ∀ d ∈ ds, ∀ e ∈ ds, Dt.cmp d e = true
  deep : Dt.deeps ds ≤ 100
  few : ds.length ≤ 1000
section
variable {X : Cx}
def rSortDt : List V → Hp → VK → Prop := fun xs H Q => ∃ (l : Addr) (vs : List V) (ds : List Dt), xs = [.ref l] ∧ H l = some (.lst vs) ∧ DRs H ds vs ∧ SrtOk ds ∧
  ∀ (l' : Addr) (ws : List V), H l' = none → DRs H (sortD ds) ws → Q (.ref l') (upd H l' (.lst ws))
theorem call_sortedDt (hu : X.A.units + 150 < cLine) : CallR X (.builtin "sorted") rSortDt := by
  intro pins s σ H xs us Q I r h
  obtain ⟨l, vs, ds, rfl, hl, hd, so, q⟩ := h
  obtain ⟨u, rfl, ru⟩ := vals1 r
  cases ru
  obtain ⟨_, its, n0, rv, hlen, el⟩ := I.lstM hl
  have hlv : its.length = vs.length := rv.length.symm
  have hlp : ds.length = vs.length := hd.length
  have line : its.length ≤ sizeLine := Nat.le_of_lt (small1000 (by have := so.few; omega))
  refine Calls.call_function_entry kind_sorted plain_sorted entry_sorted (args_sorted1 _) ?_
  unfold Builtin.«sorted»
  refine wpAny_bind (m := checkCount "sorted" 1 1 _) (wpAny_pure ?_)
  have hL : s.heap.IsList l its.toArray := ⟨_, el, rfl, _, rfl⟩
  refine wpAny_bind (collect_list hL ?_ (by simpa using line))
  refine wpAny_bind (wpAny_newList ?_ (by simpa using line))
  have keep1 : ∀ b o, s.heap.get? b = some o → ((s.heap.push (seqObj "list" #[] 0)).update s.heap.objs.size (Obj.mapSeq (· ++ its.toArray))).get? b = some o := fun b o q => by
    have hlt : b < s.heap.objs.size := Heap.lt_size q
    rw [Heap.get?_update_ne _ _ _ _ (Nat.ne_of_lt hlt)]
    exact Heap.get?_push_of_some _ q
  show wpAny _ _ _ _ _ { s with heap := ((s.heap.push (seqObj "list" #[] 0)).update s.heap.objs.size (Obj.mapSeq (· ++ its.toArray))).push { cls := .type "list", data := .seq its.toArray } }
  generalize (s.heap.push (seqObj "list" #[] 0)).update s.heap.objs.size (Obj.mapSeq (· ++ its.toArray)) = h1 at keep1 ⊢
  have I1 : Inv X pins σ H { s with heap := h1 } := I.kept (t' := s.toks) keep1
  have hoL : (h1.push { cls := .type "list", data := .seq its.toArray }).get? h1.objs.size = some (seqObj "list" its.toArray 0) := Heap.get?_push_size _ rfl
  have keepT : ∀ b x, h1.IsTuple b x → (h1.push { cls := .type "list", data := .seq its.toArray }).IsTuple b x := fun b x hb => istup_kept (fun b o _ e => Heap.get?_push_of_some _ e) hb
  have hda0 : DAs h1 ds its := DRs.da I1.hok hd rv
  have hda : DAs (h1.push { cls := .type "list", data := .seq its.toArray }) ds its := hda0.kept keepT
  have hld : ds.length = vs.length := hd.length
  have hdl : its.length = ds.length := by omega
  refine wpAny_bind (wpAny_holding (wpAny_call_entry slot_list_sort ⟨_, hoL, rfl⟩ entry_list_sort (list_sort_datA (m := 100) hoL hda so.heads so.cmp so.deep (by have := so.few; omega) (by show X.A.units + 1 + 1 + 100 < cLine; omega) fun ws pw od => ⟨_, rfl, ?_⟩) (args_list_sort _)))
  have hwl : ws.length = ds.length := by rw [pw.length_eq]; exact hdl
  obtain ⟨e, he⟩ : ∃ e, (sortedHeap (h1.push { cls := .type "list", data := .seq its.toArray }) h1.objs.size its ws.toArray).get? h1.objs.size = some (seqObj "list" ws.toArray e) := sortedHeap_at hoL
  have hn1 := I1.hok.fresh (Nat.le_refl h1.objs.size)
  obtain ⟨v1, v2⟩ := pick_abs I1.hok rv hd (heads_tup so.heads) (ws := ws) fun u hu => pw.mem_iff.mp hu
  have eqd : ws.map (dtOf h1) = sortD ds := by
    rw [← od]
    refine List.map_congr_left fun u hu => ?_
    obtain ⟨d, _, rd⟩ := da_mem hda0 (pw.mem_iff.mp hu)
    rw [dtOf_eq rd, dtOf_eq (rd.kept keepT)]
  rw [eqd] at v2
  refine wpAny_pure ⟨_, rfl, ⟨.ref h1.objs.size, upd H h1.objs.size (.lst (ws.map absR)), I1.laid (t' := s.toks) (a := h1.objs.size) (o := .lst (ws.map absR)) (fun b o hb => ?_) (Nat.le_refl _) ⟨?_, _, e, v1, ?_⟩, rfl, q _ _ hn1 v2⟩⟩
  · rw [sortedHeap_old (Nat.ne_of_lt (Heap.lt_size hb)) (by rw [Heap.size_push]; exact Nat.lt_succ_of_lt (Heap.lt_size hb))]
    exact Heap.get?_push_of_some _ hb
  · rw [List.length_map, hwl]
    exact Nat.le_of_lt (small1000 so.few)
  · rw [he]
end
end L2
set_option Elab.async false
set_option linter.all false
set_option maxRecDepth 100000
set_option maxHeartbeats 4000000
namespace L2
open PySem PySem.Calls PySem.Spec PyProof.Rows PySem.W
abbrev XN := List (Dt × Addr × V)
def prs (xs : XN) : List (Dt × V) := xs.map fun x => (x.1, x.2.2)
abbrev KTN : XN → List (Dt × Addr × Value) → Prop := Paired fun p q => p.1 = q.1 ∧ p.2.1 = q.2.1 ∧ RelV p.2.2 q.2.2
theorem KTN.val {xs : XN} {raw : List (Dt × Addr × Value)} (r : KTN xs raw) (k : Dt) : RelO (valV (prs xs) k) ((atKey raw k).map (·.2)) := by
  induction r with
  | nil => exact True.intro
  | @cons p q ps qs h t ih =>
    obtain ⟨h1, _, h2⟩ := h
    by_cases e : p.1 = k
    · have e' : q.1 = k := h1.symm.trans e
      have b : atKey (q :: qs) k = some q.2 := by simp [atKey, List.find?_cons, e']
      rw [b]
      show RelO (valV ((p.1, p.2.2) :: prs ps) k) _
      rw [valV_pos e]; exact h2
    · have e' : ¬ q.1 = k := fun z => e (h1.trans z)
      have b : atKey (q :: qs) k = atKey qs k := by simp [atKey, List.find?_cons, e']
      rw [b]
      show RelO (valV ((p.1, p.2.2) :: prs ps) k) _
      rw [valV_neg e]; exact ih
def putN (xs : XN) (k : Dt) (b : Addr) (v : V) : XN := if ((prs xs).any fun kv => decide (kv.1 = k)) = true then xs.map (fun x => if x.1 = k then (x.1, x.2.1, v) else x) else xs ++ [(k, b, v)]
theorem prs_put (xs : XN) (k : Dt) (b : Addr) (v : V) : prs (putN xs k b v) = putK (prs xs) k v := by
  unfold putN putK
  by_cases c : ((prs xs).any fun kv => decide (kv.1 = k)) = true
  · rw [if_pos c, if_pos c]
    unfold prs
    rw [List.map_map, List.map_map]
    refine List.map_congr_left fun x _ => ?_
    dsimp only [Function.comp]
    by_cases e : x.1 = k
    · rw [if_pos e, if_pos e]
    · rw [if_neg e, if_neg e]
  · rw [if_neg c, if_neg c]
    simp [prs]
theorem KTN.put {xs : XN} {raw : List (Dt × Addr × Value)} (r : KTN xs raw) (k : Dt) (b : Addr) {v : V} {u : Value} (rv : RelV v u) : KTN (putN xs k b v) (storedH raw k b u) := by
  have e : ((prs xs).any fun kv => decide (kv.1 = k)) = (atKey raw k).isSome := by
    rw [valV_any, (r.val k).isSome_eq, Option.isSome_map]
  unfold putN storedH
  rw [e]
  by_cases q : (atKey raw k).isSome = true
  · rw [if_pos q, if_pos q]
    clear e q
    induction r with
    | nil => exact .nil
    | @cons p q ps qs h t ih =>
      rw [List.map_cons, List.map_cons]
      refine .cons ?_ ih
      obtain ⟨h1, h2, h3⟩ := h
      unfold putAt
      by_cases e : p.1 = k
      · rw [if_pos e, if_pos (h1.symm.trans e)]; exact ⟨h1, h2, rv⟩
      · rw [if_neg e, if_neg (fun z => e (h1.trans z))]; exact ⟨h1, h2, h3⟩
  · rw [if_neg q, if_neg q]; exact Paired.snoc r ⟨rfl, rfl, rv⟩
def dNp (P : Program) (w : World) (a : Addr) (xs : XN) (h : Heap) : Prop := (a == sysModules) = false ∧ ∃ raw, KTN xs raw ∧ ∃ o es ep, h.get? a = some o ∧ o.ExactDict ∧ o.data = .dict es ep ∧ es.toList = raw.map (entryOfKey (datKind P w)) ∧ (raw.map (·.1)).Nodup
def dN (P : Program) (w : World) (a : Addr) (xs : XN) : HO := .ext (dNp P w a xs)
def KeysN (H : Hp) (xs : XN) : Prop := ∀ x ∈ xs, DR H x.1 (.ref x.2.1) ∧ x.1.deep ≤ 8
def DicR (P : Program) (w : World) (H : Hp) (a : Addr) (kvs : List (Dt × V)) : Prop := ∃ xs, kvs = prs xs ∧ Rd H a (dN P w a xs) ∧ KeysN H xs ∧ xs.length ≤ 1000
def DicN (P : Program) (w : World) (H : Hp) (a : Addr) (kvs : List (Dt × V)) : Prop := ∃ xs, kvs = prs xs ∧ H a = some (dN P w a xs) ∧ KeysN H xs ∧ xs.length ≤ 1000
section
variable {P : Program} {w : World} {H H' : Hp} {h : Heap} {a : Addr} {kvs : List (Dt × V)}
theorem DicN.rd : DicN P w H a kvs → DicR P w H a kvs
  | ⟨xs, e, r, k, l⟩ => ⟨xs, e, .inl r, k, l⟩
theorem KeysN.mono (t : Tk H H') {xs : XN} (k : KeysN H xs) : KeysN H' xs := fun x hx => ⟨(k x hx).1.mono t, (k x hx).2⟩
theorem DicR.mono (t : Tk H H') (e : H' a = H a) : DicR P w H a kvs → DicR P w H' a kvs
  | ⟨xs, e1, r, k, l⟩ => ⟨xs, e1, by unfold Rd at r ⊢; rw [e]; exact r, k.mono t, l⟩
theorem DicR.raw (ok : HOk P w H h) : DicR P w H a kvs → ∃ raw, (a == sysModules) = false ∧ (∃ xs, kvs = prs xs ∧ KTN xs raw) ∧ h.DictOfH (datKind P w) a raw ∧ raw.length ≤ 1000
  | ⟨xs, e, r, k, l⟩ => by
    obtain ⟨⟨hs, raw, rel, o, es, ep, h1, h2, h3, h4, h5⟩, _⟩ := r.ok ok
    have hl : raw.length = xs.length := (Paired.length rel).symm
    refine ⟨raw, hs, ⟨xs, e, rel⟩, ⟨o, es, ep, h1, h2, h3, h4, ?_, h5⟩, by omega⟩
    have all : ∀ {l : XN} {m : List (Dt × Addr × Value)}, KTN l m → KeysN H l → ∀ x ∈ m, (datKind P w).is h x.1 x.2.1 := by
      intro l m q
      induction q with
      | nil => intro _ x hx; exact nomatch hx
      | @cons p q ps qs hq t ih =>
        intro hk x hx
        rcases List.mem_cons.mp hx with e | hx
        · subst e
          have := hk p List.mem_cons_self
          rw [← hq.1, ← hq.2.1]
          exact ⟨DR.da ok this.1 rfl, this.2⟩
        · exact ih (fun y hy => hk y (List.mem_cons_of_mem _ hy)) x hx
    exact all rel k
theorem dNp_ext {xs : XN} (x : dNp P w a xs h) : ObjOk P w H h a (dN P w a xs) := by
  refine ⟨x, ?_, fun h1 h2 y k => ?_⟩
  · obtain ⟨_, raw, _, o, _, _, q, _⟩ := x
    exact ⟨o, q⟩
  · obtain ⟨hs, raw, rel, o, es, ep, q, r⟩ := y
    exact ⟨hs, raw, rel, o, es, ep, k o q, r⟩
theorem datRoom {A : Around} (hu : A.units + 20 < cLine) : (datKind P w).room A.in1 := by show A.units + 1 + 8 < cLine; omega
end
section
variable {X : Cx} {pins : List (Addr × Obj)} {σ : L2.St} {H : Hp} {s : Shared} {a b : Addr} {k : Dt} {kvs : List (Dt × V)} {v : V} {A : Around} {E : Value → Shared → Prop}
theorem n_is (I : Inv X pins σ H s) (hk : DR H k (.ref b)) (hd : k.deep ≤ 8) : (datKind X.prog X.w).is s.heap k b := ⟨DR.da I.hok hk rfl, hd⟩
theorem n_type (I : Inv X pins σ H s) (d : DicR X.prog X.w H a kvs) : s.TypeIs (.ref a) "dict" ∧ (∀ c, Value.ref a = .ref c → ∃ ob, s.heap.get? c = some ob ∧ ob.dict = none) ∧ (a == sysModules) = false := by
  obtain ⟨raw, hs, _, dd, _⟩ := d.raw I.hok
  refine ⟨dd.typeIs, fun c q => ?_, hs⟩
  cases q
  obtain ⟨ob, _, _, h1, h2, _⟩ := dd
  exact ⟨ob, h1, h2.2.1⟩
theorem n_getItem {Q : Value → Shared → Prop} (hu : A.units + 20 < cLine) (I : Inv X pins σ H s) (d : DicR X.prog X.w H a kvs) (hk : DR H k (.ref b)) (hd : k.deep ≤ 8) (hv : valV kvs k = some v) (h : ∀ w' s', Inv X pins σ H s' → RelV v w' → Q w' s') :
    wpAny (model X.prog X.w) A (getItem (.ref a) (.ref b)) Q E s := by
  obtain ⟨raw, hs, ⟨xs, e, rel⟩, dd, _⟩ := d.raw I.hok
  subst e
  obtain ⟨w', hw, rw'⟩ := RelO.some_of (v := v) (o := (atKey raw k).map (·.2)) (by rw [← hv]; exact rel.val k)
  obtain ⟨p, hp, hp2⟩ := Option.map_eq_some_iff.mp hw
  refine wpAny_getItem_heap (datRoom hu) (n_is I hk hd) dd hp ?_
  rw [hp2]
  exact h w' _ (I.tok _) rw'
def DicP (P : Program) (w : World) (H : Hp) (a : Addr) (kvs : List (Dt × V)) : Prop := DicN P w H a kvs ∨ (H a = some (.dK []) ∧ kvs = [])
theorem n_setItem {r : Value} {Q : Unit → Shared → Prop} (hu : A.units + 20 < cLine) (I : Inv X pins σ H s) (d : DicP X.prog X.w H a kvs) (hl : kvs.length < 1000) (hk : DR H k (.ref b)) (hd : k.deep ≤ 8) (rv : RelV v r)
    (h : ∀ o s', Inv X pins σ (upd H a o) s' → DicN X.prog X.w (upd H a o) a (putK kvs k v) → Tk H (upd H a o) → Q () s') :
    wpAny (model X.prog X.w) A (setItem (.ref a) (.ref b) r) Q E s := by
  obtain ⟨xs, raw, e, hs, rel, dd, hlen, hkeys, mu⟩ : ∃ (xs : XN) (raw : List (Dt × Addr × Value)), kvs = prs xs ∧ (a == sysModules) = false ∧ KTN xs raw ∧ s.heap.DictOfH (datKind X.prog X.w) a raw ∧ raw.length ≤ 1000 ∧ KeysN H xs ∧ Mut (H a) := by
    rcases d with d | ⟨ea, rfl⟩
    · obtain ⟨xs', e', q', kk, ll⟩ := id d
      obtain ⟨⟨hs, raw, rel, o, es, ep, h1, h2, h3, h4, h5⟩, _⟩ := (show ObjOk X.prog X.w H s.heap a (dN X.prog X.w a xs') from I.hok a _ q')
      obtain ⟨raw', hs', ⟨xs2, e2, rel2⟩, dd, hl2⟩ := d.rd.raw I.hok
      refine ⟨xs', raw, e', hs, rel, ⟨o, es, ep, h1, h2, h3, h4, ?_, h5⟩, by have := Paired.length rel; omega, kk, by rw [q']; exact True.intro⟩
      obtain ⟨o2, es2, ep2, g1, g2, g3, g4, g5, g6⟩ := dd
      rw [h1] at g1
      cases g1
      rw [h3] at g3
      cases g3
      have er : raw.map (fun x => (x.1, x.2.1)) = raw.map (fun x => (x.1, x.2.1)) := rfl
      have all : ∀ {l : XN} {m : List (Dt × Addr × Value)}, KTN l m → KeysN H l → ∀ x ∈ m, (datKind X.prog X.w).is s.heap x.1 x.2.1 := by
        intro l m q
        induction q with
        | nil => intro _ x hx; exact nomatch hx
        | @cons p q ps qs hq t ih =>
          intro hk x hx
          rcases List.mem_cons.mp hx with e | hx
          · subst e
            have := hk p List.mem_cons_self
            rw [← hq.1, ← hq.2.1]
            exact ⟨DR.da I.hok this.1 rfl, this.2⟩
          · exact ih (fun y hy => hk y (List.mem_cons_of_mem _ hy)) x hx
      exact all rel kk
    · obtain ⟨_, hs, vs, rel, o, es, ep, h1, h2, h3, _, h4, _⟩ := dk_of I.hok ea
      cases rel
      have e0 : es.toList = [] := by
        generalize es.toList = L at h4
        cases h4
        rfl
      exact ⟨[], [], rfl, hs, .nil, ⟨o, es, ep, h1, h2, h3, by simpa using e0, (fun x hx => by cases hx), List.nodup_nil⟩, by simp, (fun x hx => by cases hx), by rw [ea]; exact True.intro⟩
  subst e
  have hz : raw.length ≤ sizeLine := Nat.le_of_lt (small1000 hlen)
  have ntup : ∀ c ys, H c = some (.tup ys) → c ≠ a := fun c ys r z => by subst z; rw [r] at mu; exact mu
  refine wpAny_setItem_heap (hsz := hz) (datRoom hu) (n_is I hk hd) dd fun h' dd' hsb => ?_
  obtain ⟨q, es, ep, hq, h2, h3, h4, _, h5⟩ := dd'
  have tk : Tk H (upd H a (dN X.prog X.w a (putN xs k b v))) := fun c ys ec => by rw [upd_ne (ntup c ys ec)]; exact ec
  refine h (dN X.prog X.w a (putN xs k b v)) _ (d_write I mu hsb ⟨q, hq⟩ (dNp_ext ⟨hs, _, rel.put k b rv, q, es, ep, hq, h2, h3, h4, h5⟩)) ⟨putN xs k b v, (prs_put xs k b v).symm, upd_same, fun x hx => ?_, ?_⟩ tk
  · have : (x.1 = k ∧ x.2.1 = b) ∨ ∃ y ∈ xs, x.1 = y.1 ∧ x.2.1 = y.2.1 := by
      unfold putN at hx
      split at hx
      · obtain ⟨y, hy, rfl⟩ := List.mem_map.mp hx
        refine .inr ⟨y, hy, ?_⟩
        split <;> exact ⟨rfl, rfl⟩
      · rcases List.mem_append.mp hx with hx | hx
        · exact .inr ⟨x, hx, rfl, rfl⟩
        · rw [List.mem_singleton] at hx
          subst hx
          exact .inl ⟨rfl, rfl⟩
    rcases this with ⟨e1, e2⟩ | ⟨y, hy, e1, e2⟩
    · rw [e1, e2]; exact ⟨hk.mono tk, hd⟩
    · rw [e1, e2]; exact ⟨(hkeys y hy).1.mono tk, (hkeys y hy).2⟩
  · unfold putN
    split
    · rw [List.length_map]; simp [prs] at hl; omega
    · rw [List.length_append]; simp [prs] at hl ⊢; omega
end
end L2
set_option Elab.async false
set_option linter.all false
set_option maxRecDepth 100000
set_option maxHeartbeats 4000000
namespace PySem
open Sem (wp)
def DictRw (h : Heap) (d : Addr) (es : Array DictEntry) (ep : Nat) : Prop := ∃ o, h.get? d = some o ∧ o.ExactDict ∧ o.data = .dict es ep
theorem DictRw.at {h h' : Heap} {d : Addr} {es : Array DictEntry} {ep : Nat} (x : DictRw h d es ep) (e : ∀ o, h.get? d = some o → h'.get? d = some o) : DictRw h' d es ep := let ⟨o, ho, r⟩ := x; ⟨o, e _ ho, r⟩
theorem DictRw.typeIs {s : Shared} {d : Addr} {es : Array DictEntry} {ep : Nat} (x : DictRw s.heap d es ep) : s.TypeIs (.ref d) "dict" := let ⟨o, ho, hc, _⟩ := x; ⟨o, ho, hc.1⟩
section
variable {prog : Program} {w : World} {A : Around} {E : Value → Shared → Prop} {s : Shared} {d it : Addr} {es : Array DictEntry} {ep i : Nat}
abbrev kitObj (d : Addr) (n ep : Nat) : Obj := { cls := .type "dict_keyiterator", data := .fields #[.ref d, .int 0 0, .int n 0, .int ep 0] }
theorem rw_iter {Q : Value → Shared → Prop} (lo : (d == sysModules) = false) (hm : DictRw s.heap d es ep) (hQ : Q (.ref s.heap.objs.size) { s with heap := s.heap.push (kitObj d es.size ep) }) : wpAny (model prog w) A (pyIter (.ref d)) Q E s := by
  have hT := hm.typeIs
  obtain ⟨o, ho, hc, hdat⟩ := hm
  refine wpAny_pyIter_slot hT F.slot_dict_iter (wpAny_call_entry F.slot_dict_iter hT F.entry_dict_iter ?_ (F.args_dict_iter_1 _))
  unfold Builtin.«dict.__iter__»
  refine wpAny_bind ?_
  unfold Builtin.Dict.dictSlotNone
  refine wpAny_bind (wpAny_notOrdered_dict hT (wpAny_pure ?_)); (show wpAny _ _ (Builtin.Dict.showsAll d >>= _) _ _ s)
  unfold Builtin.Dict.showsAll; rw [if_neg (by rw [lo]; exact Bool.false_ne_true)]
  refine wpAny_bind (wpAny_pure (wpAny_bind (wpAny_dictEntries ho hdat (wpAny_bind (wpAny_dictEpoch ho hdat ?_)))))
  refine wpAny_bind (wpAny_newObj_type (wpAny_pure ⟨_, rfl, "dict_keyiterator", _, ⟨_, Heap.get?_push_size _ rfl, rfl⟩, F.slot_dict_keyiterator_next.lookup, ?_⟩)); simpa [rawInt] using hQ
theorem rw_next {Q : Option Value → Shared → Prop} (hit : s.heap.IsKeyIter it d i es.size ep) (hm : DictRw s.heap d es ep) (hi : i < es.size)
    (hQ : ∀ h', h'.IsKeyIter it d (i + 1) es.size ep → Heap.SameBut it s.heap h' → Q (some es[i].key) { s with heap := h' }) : wpAny (model prog w) A (pyNext (.ref it)) Q E s := by
  obtain ⟨o, ho, hc, hd⟩ := id hit
  obtain ⟨od, hod, hcd, hdd⟩ := id hm
  unfold pyNext
  refine wpAny_bind (wpAny_attempt (wpAny_callSpecial?_slot (name := Str.ofString "__next__") hit.typeIs F.slot_dict_keyiterator_next (wpAny_call_entry F.slot_dict_keyiterator_next hit.typeIs F.entry_dict_keyiterator_next ?_ (F.args_dict_keyiterator_next_1 _))))
  refine wpAny_bind (wpAny_pure (wpAny_bind (wpAny_bind ?_)))
  first | refine wpAny_bind (wpAny_typeNameOfWhole_keyiter hit.typeIs (wpAny_pure (wpAny_bind (wpAny_fieldsOf ho hd ?_)))) | refine wpAny_bind (wpAny_typeNameOf_keyiter hit.typeIs (wpAny_pure (wpAny_bind (wpAny_fieldsOf ho hd ?_))))
  simp only [show Builtin.Dict_items.ownsTuple "dict_keyiterator" = false by decide, Bool.false_eq_true, if_false]
  show wpAny _ _ (if (Value.ref d == Value.none) = true then _ else _) _ _ s; rw [if_neg (show ¬ ((Value.ref d == Value.none) = true) from Bool.false_ne_true)]
  refine wpAny_bind (wpAny_pure (wpAny_bind (wpAny_dictEntries hod hdd ?_))); rw [if_neg (by simp)]
  refine wpAny_bind (wpAny_pure (wpAny_bind (wpAny_dictEpoch hod hdd ?_))); rw [if_neg (by simp)]
  refine wpAny_pure ?_; simp only [show ¬ ((i : Int) < 0) from by omega, if_false, Int.toNat_natCast, Array.getElem?_eq_getElem hi]
  refine wpAny_bind ?_
  first | refine wpAny_bind (wpAny_typeNameOfWhole_keyiter hit.typeIs (wpAny_pure (wpAny_bind (wpAny_isOneOf_keyiter hit.typeIs ?_)))) | refine wpAny_bind (wpAny_typeNameOf_keyiter hit.typeIs (wpAny_pure (wpAny_bind (wpAny_isOneOf_keyiter hit.typeIs ?_))))
  show wpAny _ _ (setField (.ref it) 1 (rawInt ((i : Int) + 1)) >>= _) _ _ s; refine wpAny_bind (wpAny_setField ho hd (by simp) ?_)
  have hit' : (s.heap.update it (Obj.mapFields (·.setIfInBounds 1 (rawInt ((i : Int) + 1))))).IsKeyIter it d (i + 1) es.size ep := ⟨_, Heap.get?_update_self _ ho (Obj.isFreed_of_fields (Obj.data_mapFields hd _)), (Obj.cls_mapFields ..).trans hc, by rw [Obj.data_mapFields hd]; simp [rawInt]⟩
  refine wpAny_bind (wpAny_holding (wpAny_bind (wpAny_isOneOf_keyiter (s := { s with heap := s.heap.update it (Obj.mapFields (·.setIfInBounds 1 (rawInt ((i : Int) + 1)))) }) hit'.typeIs ?_)))
  show wpAny _ _ (pure es[i].key) _ _ _; exact wpAny_pure (wpAny_pure ⟨_, rfl, wpAny_pure (hQ _ hit' (Heap.SameBut.update ..))⟩)
theorem rw_end {Q : Option Value → Shared → Prop} (hh : A.handled = none) (hit : s.heap.IsKeyIter it d i es.size ep) (hm : DictRw s.heap d es ep) (hi : es.size ≤ i)
    (hQ : ∀ h', Heap.ExtBut it s.heap h' → Q none { s with heap := h' }) : wpAny (model prog w) A (pyNext (.ref it)) Q E s := by
  obtain ⟨o, ho, hc, hd⟩ := id hit
  obtain ⟨od, hod, hcd, hdd⟩ := id hm
  unfold pyNext
  refine wpAny_bind (wpAny_attempt (wpAny_callSpecial?_slot (name := Str.ofString "__next__") hit.typeIs F.slot_dict_keyiterator_next (wpAny_call_entry F.slot_dict_keyiterator_next hit.typeIs F.entry_dict_keyiterator_next ?_ (F.args_dict_keyiterator_next_1 _))))
  refine wpAny_bind (wpAny_pure (wpAny_bind (wpAny_bind ?_)))
  first | refine wpAny_bind (wpAny_typeNameOfWhole_keyiter hit.typeIs (wpAny_pure (wpAny_bind (wpAny_fieldsOf ho hd ?_)))) | refine wpAny_bind (wpAny_typeNameOf_keyiter hit.typeIs (wpAny_pure (wpAny_bind (wpAny_fieldsOf ho hd ?_))))
  simp only [show Builtin.Dict_items.ownsTuple "dict_keyiterator" = false by decide, Bool.false_eq_true, if_false]
  show wpAny _ _ (if (Value.ref d == Value.none) = true then _ else _) _ _ s; rw [if_neg (show ¬ ((Value.ref d == Value.none) = true) from Bool.false_ne_true)]
  refine wpAny_bind (wpAny_pure (wpAny_bind (wpAny_dictEntries hod hdd ?_))); rw [if_neg (by simp)]
  refine wpAny_bind (wpAny_pure (wpAny_bind (wpAny_dictEpoch hod hdd ?_))); rw [if_neg (by simp)]
  refine wpAny_pure ?_; simp only [show ¬ ((i : Int) < 0) from by omega, if_false, Int.toNat_natCast, Array.getElem?_eq_none hi]
  refine wpAny_bind ?_
  first | refine wpAny_bind (wpAny_typeNameOfWhole_keyiter hit.typeIs (wpAny_pure ?_)) | refine wpAny_bind (wpAny_typeNameOf_keyiter hit.typeIs (wpAny_pure ?_)) | skip
  show wpAny _ _ (setField (.ref it) 0 .none >>= _) _ _ s; refine wpAny_bind (wpAny_setField ho hd (by simp) ?_)
  show wpAny _ _ (newExc (.type "StopIteration") [] >>= _) _ _ _; refine wpAny_bind ?_
  simp only [newExc, newTuple]; refine wpAny_bind (wpAny_newObj_type ?_ (by size_fits))
  refine wpAny_bind (m := firstArgMember _ _) (wpAny_of_eq (a := Value.none) (by first | rfl | (simp only [firstArgMember]; rfl)) (wpAny_newObj_type ?_ (by size_fits)))
  simp only [raiseNew]; refine wpAny_bind (wpAny_handled ?_); rw [show A.in1.handled = none from hh]
  refine wpAny_bind (wpAny_pure (wpAny_throw ?_)); refine wpAny_bind (wpAny_isInstance (T := "StopIteration") (b := true) ⟨_, Heap.get?_push_size _ rfl, rfl⟩ isSubtype_stop ?_)
  exact wpAny_pure (hQ _ (((Heap.SameBut.update ..).extBut.push _).push _))
theorem walks_rw (hh : A.handled = none) (I d : Addr) (hne : d ≠ I) (es : Array DictEntry) (ep : Nat) :
    Walks prog w A I [I, d] [I] es.size (fun i v => ∃ e, es[i]? = some e ∧ v = e.key) (fun i h => h.IsKeyIter I d i es.size ep ∧ DictRw h d es ep) where
  sub := fun b hb => by simp at hb; simp [hb]
  frame := fun _ _ _ st hk => ⟨st.1.at fun o e => hk I (by simp) o e, st.2.at fun o e => hk d (by simp) o e⟩
  item := fun i s Q E hi st hQ => rw_next st.1 st.2 hi fun h' hit' hs' => hQ _ h' s.toks ⟨es[i], by simp [hi], rfl⟩ ⟨hit', st.2.at fun o e => hs'.extBut d o hne e⟩ fun b o hb e => hs'.extBut b o (fun h => hb (by simp [h])) e
  done := fun s Q E st hQ => rw_end hh st.1 st.2 (Nat.le_refl _) fun h' he' => hQ h' s.toks fun b o hb e => he' b o (fun h => hb (by simp [h])) e
  self := fun _ _ _ _ st hQ => wpAny_pyIter_keyiter st.1 hQ
end
end PySem
namespace PySem.W
open PySem
section
variable {prog : Program} {w : World} {d r : Addr} {es : Array DictEntry} {ep : Nat}
theorem src_rw (lo : (d == sysModules) = false) : KdlSrc prog w "dict" d d es.size (fun i v => ∃ e, es[i]? = some e ∧ v = e.key) (fun h => DictRw h d es ep) where
  type := fun _ hm => hm.typeIs
  there := fun _ hm => let ⟨o, ho, _⟩ := hm; ⟨Heap.lt_size ho, Heap.lt_size ho⟩
  keep := fun _ _ hm hk => hm.at fun o e => hk d (.inl rfl) o e
  notList := by decide
  notTuple := by decide
  hint := fun _ _ _ _ hm hq => kdl_hint_dict hm.typeIs hq
  iter := fun _ s hh hm => ⟨_, _, (fun _ _ hq => rw_iter lo hm hq), walks_rw hh _ d (let ⟨o, ho, _⟩ := hm; Nat.ne_of_lt (Heap.lt_size ho)) es ep, ⟨⟨_, Heap.get?_push_size _ rfl, rfl, rfl⟩, hm.at fun o e => Heap.get?_push_of_some _ e⟩⟩
theorem keysIter_rw {A : Around} {E : Value → Shared → Prop} {s : Shared} {v : Addr} {Q : Value → Shared → Prop} (hv : KdlKeysView s.heap v d) (hm : DictRw s.heap d es ep) (hQ : Q (.ref s.heap.objs.size) { s with heap := s.heap.push (kitObj d es.size ep) }) : wpAny (model prog w) A (pyIter (.ref v)) Q E s := by
  obtain ⟨ov, hov, hcv, hdv⟩ := id hv
  obtain ⟨o, ho, hc, hdat⟩ := id hm
  refine wpAny_pyIter_slot hv.typeIs kdl_slot_keys_iter (wpAny_call_entry kdl_slot_keys_iter hv.typeIs kdl_entry_keys_iter ?_ (kdl_args_keys_iter _))
  unfold Builtin.«dict_keys.__iter__»; refine wpAny_bind (wpAny_pure (wpAny_bind ?_))
  unfold Builtin.Dict_items.dictOf; refine wpAny_bind (wpAny_field hov hdv (x := .ref d) rfl (wpAny_pure (wpAny_bind ?_)))
  unfold Builtin.Dict_items.newIterator; refine wpAny_bind (wpAny_dictEntries ho hdat (wpAny_bind (wpAny_dictEpoch ho hdat ?_)))
  simp only [show Builtin.Dict_items.ownsTuple "dict_keyiterator" = false by decide, Bool.false_eq_true, if_false]
  refine wpAny_newObj_type (wpAny_pure ⟨_, rfl, "dict_keyiterator", _, ⟨_, Heap.get?_push_size _ rfl, rfl⟩, PySem.F.slot_dict_keyiterator_next.lookup, ?_⟩); simpa [rawInt] using hQ
theorem src_keys : KdlSrc prog w "dict_keys" r d es.size (fun i v => ∃ e, es[i]? = some e ∧ v = e.key) (fun h => KdlKeysView h r d ∧ DictRw h d es ep) where
  type := fun _ hm => hm.1.typeIs
  there := fun _ hm => ⟨let ⟨_, ho, _⟩ := hm.1; Heap.lt_size ho, let ⟨_, ho, _⟩ := hm.2; Heap.lt_size ho⟩
  keep := fun _ _ hm hk => ⟨let ⟨o, ho, x⟩ := hm.1; ⟨o, hk r (.inl rfl) o ho, x⟩, hm.2.at fun o e => hk d (.inr rfl) o e⟩
  notList := by decide
  notTuple := by decide
  hint := fun _ _ _ _ hm hq => kdl_hint_keys hm.1.typeIs hq
  iter := fun _ _ hh hm => ⟨_, _, (fun _ _ hq => keysIter_rw hm.1 hm.2 hq), walks_rw hh _ d (let ⟨o, ho, _⟩ := hm.2; Nat.ne_of_lt (Heap.lt_size ho)) es ep, ⟨⟨_, Heap.get?_push_size _ rfl, rfl, rfl⟩, hm.2.at fun o e => Heap.get?_push_of_some _ e⟩⟩
end
end PySem.W
set_option Elab.async false
set_option linter.all false
set_option maxRecDepth 100000
set_option maxHeartbeats 4000000
namespace PySem.W
open PySem PySem.Spec PySem.Calls PyProof.Rows
section
variable {prog : Program} {w : World} {A : Around} {E : Value → Shared → Prop} {K : Frag} {x D : Addr} {h : Heap} {g : Array GenState} {d : Drawn} {t : Nat} {os : OsState}
end
end PySem.W
set_option Elab.async false
set_option linter.all false
set_option maxRecDepth 100000
set_option maxHeartbeats 4000000
namespace L2
open PySem PySem.Spec PyProof.Rows
section
variable {P : Program} {w : World} {H H' : Hp} {h h' g : Heap} {a : Addr} {o : HO}
end
section
variable {X : Cx} {pins : List (Addr × Obj)} {σ : St} {H H' : Hp} {s s' : Shared} {ea C : Addr}
end
section
variable {P : Program} {w : World} {K : PySem.W.Frag} {mg : Str → Option Value} {base : Heap} {N : List Str} {qual : Str} {scope : Scope} {f : Addr} {cd : Value} {A : Around} {outer : List Env} {s : Shared} {H : Hp} {E : XK}
end
end L2
set_option Elab.async false
set_option linter.all false
set_option maxRecDepth 100000
set_option maxHeartbeats 4000000
namespace PySem.W
open PySem PySem.Spec PySem.Calls PyProof.Rows
section
variable {M : Model} {A : Around} {E : Value → Shared → Prop} {K : Frag} {x C D : Addr} {b : Bool} {h : Heap} {g : Array GenState} {d : Drawn} {t : Nat} {os : OsState}
end
end PySem.W
namespace L2
open PySem PySem.Spec PyProof.Rows
section
variable {P : Program} {w : World} {K : PySem.W.Frag} {mg : Str → Option Value} {base : Heap} {N : List Str} {qual : Str} {scope : Scope} {f : Addr} {cd : Value} {A : Around} {outer : List Env} {s : Shared} {H : Hp} {E : XK}
end
end L2
set_option Elab.async false
set_option linter.all false
set_option maxRecDepth 100000
set_option maxHeartbeats 4000000
namespace L2
open PySem PySem.Spec PyProof.Rows
abbrev HR := Ends → Addr → St → Hp → Prop
section
variable {X : Cx} {pins : List (Addr × Obj)} {σ : St} {H H' : Hp} {s s' : Shared} {ea C : Addr}
end
section
variable {X : Cx} {x n : Str} {np pos : Pos} {i : Nat} {b0 : Stmt} {suite : List Stmt} {rest : List ExceptHandler} {ts : TS} {r : HR} {Da : Addr}
end
end L2
set_option Elab.async false
set_option linter.all false
set_option maxRecDepth 100000
set_option maxHeartbeats 4000000
namespace L2
open PySem PySem.Spec PyProof.Rows
end L2
set_option Elab.async false
set_option linter.all false
set_option maxRecDepth 100000
set_option maxHeartbeats 4000000
namespace L2
open PySem PySem.Spec PyProof.Rows
section
variable {prog : Program} {w : World} {A : Around} {E : Value → Shared → Prop} {s : Shared}
end
section
variable {prog : Program} {w : World} {A : Around} {E : Value → Shared → Prop} {s : Shared} {R : Result → Shared → Prop}
end
end L2
set_option Elab.async false
set_option linter.all false
set_option maxRecDepth 100000
set_option maxHeartbeats 4000000
namespace L2
open PySem PySem.Spec PyProof.Rows
section
variable {prog : Program} {w : World} {A : Around} {E : Value → Shared → Prop} {s : Shared}
end
end L2
set_option Elab.async false
set_option linter.all false
set_option maxRecDepth 100000
set_option maxHeartbeats 4000000
namespace L2
open PySem PySem.Spec PyProof.Rows
section
variable {prog : Program} {w : World} {A : Around} {E : Value → Shared → Prop} {s : Shared}
end
def ov (H N : Hp) : Hp := fun a => (N a).or (H a)
end L2
set_option Elab.async false
set_option linter.all false
set_option maxRecDepth 100000
set_option maxHeartbeats 4000000
namespace L2
open PySem PySem.Spec PyProof.Rows
end L2
set_option Elab.async false
set_option linter.all false
set_option maxRecDepth 100000
set_option maxHeartbeats 4000000
namespace L2
open PySem PySem.Spec PyProof.Rows
end L2
set_option Elab.async false
set_option linter.all false
set_option maxRecDepth 100000
set_option maxHeartbeats 4000000
namespace L2
open PySem PySem.Calls PySem.Spec PyProof.Rows PySem.W
def KyN (H : Hp) (y : V) (k : Dt) : Prop := ∃ b, y = .ref b ∧ DR H k y ∧ k.deep ≤ 8
def tNGet (P : Program) (w : World) (td ty : TE) : TE := fun σ H Q => td σ H fun x H1 => ty σ H1 fun y H2 => ∃ a k v kvs, x = .ref a ∧ DicR P w H2 a kvs ∧ KyN H2 y k ∧ valV kvs k = some v ∧ Q v H2
def sNPut (P : Program) (w : World) (td ty tv : TE) : TS := fun D σ H => tv σ H fun v H1 => td σ H1 fun x H2 => ty σ H2 fun y H3 => ∃ a k kvs, x = .ref a ∧ DicP P w H3 a kvs ∧ kvs.length < 1000 ∧ KyN H3 y k ∧ ∀ o, DicN P w (upd H3 a o) a (putK kvs k v) → Tk H3 (upd H3 a o) → D.nx σ (upd H3 a o)
def DicE (P : Program) (w : World) (H : Hp) (a : Addr) (kvs : List (Dt × V)) : Prop := DicR P w H a kvs ∨ (H a = some (.dK []) ∧ kvs = [])
def tNGet2 (P : Program) (w : World) (td ty tx : TE) : TE := fun σ H Q => td σ H fun x H1 => ∃ a kvs, x = .ref a ∧ DicE P w H1 a kvs ∧ ty σ H1 fun y H2 => tx σ H2 fun z H3 => ∃ k kvs, DicE P w H3 a kvs ∧ KyN H3 y k ∧ Q ((valV kvs k).getD z) H3
section
variable {X : Cx} {o i e f value : Expr} {pos pos' tpos apos cpos : Pos} {td ty tv tx : TE}
theorem e_raw {pins : List (Addr × Obj)} {σ : L2.St} {H : Hp} {s : Shared} {a : Addr} {kvs : List (Dt × V)} (I : Inv X pins σ H s) (d : DicE X.prog X.w H a kvs) : ∃ raw, (a == sysModules) = false ∧ (∃ xs, kvs = prs xs ∧ KTN xs raw) ∧ s.heap.DictOfH (datKind X.prog X.w) a raw ∧ raw.length ≤ 1000 := by
  rcases d with d | ⟨ea, rfl⟩
  · exact d.raw I.hok
  · obtain ⟨_, hs, vs, rel, o, es, ep, h1, h2, h3, _, h4, _⟩ := dk_of I.hok ea
    cases rel
    have e0 : es.toList = [] := by
      generalize es.toList = L at h4
      cases h4
      rfl
    exact ⟨[], hs, ⟨[], rfl, .nil⟩, ⟨o, es, ep, h1, h2, h3, by simpa using e0, (fun x hx => by cases hx), List.nodup_nil⟩, by simp⟩
theorem pe_nget (hu : X.A.units + 150 < cLine) (ho : PE X o td) (hi : PE X i ty) (hs : NoSl i) : PE X (.Subscript o i pos) (tNGet X.prog X.w td ty) := by
  intro pins s σ H Q I h
  refine subD_of PySem.F.slot_dict_getitem.lookup hs (thn (ho pins s σ H _ I h) fun u s1 ⟨x, H1, I1, rx, q1⟩ => thn (hi pins s1 σ H1 _ I1 q1) fun iv s2 ⟨y, H2, I2, ry, a, k, v, kvs, ex, d, ⟨b, eb, hk, hd⟩, hv, q2⟩ => ?_)
  subst ex eb
  obtain rfl : u = Value.ref a := rx
  obtain rfl : iv = Value.ref b := ry
  exact ⟨(n_type I2 d).1, n_getItem (by omega) I2 d hk hd hv fun w' s3 I3 rw' => ⟨v, H2, I3, rw', q2⟩⟩
theorem ps_nput (hu : X.A.units + 150 < cLine) (ho : PE X o td) (hi : PE X i ty) (hv : PE X value tv) (hs : swapsWith value (some (.Subscript o i pos')) pos.line X.env = pure false) :
    PS X (.Assign [.Subscript o i pos'] value pos) (sNPut X.prog X.w td ty tv) := by
  intro pins s σ H D I h
  refine wpAny_Assign_Subscript (thn (hv pins s σ H _ I h) fun r s1 ⟨v, H1, I1, rv, q1⟩ => thn (ho pins s1 σ H1 _ I1 q1) fun u s2 ⟨x, H2, I2, rx, q2⟩ => thn (hi pins s2 σ H2 _ I2 q2) fun iv s3 ⟨y, H3, I3, ry, a, k, kvs, ex, d, hl, ⟨b, eb, hk, hd⟩, q3⟩ => ?_) hs
  subst ex eb
  obtain rfl : u = Value.ref a := rx
  obtain rfl : iv = Value.ref b := ry
  exact n_setItem (by omega) I3 d hl hk hd rv fun o s4 I4 d4 t4 => ⟨σ, _, I4, q3 o d4 t4⟩
theorem pe_nget2 (hu : X.A.units + 150 < cLine) (ho : PE X o td) (he : PE X e ty) (hf : PE X f tx) (m : M2 X o "get" apos e f cpos) : PE X (.Call (.Attribute o "get" apos) [e, f] [] cpos) (tNGet2 X.prog X.w td ty tx) := by
  intro pins s σ H Q I h
  refine wpAny_Call_method m.base m.few m.line PySem.F.plainAttrs_dict PySem.F.slot_dict_get PySem.F.type_dict_get (thn (ho pins s σ H _ I h) fun u s1 ⟨x, H1, I1, rx, a, kvs1, ex, d, q1⟩ => ?_)
  subst ex
  obtain rfl : u = Value.ref a := rx
  obtain ⟨raw, hs, _, dd, _⟩ := e_raw I1 d
  refine ⟨dd.typeIs, fun c q => ?_, ?_⟩
  · cases q
    obtain ⟨ob, _, _, h1, h2, _⟩ := dd
    exact ⟨ob, h1, h2.2.1⟩
  rw [m.trees]
  refine Calls.callWith_builtin rfl (Calls.evalArgs_plain (Calls.spliced_cons (thn (he pins s1 σ H1 _ I1 q1) fun iv s2 ⟨y, H2, I2, ry, q2⟩ =>
    Calls.spliced_cons (thn (hf pins s2 σ H2 _ I2 q2) fun fv s3 ⟨z, H3, I3, rz, k, kvs, d3, ⟨b, eb, hk, hd⟩, q3⟩ => Calls.spliced_nil ?_))))
  subst eb
  obtain rfl : iv = Value.ref b := ry
  obtain ⟨raw3, hs3, ⟨xs, e3, rel⟩, dd3, _⟩ := e_raw I3 d3
  subst e3
  refine call_meetsIn PySem.F.slot_dict_get dd3.typeIs PySem.F.entry_dict_get (PySem.F.args_dict_get_3 _ _ _) (meetsH_dict_get_default (datKind X.prog X.w) a b hs3 fv) ⟨datRoom (by omega), k, raw3, n_is I3 hk hd, dd3, ?_⟩
  exact ⟨_, H3, I3.tok _, (rel.val k).getD rz, q3⟩
def keysO (p d : Addr) : HO := .ext fun h => KdlKeysView h p d
theorem keys_of_raw {H : Hp} {h : Heap} {P : Program} {w : World} (ok : HOk P w H h) {a : Addr} {kvs : List (Dt × V)} (d : DicE P w H a kvs) : ∃ (es : Array DictEntry) (ep : Nat), (a == sysModules) = false ∧ DictRw h a es ep ∧ es.size = kvs.length ∧ es.size ≤ 1000 ∧ (kvs.map (·.1)).Nodup ∧ ∃ vs : List V, DRs H (kvs.map (·.1)) vs ∧ ∀ acc : List Value, acc.length = es.size → (∀ (j : Nat) (v : Value), acc[j]? = some v → ∃ e : DictEntry, es[j]? = some e ∧ v = e.key) → Vals vs acc := by
  rcases d with d | ⟨ea, rfl⟩
  rotate_left
  · obtain ⟨_, hs, vs, rel, o, es, ep, h1, h2, h3, _, h4, _⟩ := dk_of ok ea
    cases rel
    have e0 : es.toList = [] := by
      generalize es.toList = L at h4
      cases h4
      rfl
    have e1 : es.size = 0 := by rw [← Array.length_toList, e0]; rfl
    exact ⟨es, ep, hs, ⟨o, h1, h2, h3⟩, e1, by omega, List.nodup_nil, [], .nil, fun acc ha _ => by
      have : acc = [] := List.length_eq_zero_iff.mp (by omega)
      subst this
      exact .nil⟩
  obtain ⟨xs, e, r, k, l⟩ := d
  obtain ⟨⟨hs, raw, rel, o, es, ep, h1, h2, h3, h4, h5⟩, hX⟩ := r.ok ok
  clear hX
  subst e
  have hl : raw.length = xs.length := (Paired.length rel).symm
  have hes : es.size = raw.length := by rw [← Array.length_toList, h4, List.length_map]
  refine ⟨es, ep, hs, ⟨o, h1, h2, h3⟩, by rw [hes, hl]; simp [prs], by omega, ?_, xs.map (fun x => .ref x.2.1), ?_, fun acc ha hj => ?_⟩
  · have ek : ∀ {l : XN} {m : List (Dt × Addr × Value)}, KTN l m → (prs l).map (·.1) = m.map (·.1) := by
      intro l m q
      induction q with
      | nil => rfl
      | @cons p q ps qs hq t ih =>
        show p.1 :: (prs ps).map (·.1) = q.1 :: qs.map (·.1)
        rw [ih, hq.1]
    rw [ek rel]
    exact h5
  · have : ∀ {l : XN}, KeysN H l → DRs H ((prs l).map (·.1)) (l.map fun x => .ref x.2.1) := by
      intro l
      induction l with
      | nil => intro _; exact .nil
      | cons x l ih => intro hk; exact .cons (hk x List.mem_cons_self).1 (ih fun y hy => hk y (List.mem_cons_of_mem _ hy))
    exact this k
  · have hk : acc = raw.map (fun q => Value.ref q.2.1) := by
      refine List.ext_getElem? fun j => ?_
      by_cases c : j < acc.length
      · obtain ⟨e, he, hv⟩ := hj j _ (List.getElem?_eq_getElem c)
        rw [List.getElem?_eq_getElem c, hv, List.getElem?_map]
        rw [← Array.getElem?_toList, h4, List.getElem?_map] at he
        obtain ⟨q, hq, rfl⟩ := Option.map_eq_some_iff.mp he
        rw [hq]
        rfl
      · rw [List.getElem?_eq_none (by omega), List.getElem?_eq_none (by rw [List.length_map]; omega)]
    rw [hk]
    clear hj hk h4 h5 l hl hes k r ha
    induction rel with
    | nil => exact .nil
    | @cons p q ps qs hq t ih => exact .cons (by show Value.ref q.2.1 = Value.ref p.2.1; rw [hq.2.1]) ih
def rSortN (P : Program) (w : World) : List V → Hp → VK → Prop := fun xs H Q => ∃ (d : Addr) (kvs : List (Dt × V)), xs = [.ref d] ∧ DicE P w H d kvs ∧ SrtOk (kvs.map (·.1)) ∧
  ∀ (l' : Addr) (ws : List V), H l' = none → (kvs.map (·.1)).Nodup → DRs H (sortD (kvs.map (·.1))) ws → Q (.ref l') (upd H l' (.lst ws))
theorem call_sortedN (hc : X.calm = true) (hu : X.A.units + 150 < cLine) : CallR X (.builtin "sorted") (rSortN X.prog X.w) := by
  intro pins s σ H xs us Q I r h
  obtain ⟨d, kvs, rfl, hdd, so, q⟩ := h
  obtain ⟨u, rfl, ru⟩ := vals1 r
  cases ru
  obtain ⟨es, ep, lo, hrw, hsz, hle, hnd, vs, hd, hvals⟩ := keys_of_raw I.hok hdd
  generalize kvs.map (·.1) = ds at so hd q hnd
  have line : es.size ≤ sizeLine := Nat.le_of_lt (small1000 hle)
  refine Calls.call_function_entry kind_sorted plain_sorted entry_sorted (args_sorted1 _) ?_
  unfold Builtin.«sorted»
  refine wpAny_bind (m := checkCount "sorted" 1 1 _) (wpAny_pure ?_)
  refine wpAny_bind (PySem.W.kdu_collect (A := X.A.in1) (PySem.W.src_rw (es := es) (ep := ep) lo) (I.ok.hd hc) hrw line fun h1 tk acc hk1 hacc => ?_)
  have la : acc.toList.length = es.size := by rw [Array.length_toList]; exact hacc.1
  have rv0 : Vals vs acc.toList := hvals acc.toList la fun j v hv => hacc.2 j v (by rw [← Array.getElem?_toList]; exact hv)
  generalize acc.toList = its at la rv0 ⊢
  have rv : Vals vs its := rv0
  have hld0 : ds.length = vs.length := hd.length
  have hlv : its.length = vs.length := rv.length.symm
  have I1 : Inv X pins σ H { s with heap := h1, toks := tk } := I.kept hk1
  refine wpAny_bind (wpAny_newList ?_ (by rw [la]; exact line))
  have hoL : (h1.push { cls := .type "list", data := .seq its.toArray }).get? h1.objs.size = some (seqObj "list" its.toArray 0) := Heap.get?_push_size _ rfl
  have keepT : ∀ b x, h1.IsTuple b x → (h1.push { cls := .type "list", data := .seq its.toArray }).IsTuple b x := fun b x hb => istup_kept (fun b o _ e => Heap.get?_push_of_some _ e) hb
  have hda0 : DAs h1 ds its := DRs.da I1.hok hd rv
  have hda : DAs (h1.push { cls := .type "list", data := .seq its.toArray }) ds its := hda0.kept keepT
  have hld : ds.length = vs.length := hd.length
  have hdl : its.length = ds.length := by omega
  refine wpAny_bind (wpAny_holding (wpAny_call_entry slot_list_sort ⟨_, hoL, rfl⟩ entry_list_sort (list_sort_datA (m := 100) hoL hda so.heads so.cmp so.deep (by have := so.few; omega) (by show X.A.units + 1 + 1 + 100 < cLine; omega) fun ws pw od => ⟨_, rfl, ?_⟩) (args_list_sort _)))
  have hwl : ws.length = ds.length := by rw [pw.length_eq]; exact hdl
  obtain ⟨e, he⟩ : ∃ e, (sortedHeap (h1.push { cls := .type "list", data := .seq its.toArray }) h1.objs.size its ws.toArray).get? h1.objs.size = some (seqObj "list" ws.toArray e) := sortedHeap_at hoL
  have hn1 := I1.hok.fresh (Nat.le_refl h1.objs.size)
  obtain ⟨v1, v2⟩ := pick_abs I1.hok rv hd (heads_tup so.heads) (ws := ws) fun u hu => pw.mem_iff.mp hu
  have eqd : ws.map (dtOf h1) = sortD ds := by
    rw [← od]
    refine List.map_congr_left fun u hu => ?_
    obtain ⟨d, _, rd⟩ := da_mem hda0 (pw.mem_iff.mp hu)
    rw [dtOf_eq rd, dtOf_eq (rd.kept keepT)]
  rw [eqd] at v2
  refine wpAny_pure ⟨_, rfl, ⟨.ref h1.objs.size, upd H h1.objs.size (.lst (ws.map absR)), I1.laid (t' := tk) (a := h1.objs.size) (o := .lst (ws.map absR)) (fun b o hb => ?_) (Nat.le_refl _) ⟨?_, _, e, v1, ?_⟩, rfl, q _ _ hn1 hnd v2⟩⟩
  · rw [sortedHeap_old (Nat.ne_of_lt (Heap.lt_size hb)) (by rw [Heap.size_push]; exact Nat.lt_succ_of_lt (Heap.lt_size hb))]
    exact Heap.get?_push_of_some _ hb
  · rw [List.length_map, hwl]
    exact Nat.le_of_lt (small1000 so.few)
  · rw [he]
def rSortV (P : Program) (w : World) : List V → Hp → VK → Prop := fun xs H Q => ∃ (p d : Addr) (kvs : List (Dt × V)), xs = [.ref p] ∧ H p = some (keysO p d) ∧ DicE P w H d kvs ∧ SrtOk (kvs.map (·.1)) ∧
  ∀ (l' : Addr) (ws : List V), H l' = none → (kvs.map (·.1)).Nodup → DRs H (sortD (kvs.map (·.1))) ws → Q (.ref l') (upd H l' (.lst ws))
theorem call_sortedV (hc : X.calm = true) (hu : X.A.units + 150 < cLine) : CallR X (.builtin "sorted") (rSortV X.prog X.w) := by
  intro pins s σ H xs us Q I r h
  obtain ⟨p0, d, kvs, rfl, hp0, hdd, so, q⟩ := h
  obtain ⟨u, rfl, ru⟩ := vals1 r
  cases ru
  obtain ⟨hview, _⟩ := (show ObjOk X.prog X.w H s.heap p0 (keysO p0 d) from I.hok p0 _ hp0)
  obtain ⟨es, ep, lo, hrw, hsz, hle, hnd, vs, hd, hvals⟩ := keys_of_raw I.hok hdd
  generalize kvs.map (·.1) = ds at so hd q hnd
  have line : es.size ≤ sizeLine := Nat.le_of_lt (small1000 hle)
  refine Calls.call_function_entry kind_sorted plain_sorted entry_sorted (args_sorted1 _) ?_
  unfold Builtin.«sorted»
  refine wpAny_bind (m := checkCount "sorted" 1 1 _) (wpAny_pure ?_)
  refine wpAny_bind (PySem.W.kdu_collect (A := X.A.in1) (PySem.W.src_keys (r := p0) (d := d) (es := es) (ep := ep)) (I.ok.hd hc) ⟨hview, hrw⟩ line fun h1 tk acc hk1 hacc => ?_)
  have la : acc.toList.length = es.size := by rw [Array.length_toList]; exact hacc.1
  have rv0 : Vals vs acc.toList := hvals acc.toList la fun j v hv => hacc.2 j v (by rw [← Array.getElem?_toList]; exact hv)
  generalize acc.toList = its at la rv0 ⊢
  have rv : Vals vs its := rv0
  have hld0 : ds.length = vs.length := hd.length
  have hlv : its.length = vs.length := rv.length.symm
  have I1 : Inv X pins σ H { s with heap := h1, toks := tk } := I.kept hk1
  refine wpAny_bind (wpAny_newList ?_ (by rw [la]; exact line))
  have hoL : (h1.push { cls := .type "list", data := .seq its.toArray }).get? h1.objs.size = some (seqObj "list" its.toArray 0) := Heap.get?_push_size _ rfl
  have keepT : ∀ b x, h1.IsTuple b x → (h1.push { cls := .type "list", data := .seq its.toArray }).IsTuple b x := fun b x hb => istup_kept (fun b o _ e => Heap.get?_push_of_some _ e) hb
  have hda0 : DAs h1 ds its := DRs.da I1.hok hd rv
  have hda : DAs (h1.push { cls := .type "list", data := .seq its.toArray }) ds its := hda0.kept keepT
  have hld : ds.length = vs.length := hd.length
  have hdl : its.length = ds.length := by omega
  refine wpAny_bind (wpAny_holding (wpAny_call_entry slot_list_sort ⟨_, hoL, rfl⟩ entry_list_sort (list_sort_datA (m := 100) hoL hda so.heads so.cmp so.deep (by have := so.few; omega) (by show X.A.units + 1 + 1 + 100 < cLine; omega) fun ws pw od => ⟨_, rfl, ?_⟩) (args_list_sort _)))
  have hwl : ws.length = ds.length := by rw [pw.length_eq]; exact hdl
  obtain ⟨e, he⟩ : ∃ e, (sortedHeap (h1.push { cls := .type "list", data := .seq its.toArray }) h1.objs.size its ws.toArray).get? h1.objs.size = some (seqObj "list" ws.toArray e) := sortedHeap_at hoL
  have hn1 := I1.hok.fresh (Nat.le_refl h1.objs.size)
  obtain ⟨v1, v2⟩ := pick_abs I1.hok rv hd (heads_tup so.heads) (ws := ws) fun u hu => pw.mem_iff.mp hu
  have eqd : ws.map (dtOf h1) = sortD ds := by
    rw [← od]
    refine List.map_congr_left fun u hu => ?_
    obtain ⟨d, _, rd⟩ := da_mem hda0 (pw.mem_iff.mp hu)
    rw [dtOf_eq rd, dtOf_eq (rd.kept keepT)]
  rw [eqd] at v2
  refine wpAny_pure ⟨_, rfl, ⟨.ref h1.objs.size, upd H h1.objs.size (.lst (ws.map absR)), I1.laid (t' := tk) (a := h1.objs.size) (o := .lst (ws.map absR)) (fun b o hb => ?_) (Nat.le_refl _) ⟨?_, _, e, v1, ?_⟩, rfl, q _ _ hn1 hnd v2⟩⟩
  · rw [sortedHeap_old (Nat.ne_of_lt (Heap.lt_size hb)) (by rw [Heap.size_push]; exact Nat.lt_succ_of_lt (Heap.lt_size hb))]
    exact Heap.get?_push_of_some _ hb
  · rw [List.length_map, hwl]
    exact Nat.le_of_lt (small1000 so.few)
  · rw [he]
theorem meets_keysRw (d : Addr) (lo : (d == sysModules) = false) : MeetsIn X.prog X.w (Builtin.«dict.keys» ⟨[.ref d], []⟩) (fun _ R s => (∃ es ep, DictRw s.heap d es ep) ∧
      R (.ok (.ret (.ref s.heap.objs.size))) { s with heap := s.heap.push { cls := .type "dict_keys", data := .fields #[.ref d] } }) :=
  .of_wp fun A R s ⟨⟨es, ep, hm⟩, h⟩ => by
    refine wpAny_bind ?_; unfold Builtin.Dict.noArgs
    refine wpAny_bind (wpAny_notOrdered_dict hm.typeIs ?_); (show wpAny _ _ (pure d) _ _ s); refine wpAny_pure ?_
    show wpAny _ _ (Builtin.Dict.showsAll d >>= _) _ _ s; unfold Builtin.Dict.showsAll; rw [if_neg (by rw [lo]; exact Bool.false_ne_true)]
    exact wpAny_bind (wpAny_pure (wpAny_bind (wpAny_newObj_type (wpAny_pure ⟨_, rfl, h⟩))))
def tNKeys (P : Program) (w : World) (td : TE) : TE := fun σ H Q => td σ H fun x H1 => ∃ (d : Addr) (kvs : List (Dt × V)), x = .ref d ∧ DicE P w H1 d kvs ∧ ∀ p, H1 p = none → Q (.ref p) (upd H1 p (keysO p d))
theorem pe_nkeys (ho : PE X o td) (hbase : attributeBase o "keys" X.env (eval o X.env) = eval o X.env := by rfl) (hline : (apos.endLine == cpos.line) = true := by rfl) : PE X (.Call (.Attribute o "keys" apos) [] [] cpos) (tNKeys X.prog X.w td) := by
  intro pins s σ H Q I h
  refine wpAny_Call_method0_late hbase hline (thn (ho pins s σ H _ I h) fun v s1 ⟨x, H1, I1, r1, d, kvs, ex, hd, q⟩ => ?_)
  subst ex
  obtain rfl : v = Value.ref d := r1
  obtain ⟨es, ep, lo, hrw, _⟩ := keys_of_raw I1.hok hd
  refine ⟨"dict", "dict.keys", PySem.F.plainAttrs_dict, PySem.F.slot_dict_keys, PySem.F.type_dict_keys, hrw.typeIs, fun a e => ?_, Calls.callWith_builtin rfl (PySem.evalArgs_none ?_)⟩
  · cases e
    obtain ⟨ob, h1, h2, _⟩ := hrw
    exact ⟨ob, h1, h2.2.1⟩
  refine call_meetsIn PySem.F.slot_dict_keys hrw.typeIs PySem.F.entry_dict_keys (PySem.F.args_dict_keys_1 _) (meets_keysRw d lo) ⟨⟨es, ep, hrw⟩, ?_⟩
  refine ⟨.ref s1.heap.objs.size, _, I1.laid (t' := s1.toks) (o := keysO s1.heap.objs.size d) (fun b u e => Heap.get?_push_of_some _ e) (Nat.le_refl _) ?_, rfl, q _ (I1.hok.fresh (Nat.le_refl _))⟩
  exact ⟨⟨_, Heap.get?_push_size _ rfl, rfl, rfl⟩, ⟨_, Heap.get?_push_size _ rfl⟩, fun h1 h2 ⟨o, e, r⟩ k => ⟨o, k o e, r⟩⟩
end
theorem DicP.e {P : Program} {w : World} {H : Hp} {a : Addr} {kvs : List (Dt × V)} : DicP P w H a kvs → DicE P w H a kvs
  | .inl d => .inl d.rd
  | .inr d => .inr d
theorem DicE.mono {P : Program} {w : World} {H H' : Hp} {a : Addr} {kvs : List (Dt × V)} (t : Tk H H') (e : H' a = H a) : DicE P w H a kvs → DicE P w H' a kvs
  | .inl d => .inl (d.mono t e)
  | .inr ⟨d, z⟩ => .inr ⟨e ▸ d, z⟩
theorem DicE.r {P : Program} {w : World} {H : Hp} {a : Addr} {kvs : List (Dt × V)} {k : Dt} {v : V} (hv : valV kvs k = some v) : DicE P w H a kvs → DicR P w H a kvs
  | .inl d => d
  | .inr ⟨_, z⟩ => by subst z; cases hv
theorem mem_valV {κ : Type} [DecidableEq κ] {kvs : List (κ × V)} {k : κ} : k ∈ kvs.map (·.1) ↔ (valV kvs k).isSome = true := by
  rw [← valV_any, List.any_eq_true]
  constructor
  · intro h
    obtain ⟨p, hp, rfl⟩ := List.mem_map.mp h
    exact ⟨p, hp, by simp⟩
  · rintro ⟨p, hp, e⟩
    exact List.mem_map.mpr ⟨p, hp, by simpa using e⟩
end L2
set_option Elab.async false
set_option linter.all false
set_option maxRecDepth 100000
set_option maxHeartbeats 4000000
namespace L2
open PySem PySem.Spec PyProof.Rows
def ItE (K : PySem.W.Frag) (a : Addr) (t : Bool) : It := if t = true then Itt K a else Itl K a
def SqE (K : PySem.W.Frag) (H : Hp) (a : Addr) (t : Bool) (xs : List V) : Prop := if t = true then SqT K H a xs else SqL K H a xs
def iSeq (K : PySem.W.Frag) (i : Nat) : TI := fun σ H R => ∃ a t xs, σ[i]? = some (some (.ref a)) ∧ SqE K H a t xs ∧ R (ItE K a t) H
theorem pi_seq {X : Cx} {tg l : Expr} {i : Nat} (he : PE X l (tVar i)) : PI X tg l (iSeq X.K i) := by
  intro pins s σ H R I h
  obtain ⟨a, t, xs, hv, hs, hR⟩ := h
  cases t with
  | true => exact pi_tup he pins s σ H R I ⟨_, hv, a, rfl, ⟨xs, hs⟩, hR⟩
  | false => exact pi_list he pins s σ H R I ⟨_, hv, a, rfl, ⟨xs, hs⟩, hR⟩
theorem for_seq {K : PySem.W.Frag} {a : Addr} {t : Bool} {xs : List V} {g : TG} {tb : TS} {D : Ends} {σ : L2.St} {H : Hp} (Pv : Nat → L2.St → Hp → Prop) (h0 : Pv 0 σ H) (hl : ∀ i σ H, i ≤ xs.length → Pv i σ H → SqE K H a t xs)
    (hs : ∀ i x σ H, xs[i]? = some x → Pv i σ H → g x σ H fun σ2 H2 => tb { D with nx := Pv (i + 1), ct := Pv (i + 1), bk := D.nx } σ2 H2) (hd : ∀ σ H, Pv xs.length σ H → D.nx σ H) :
    ∃ W : Nat → Nat → L2.St → Hp → Prop, (∃ m, W 0 m σ H) ∧ ∀ i m σ H, W i m σ H →
      ((ItE K a t).stop i H ∧ D.nx σ H) ∨ ((ItE K a t).go i H ∧ ∃ N : L2.St → Hp → Prop, (∀ σ' H', N σ' H' → ∃ m', m' < m ∧ W (i + 1) m' σ' H') ∧ ∀ x H', (ItE K a t).yld i H x H' → g x σ H' fun σ2 H2 => tb { D with nx := N, ct := N, bk := D.nx } σ2 H2) := by
  cases t with
  | true => exact for_tup Pv h0 hl hs hd
  | false => exact for_list Pv h0 hl hs hd
end L2
namespace PyProof.Rows
open PySem PySem.Calls
theorem collect_tup' {prog : Program} {w : World} {A : Around} {E : Value → Shared → Prop} {s : Shared} {l : Addr} {vs : List Value} {Q : List Value → Shared → Prop} (hl : s.heap.IsTuple l vs.toArray)
    (h : Q vs { s with heap := (s.heap.push (seqObj "list" #[] 0)).update s.heap.objs.size (Obj.mapSeq (· ++ vs.toArray)) }) (hsz : vs.length ≤ sizeLine) : wpAny (model prog w) A (collect (.ref l)) Q E s := by
  obtain ⟨o, ho, hc, n, hd⟩ := id hl
  unfold collect; refine wpAny_bind (wpAny_runValue (codeAny_builtin entry_proto_collect' ?_))
  show wpAny _ _ (do again (.builtin "list.__iadd__" ⟨[← newList [], .ref l], []⟩)) _ _ s; refine wpAny_bind (wpAny_newList (wpAny_pure ⟨Code.quiet_builtin _ (by decide +kernel), codeAny_builtin entry_list_iadd' ?_⟩))
  show wpAny _ _ (Builtin.List.listExtendWith (.ref s.heap.objs.size) (.ref l) (.ref s.heap.objs.size)) _ _ { s with heap := s.heap.push (seqObj "list" #[] 0) }; unfold Builtin.List.listExtendWith
  have ho' : (s.heap.push (seqObj "list" #[] 0)).get? l = some o := Heap.get?_push_of_some _ ho
  refine wpAny_bind (wpAny_typeOf (T := "tuple") ⟨o, ho', hc⟩ ?_); rw [if_pos (by rw [show (Value.type "tuple" == Value.type "tuple") = true by decide]; simp)]
  refine wpAny_bind (listItems_at ho' hd (wpAny_bind (listItems_at (xs := #[]) (n := 0) (Heap.get?_push_size _ rfl) rfl ?_))); rw [if_neg (by simp)]
  refine wpAny_bind (listUpdate_at (xs := #[]) (n := 0) (Heap.get?_push_size _ rfl) rfl (wpAny_pure ?_) (Nat.zero_le _) (by show (#[] ++ vs.toArray).size ≤ sizeLine + 1; simp only [Array.size_append, List.size_toArray, List.length_nil]; omega))
  refine wpAny_bind (wpAny_load (get?_update_seq (Heap.get?_push_size _ rfl) _) ?_)
  show wpAny _ _ (pure ((#[] : Array Value) ++ vs.toArray).toList) Q E _; rw [show ((#[] : Array Value) ++ vs.toArray).toList = vs by simp]; exact wpAny_pure h
end PyProof.Rows
namespace L2
open PySem PySem.Calls PySem.Spec PyProof.Rows PySem.W
section
variable {X : Cx}
def rSortTt : List V → Hp → VK → Prop := fun xs H Q => ∃ (l : Addr) (vs : List V) (ds : List Dt), xs = [.ref l] ∧ H l = some (.tup vs) ∧ DRs H ds vs ∧ SrtOk ds ∧
  ∀ (l' : Addr) (ws : List V), H l' = none → DRs H (sortD ds) ws → Q (.ref l') (upd H l' (.lst ws))
theorem call_sortedTt (hu : X.A.units + 150 < cLine) : CallR X (.builtin "sorted") rSortTt := by
  intro pins s σ H xs us Q I r h
  obtain ⟨l, vs, ds, rfl, hl, hd, so, q⟩ := h
  obtain ⟨u, rfl, ru⟩ := vals1 r
  cases ru
  obtain ⟨its, rv, pl, _⟩ := I.tuple (SqT.of hl)
  have hlv : its.length = vs.length := rv.length.symm
  have hlp : ds.length = vs.length := hd.length
  have line : its.length ≤ sizeLine := Nat.le_of_lt (small1000 (by have := so.few; omega))
  refine Calls.call_function_entry kind_sorted plain_sorted entry_sorted (args_sorted1 _) ?_
  unfold Builtin.«sorted»
  refine wpAny_bind (m := checkCount "sorted" 1 1 _) (wpAny_pure ?_)
  refine wpAny_bind (collect_tup' pl ?_ line)
  refine wpAny_bind (wpAny_newList ?_ (by simpa using line))
  have keep1 : ∀ b o, s.heap.get? b = some o → ((s.heap.push (seqObj "list" #[] 0)).update s.heap.objs.size (Obj.mapSeq (· ++ its.toArray))).get? b = some o := fun b o q => by
    have hlt : b < s.heap.objs.size := Heap.lt_size q
    rw [Heap.get?_update_ne _ _ _ _ (Nat.ne_of_lt hlt)]
    exact Heap.get?_push_of_some _ q
  show wpAny _ _ _ _ _ { s with heap := ((s.heap.push (seqObj "list" #[] 0)).update s.heap.objs.size (Obj.mapSeq (· ++ its.toArray))).push { cls := .type "list", data := .seq its.toArray } }
  generalize (s.heap.push (seqObj "list" #[] 0)).update s.heap.objs.size (Obj.mapSeq (· ++ its.toArray)) = h1 at keep1 ⊢
  have I1 : Inv X pins σ H { s with heap := h1 } := I.kept (t' := s.toks) keep1
  have hoL : (h1.push { cls := .type "list", data := .seq its.toArray }).get? h1.objs.size = some (seqObj "list" its.toArray 0) := Heap.get?_push_size _ rfl
  have keepT : ∀ b x, h1.IsTuple b x → (h1.push { cls := .type "list", data := .seq its.toArray }).IsTuple b x := fun b x hb => istup_kept (fun b o _ e => Heap.get?_push_of_some _ e) hb
  have hda0 : DAs h1 ds its := DRs.da I1.hok hd rv
  have hda : DAs (h1.push { cls := .type "list", data := .seq its.toArray }) ds its := hda0.kept keepT
  have hld : ds.length = vs.length := hd.length
  have hdl : its.length = ds.length := by omega
  refine wpAny_bind (wpAny_holding (wpAny_call_entry slot_list_sort ⟨_, hoL, rfl⟩ entry_list_sort (list_sort_datA (m := 100) hoL hda so.heads so.cmp so.deep (by have := so.few; omega) (by show X.A.units + 1 + 1 + 100 < cLine; omega) fun ws pw od => ⟨_, rfl, ?_⟩) (args_list_sort _)))
  have hwl : ws.length = ds.length := by rw [pw.length_eq]; exact hdl
  obtain ⟨e, he⟩ : ∃ e, (sortedHeap (h1.push { cls := .type "list", data := .seq its.toArray }) h1.objs.size its ws.toArray).get? h1.objs.size = some (seqObj "list" ws.toArray e) := sortedHeap_at hoL
  have hn1 := I1.hok.fresh (Nat.le_refl h1.objs.size)
  obtain ⟨v1, v2⟩ := pick_abs I1.hok rv hd (heads_tup so.heads) (ws := ws) fun u hu => pw.mem_iff.mp hu
  have eqd : ws.map (dtOf h1) = sortD ds := by
    rw [← od]
    refine List.map_congr_left fun u hu => ?_
    obtain ⟨d, _, rd⟩ := da_mem hda0 (pw.mem_iff.mp hu)
    rw [dtOf_eq rd, dtOf_eq (rd.kept keepT)]
  rw [eqd] at v2
  refine wpAny_pure ⟨_, rfl, ⟨.ref h1.objs.size, upd H h1.objs.size (.lst (ws.map absR)), I1.laid (t' := s.toks) (a := h1.objs.size) (o := .lst (ws.map absR)) (fun b o hb => ?_) (Nat.le_refl _) ⟨?_, _, e, v1, ?_⟩, rfl, q _ _ hn1 v2⟩⟩
  · rw [sortedHeap_old (Nat.ne_of_lt (Heap.lt_size hb)) (by rw [Heap.size_push]; exact Nat.lt_succ_of_lt (Heap.lt_size hb))]
    exact Heap.get?_push_of_some _ hb
  · rw [List.length_map, hwl]
    exact Nat.le_of_lt (small1000 so.few)
  · rw [he]
end
end L2
set_option Elab.async false
set_option linter.all false
set_option maxRecDepth 100000
set_option maxHeartbeats 4000000
namespace L2
open PySem
abbrev NN : Int := 10 ^ 30
abbrev Rws := List (Dt × Int)
def prR (a : Rws) (f : Dt → Int) : Int := (a.map fun r => r.2 * f r.1).sum
theorem prR_nil (f : Dt → Int) : prR [] f = 0 := rfl
theorem prR_cons (r : Dt × Int) (a : Rws) (f : Dt → Int) : prR (r :: a) f = r.2 * f r.1 + prR a f := by simp [prR]
theorem prR_app (a b : Rws) (f : Dt → Int) : prR (a ++ b) f = prR a f + prR b f := by simp [prR]
theorem prR_add (a : Rws) (f g : Dt → Int) : prR a (fun p => f p + g p) = prR a f + prR a g := by
  induction a with
  | nil => rfl
  | cons r a ih => rw [prR_cons, prR_cons, prR_cons, ih, Int.mul_add]; omega
theorem prR_mul (a : Rws) (c : Int) (f : Dt → Int) : prR a (fun p => c * f p) = c * prR a f := by
  induction a with
  | nil => simp [prR]
  | cons r a ih => rw [prR_cons, prR_cons, ih, Int.mul_add, Int.mul_left_comm]
theorem prR_zero (a : Rws) : prR a (fun _ => 0) = 0 := by
  induction a with
  | nil => rfl
  | cons r a ih => rw [prR_cons, ih]; simp
theorem prR_swap (a b : Rws) (f : Dt → Dt → Int) : prR a (fun p => prR b (fun q => f p q)) = prR b (fun q => prR a (fun p => f p q)) := by
  induction a with
  | nil => rw [prR_nil]; exact (prR_zero b).symm
  | cons r a ih =>
    rw [prR_cons, ih, ← prR_mul, ← prR_add]
    rfl
def Eqv (a b : Rws) : Prop := ∀ f : Dt → Int, prR a f % NN = prR b f % NN
theorem Eqv.refl (a : Rws) : Eqv a a := fun _ => rfl
theorem Eqv.symm {a b : Rws} (h : Eqv a b) : Eqv b a := fun f => (h f).symm
theorem Eqv.trans {a b c : Rws} (h : Eqv a b) (k : Eqv b c) : Eqv a c := fun f => (h f).trans (k f)
def negR (a : Rws) : Rws := a.map fun r => (r.1, 0 - r.2)
theorem prR_neg (a : Rws) (f : Dt → Int) : prR (negR a) f = - prR a f := by
  induction a with
  | nil => rfl
  | cons r a ih =>
    show prR ((r.1, 0 - r.2) :: negR a) f = _
    rw [prR_cons, prR_cons, ih]
    simp only [Int.zero_sub, Int.neg_mul]
    omega
def mulD : Dt → Dt → Dt
  | .tup a, .tup b => .tup (sortD (a ++ b))
  | _, _ => .tup []
def mulR (a b : Rws) : Rws := a.flatMap fun r => b.map fun q => (mulD r.1 q.1, r.2 * q.2)
theorem prR_mulR (a b : Rws) (f : Dt → Int) : prR (mulR a b) f = prR a (fun p => prR b (fun q => f (mulD p q))) := by
  induction a with
  | nil => rfl
  | cons r a ih =>
    show prR ((b.map fun q => (mulD r.1 q.1, r.2 * q.2)) ++ mulR a b) f = _
    rw [prR_app, ih, prR_cons]
    congr 1
    rw [← prR_mul]
    unfold prR
    rw [List.map_map]
    congr 1
    refine List.map_congr_left fun q _ => ?_
    dsimp only [Function.comp]
    rw [Int.mul_comm r.2 q.2, Int.mul_assoc]
theorem emod_add' {a b c d : Int} (h : a % NN = b % NN) (k : c % NN = d % NN) : (a + c) % NN = (b + d) % NN := by rw [Int.add_emod, h, k, ← Int.add_emod]
theorem emod_neg' {a b : Int} (h : a % NN = b % NN) : (-a) % NN = (-b) % NN := by
  have e : (a - b) % NN = 0 := by rw [Int.sub_emod, h, Int.sub_self]; rfl
  have := Int.emod_emod_of_dvd (-a + b) (Int.dvd_refl NN)
  have e2 : (-a + b) % NN = 0 := by
    have : -a + b = -(a - b) := by omega
    rw [this]
    exact Int.emod_eq_zero_of_dvd (Int.dvd_neg.mpr (Int.dvd_of_emod_eq_zero e))
  have : -a = (-a + b) + (-b) := by omega
  rw [this, Int.add_emod, e2, Int.zero_add, Int.emod_emod]
theorem Eqv.app {a b c d : Rws} (h : Eqv a b) (k : Eqv c d) : Eqv (a ++ c) (b ++ d) := fun f => by
  rw [prR_app, prR_app]
  exact emod_add' (h f) (k f)
theorem Eqv.neg {a b : Rws} (h : Eqv a b) : Eqv (negR a) (negR b) := fun f => by
  rw [prR_neg, prR_neg]
  exact emod_neg' (h f)
theorem Eqv.mul {a b c d : Rws} (h : Eqv a b) (k : Eqv c d) : Eqv (mulR a c) (mulR b d) := fun f => by
  rw [prR_mulR, prR_mulR]
  refine (h _).trans ?_
  rw [prR_swap, prR_swap b d]
  exact k _
theorem mulD_comm : ∀ p q : Dt, mulD p q = mulD q p
  | .tup a, .tup b => by
    show Dt.tup (sortD (a ++ b)) = Dt.tup (sortD (b ++ a))
    rw [sortD_congr List.perm_append_comm]
  | .int _, .int _ => rfl
  | .int _, .str _ => rfl
  | .int _, .tup _ => rfl
  | .str _, .int _ => rfl
  | .str _, .str _ => rfl
  | .str _, .tup _ => rfl
  | .tup _, .int _ => rfl
  | .tup _, .str _ => rfl
def TupR (a : Rws) : Prop := ∀ r ∈ a, ∃ l, r.1 = Dt.tup l
theorem prR_congr {a : Rws} {f g : Dt → Int} (h : ∀ r ∈ a, f r.1 = g r.1) : prR a f = prR a g := by
  unfold prR
  congr 1
  exact List.map_congr_left fun r hr => by rw [h r hr]
theorem mulD_assoc {a b c : List Dt} : mulD (mulD (.tup a) (.tup b)) (.tup c) = mulD (.tup a) (mulD (.tup b) (.tup c)) := by
  show Dt.tup (sortD (sortD (a ++ b) ++ c)) = Dt.tup (sortD (a ++ sortD (b ++ c)))
  congr 1
  refine sortD_congr ?_
  refine ((sortD_perm (a ++ b)).append_right c).trans ?_
  rw [List.append_assoc]
  exact ((sortD_perm (b ++ c)).append_left a).symm
theorem mul_assoc_comm {x y z : Rws} (hx : TupR x) (hy : TupR y) (hz : TupR z) : Eqv (mulR (mulR x y) z) (mulR x (mulR z y)) := fun f => by
  rw [prR_mulR, prR_mulR, prR_mulR]
  congr 1
  refine prR_congr fun r hr => ?_
  rw [prR_mulR, prR_swap]
  refine prR_congr fun q hq => prR_congr fun k hk => ?_
  obtain ⟨a, ea⟩ := hx r hr
  obtain ⟨b, eb⟩ := hy _ hk
  obtain ⟨c, ec⟩ := hz _ hq
  rw [ea, eb, ec, mulD_assoc, mulD_comm (.tup c) (.tup b)]
theorem mul_plus (x y z : Rws) : Eqv (mulR (x ++ y) z) (mulR x z ++ mulR y z) := fun f => by
  rw [prR_mulR, prR_app, prR_app, prR_mulR, prR_mulR]
theorem mul_minus (x y z : Rws) : Eqv (mulR z (x ++ negR y)) (mulR z x ++ negR (mulR z y)) := fun f => by
  rw [prR_mulR, prR_app, prR_neg, prR_mulR, prR_mulR]
  congr 1
  rw [show (fun p => prR (x ++ negR y) fun q => f (mulD p q)) = fun p => (prR x fun q => f (mulD p q)) + (-1) * (prR y fun q => f (mulD p q)) from funext fun p => by rw [prR_app, prR_neg]; omega]
  rw [prR_add, prR_mul]
  omega
theorem squares (x y : Rws) : Eqv (mulR x x ++ negR (mulR y y)) (mulR (x ++ y) (x ++ negR y)) := fun f => by
  rw [prR_mulR, prR_app, prR_neg, prR_mulR, prR_mulR, prR_app]
  congr 1
  have e : ∀ a : Rws, (prR a fun p => prR (x ++ negR y) fun q => f (mulD p q)) = (prR a fun p => prR x fun q => f (mulD p q)) + (-1) * (prR a fun p => prR y fun q => f (mulD p q)) := fun a => by
    rw [show (fun p => prR (x ++ negR y) fun q => f (mulD p q)) = fun p => (prR x fun q => f (mulD p q)) + (-1) * (prR y fun q => f (mulD p q)) from funext fun p => by rw [prR_app, prR_neg]; omega]
    rw [prR_add, prR_mul]
  rw [e, e]
  have sw : (prR y fun p => prR x fun q => f (mulD p q)) = prR x fun p => prR y fun q => f (mulD p q) := by
    rw [prR_swap]
    refine prR_congr fun r _ => prR_congr fun q _ => ?_
    rw [mulD_comm]
  rw [sw]
  omega
def dl (p q : Dt) : Int := if q = p then 1 else 0
structure Can (a : Rws) : Prop where
  ord : a.Pairwise fun r q => Dt.lt r.1 q.1 = true
  num : ∀ r ∈ a, 0 < r.2 ∧ r.2 < NN
theorem Can.tail {r : Dt × Int} {a : Rws} (h : Can (r :: a)) : Can a := ⟨(List.pairwise_cons.mp h.ord).2, fun q hq => h.num q (List.mem_cons_of_mem _ hq)⟩
theorem prR_out {a : Rws} {p : Dt} (h : ∀ r ∈ a, r.1 ≠ p) : prR a (dl p) = 0 := by
  rw [prR_congr (g := fun _ => 0) fun r hr => if_neg (h r hr)]
  exact prR_zero a
theorem lt_ne {p q : Dt} (h : Dt.lt p q = true) : p ≠ q := fun e => by subst e; rw [Dt.lt_irr] at h; cases h
theorem can_at : ∀ {a : Rws}, Can a → ∀ {p : Dt} {v : Int}, (p, v) ∈ a → prR a (dl p) = v
  | r :: a, h, p, v, hm => by
    obtain ⟨h1, h2⟩ := List.pairwise_cons.mp h.ord
    rw [prR_cons]
    rcases List.mem_cons.mp hm with e | hm
    · subst e
      rw [prR_out fun q hq => Ne.symm (lt_ne (h1 q hq))]
      simp [dl]
    · rw [can_at h.tail hm, dl, if_neg (lt_ne (h1 _ hm))]
      omega
theorem can_half {a b : Rws} (ha : Can a) (hb : Can b) (e : Eqv a b) {r : Dt × Int} (hr : r ∈ a) : r ∈ b := by
  obtain ⟨p, v⟩ := r
  have hv := ha.num _ hr
  dsimp only at hv
  have e1 := e (dl p)
  rw [can_at ha hr, Int.emod_eq_of_lt (by omega) hv.2] at e1
  by_cases c : ∃ q ∈ b, q.1 = p
  · obtain ⟨⟨p', v'⟩, hq, rfl⟩ := c
    have hv' := hb.num _ hq
    dsimp only at hv'
    rw [can_at hb hq, Int.emod_eq_of_lt (by omega) hv'.2] at e1
    rw [e1]
    exact hq
  · rw [prR_out fun q hq z => c ⟨q, hq, z⟩] at e1
    simp at e1
    omega
theorem ord_ext : ∀ {a b : Rws}, (a.Pairwise fun r q => Dt.lt r.1 q.1 = true) → (b.Pairwise fun r q => Dt.lt r.1 q.1 = true) → (∀ x, x ∈ a ↔ x ∈ b) → a = b
  | [], [], _, _, _ => rfl
  | [], y :: b, _, _, h => absurd ((h y).mpr List.mem_cons_self) (by simp)
  | x :: a, [], _, _, h => absurd ((h x).mp List.mem_cons_self) (by simp)
  | x :: a, y :: b, ha, hb, h => by
    obtain ⟨a1, a2⟩ := List.pairwise_cons.mp ha
    obtain ⟨b1, b2⟩ := List.pairwise_cons.mp hb
    have e : x = y := by
      rcases List.mem_cons.mp ((h x).mp List.mem_cons_self) with e | hx
      · exact e
      · rcases List.mem_cons.mp ((h y).mpr List.mem_cons_self) with e | hy
        · exact e.symm
        · have := Dt.lt_asym (a1 y hy)
          rw [b1 x hx] at this
          cases this
    subst e
    congr 1
    refine ord_ext a2 b2 fun z => ⟨fun hz => ?_, fun hz => ?_⟩
    · rcases List.mem_cons.mp ((h z).mp (List.mem_cons_of_mem _ hz)) with e | hz'
      · subst e; exact absurd rfl (lt_ne (a1 _ hz))
      · exact hz'
    · rcases List.mem_cons.mp ((h z).mpr (List.mem_cons_of_mem _ hz)) with e | hz'
      · subst e; exact absurd rfl (lt_ne (b1 _ hz))
      · exact hz'
theorem can_unique {a b : Rws} (ha : Can a) (hb : Can b) (e : Eqv a b) : a = b := ord_ext ha.ord hb.ord fun x => ⟨fun h => can_half ha hb e h, fun h => can_half hb ha e.symm h⟩
def tot (rows : Rws) (p : Dt) : Int := prR rows (dl p)
def resR (ks : List Dt) (g : Dt → Int) : Rws := ((sortD ks).map fun p => (p, g p % NN)).filter fun r => r.2 != 0
theorem sortD_strict {ks : List Dt} (nd : ks.Nodup) : (sortD ks).Pairwise fun p q => Dt.lt p q = true := by
  have nd' : (sortD ks).Nodup := (sortD_perm ks).nodup_iff.mpr nd
  have o := sortD_ord ks
  unfold OrdD at o
  refine (o.and nd').imp fun {p q} h => ?_
  cases z : Dt.lt p q with
  | true => rfl
  | false => exact absurd (Dt.lt_tri z h.1) h.2
theorem res_can {ks : List Dt} {g : Dt → Int} (nd : ks.Nodup) : Can (resR ks g) := by
  refine ⟨?_, fun r hr => ?_⟩
  · refine List.Pairwise.filter _ ?_
    rw [List.pairwise_map]
    exact sortD_strict nd
  · obtain ⟨h1, h2⟩ := List.mem_filter.mp hr
    obtain ⟨p, _, rfl⟩ := List.mem_map.mp h1
    have a1 := Int.emod_nonneg (g p) (show NN ≠ 0 by decide)
    have a2 := Int.emod_lt_of_pos (g p) (show 0 < NN by decide)
    simp at h2
    dsimp only
    omega
theorem prR_filter (a : Rws) (f : Dt → Int) : prR (a.filter fun r => r.2 != 0) f = prR a f := by
  induction a with
  | nil => rfl
  | cons r a ih =>
    rw [List.filter_cons]
    by_cases c : (r.2 != 0) = true
    · rw [if_pos c, prR_cons, prR_cons, ih]
    · rw [if_neg c, prR_cons, ih]
      have : r.2 = 0 := by simpa using c
      rw [this]
      simp
theorem prR_mod (ks : List Dt) (g f : Dt → Int) : prR (ks.map fun p => (p, g p % NN)) f % NN = prR (ks.map fun p => (p, g p)) f % NN := by
  induction ks with
  | nil => rfl
  | cons p ks ih =>
    rw [List.map_cons, List.map_cons, prR_cons, prR_cons]
    refine emod_add' ?_ ih
    dsimp only
    rw [Int.mul_emod, Int.emod_emod, ← Int.mul_emod]
theorem sum_zero : ∀ ks : List Dt, (ks.map fun _ => (0 : Int)).sum = 0
  | [] => rfl
  | _ :: ks => by rw [List.map_cons, List.sum_cons, sum_zero ks]; rfl
theorem one_of : ∀ {ks : List Dt}, ks.Nodup → ∀ {q : Dt}, q ∈ ks → ∀ (f : Dt → Int), (ks.map fun p => dl p q * f p).sum = f q
  | p :: ks, nd, q, hq, f => by
    obtain ⟨n1, n2⟩ := List.nodup_cons.mp nd
    rw [List.map_cons, List.sum_cons]
    by_cases c : q = p
    · subst c
      have z : (ks.map fun p => dl p q * f p) = ks.map fun _ => (0 : Int) := List.map_congr_left fun p hp => by
        have : q ≠ p := fun e => n1 (e ▸ hp)
        rw [dl, if_neg this]; simp
      rw [z, sum_zero]
      simp [dl]
    · rcases List.mem_cons.mp hq with e | hq
      · exact absurd e c
      · rw [one_of n2 hq f, dl, if_neg c]
        omega
theorem tot_all {ks : List Dt} (nd : ks.Nodup) : ∀ {rows : Rws}, (∀ r ∈ rows, r.1 ∈ ks) → ∀ f : Dt → Int, prR (ks.map fun p => (p, tot rows p)) f = prR rows f
  | [], _, f => by
    have : (ks.map fun p => (p, tot [] p)) = ks.map fun p => (p, (0 : Int)) := rfl
    rw [this]
    unfold prR
    rw [List.map_map]
    have z : (ks.map ((fun r : Dt × Int => r.2 * f r.1) ∘ fun p => (p, 0))) = ks.map fun _ => (0 : Int) := List.map_congr_left fun p _ => by simp
    rw [z, sum_zero]
    rfl
  | r :: rows, h, f => by
    have ih := tot_all nd (rows := rows) (fun q hq => h q (List.mem_cons_of_mem _ hq)) f
    rw [prR_cons, ← ih, ← one_of nd (h r List.mem_cons_self) f]
    unfold prR
    rw [List.map_map, List.map_map]
    have : ∀ ks : List Dt, (ks.map ((fun q : Dt × Int => q.2 * f q.1) ∘ fun p => (p, tot (r :: rows) p))).sum = r.2 * (ks.map fun p => dl p r.1 * f p).sum + (ks.map ((fun q : Dt × Int => q.2 * f q.1) ∘ fun p => (p, tot rows p))).sum := by
      intro ks
      induction ks with
      | nil => simp
      | cons p ks ih =>
        simp only [List.map_cons, List.sum_cons, Function.comp] at ih ⊢
        rw [ih]
        have e : tot (r :: rows) p = r.2 * dl p r.1 + tot rows p := by unfold tot; rw [prR_cons]
        rw [e, Int.add_mul, Int.mul_add, Int.mul_assoc]
        omega
    exact this ks
theorem res_eqv {ks : List Dt} {rows : Rws} (nd : ks.Nodup) (h : ∀ r ∈ rows, r.1 ∈ ks) : Eqv (resR ks (tot rows)) rows := fun f => by
  unfold resR
  rw [prR_filter, prR_mod, tot_all ((sortD_perm ks).nodup_iff.mpr nd) fun r hr => (sortD_perm ks).mem_iff.mpr (h r hr)]
theorem res_mem {ks : List Dt} {g : Dt → Int} : ∀ r ∈ resR ks g, r.1 ∈ ks := fun r hr => by
  obtain ⟨h1, _⟩ := List.mem_filter.mp hr
  obtain ⟨p, hp, rfl⟩ := List.mem_map.mp h1
  exact (sortD_perm ks).mem_iff.mp hp
theorem res_len {ks : List Dt} {g : Dt → Int} : (resR ks g).length ≤ ks.length := by
  refine Nat.le_trans (List.length_filter_le _ _) ?_
  rw [List.length_map, (sortD_perm ks).length_eq]
  exact Nat.le_refl _
end L2
set_option Elab.async false
set_option linter.all false
set_option maxRecDepth 100000
set_option maxHeartbeats 4000000
namespace L2
open PySem
def U1 : Ty := .two .str (.many .int)
def UT : Ty := .two .str (.many (.many (.two (.many U1) .int)))
structure UOk (u : Dt) : Prop where
  ty : Dt.has UT u = true
  deep : u.deep ≤ 7
def POk (n : Nat) (p : Dt) : Prop := ∃ us, p = .tup us ∧ us.length ≤ n ∧ ∀ u ∈ us, UOk u
def rowD (r : Dt × Int) : Dt := .tup [r.1, .int r.2]
def sumD (a : Rws) : Dt := .tup (a.map rowD)
def ROk (n : Nat) (a : Rws) : Prop := ∀ r ∈ a, POk n r.1
theorem deeps_le : ∀ {ds : List Dt} {n : Nat}, (∀ d ∈ ds, d.deep ≤ n) → Dt.deeps ds ≤ n
  | [], _, _ => Nat.zero_le _
  | d :: ds, n, h => by
    rw [Dt.deeps]
    have := h d List.mem_cons_self
    have := deeps_le (ds := ds) fun e he => h e (List.mem_cons_of_mem _ he)
    omega
theorem POk.deep {n : Nat} {p : Dt} (h : POk n p) : p.deep ≤ 8 := by
  obtain ⟨us, rfl, _, hu⟩ := h
  rw [Dt.deep]
  have := deeps_le (ds := us) (n := 7) fun u h => (hu u h).deep
  omega
theorem POk.ty {n : Nat} {p : Dt} (h : POk n p) : Dt.has (.many UT) p = true := by
  obtain ⟨us, rfl, _, hu⟩ := h
  rw [Dt.has]
  exact hass_mem.mpr fun u h => (hu u h).ty
theorem UOk.head {u : Dt} (h : UOk u) : ∃ x r, u = .tup (.str x :: r) := by
  have t := h.ty
  unfold UT at t
  cases u with
  | tup ds =>
    rw [Dt.has] at t
    cases ds with
    | nil => simp [Dt.hasp] at t
    | cons d ds =>
      cases d with
      | str x => exact ⟨x, ds, rfl⟩
      | int _ => simp [Dt.hasp, Dt.has] at t
      | tup _ => simp [Dt.hasp, Dt.has] at t
  | int _ => simp [Dt.has] at t
  | str _ => simp [Dt.has] at t
theorem srt_unknowns {us : List Dt} (h : ∀ u ∈ us, UOk u) (hl : us.length ≤ 1000) : SrtOk us :=
  ⟨.inl fun d hd => (h d hd).head, fun d hd e he => cmp_of UT (h d hd).ty (h e he).ty, deeps_le fun d hd => Nat.le_trans (h d hd).deep (by decide), hl⟩
theorem srt_products {n : Nat} {ps : List Dt} (h : ∀ p ∈ ps, POk n p) (hl : ps.length ≤ 1000) : SrtOk ps :=
  ⟨.inr fun d hd => by
    obtain ⟨us, rfl, _, hu⟩ := h d hd
    cases us with
    | nil => exact .inl rfl
    | cons u us =>
      obtain ⟨x, r, rfl⟩ := (hu u List.mem_cons_self).head
      exact .inr ⟨_, _, rfl⟩, fun d hd e he => cmp_of (.many UT) (h d hd).ty (h e he).ty, deeps_le fun d hd => Nat.le_trans (h d hd).deep (by decide), hl⟩
theorem POk.mul {n m : Nat} {p q : Dt} (h : POk n p) (k : POk m q) : POk (n + m) (mulD p q) := by
  obtain ⟨us, rfl, l1, hu⟩ := h
  obtain ⟨vs, rfl, l2, hv⟩ := k
  refine ⟨_, rfl, by rw [(sortD_perm _).length_eq, List.length_append]; omega, fun u hm => ?_⟩
  rcases List.mem_append.mp ((sortD_perm _).mem_iff.mp hm) with h | h
  · exact hu u h
  · exact hv u h
theorem ROk.app {n : Nat} {a b : Rws} (h : ROk n a) (k : ROk n b) : ROk n (a ++ b) := fun r hr => (List.mem_append.mp hr).elim (h r) (k r)
theorem ROk.neg {n : Nat} {a : Rws} (h : ROk n a) : ROk n (negR a) := fun r hr => by
  obtain ⟨q, hq, rfl⟩ := List.mem_map.mp hr
  exact h q hq
theorem ROk.mul {n m : Nat} {a b : Rws} (h : ROk n a) (k : ROk m b) : ROk (n + m) (mulR a b) := fun r hr => by
  obtain ⟨x, hx, hr⟩ := List.mem_flatMap.mp hr
  obtain ⟨y, hy, rfl⟩ := List.mem_map.mp hr
  exact (h x hx).mul (k y hy)
theorem ROk.tup {n : Nat} {a : Rws} (h : ROk n a) : TupR a := fun r hr => by
  obtain ⟨us, e, _⟩ := h r hr
  exact ⟨us, e⟩
theorem DRs.app {H : Hp} : ∀ {a b : List Dt} {us vs : List V}, DRs H a us → DRs H b vs → DRs H (a ++ b) (us ++ vs)
  | _, _, _, _, .nil, q => q
  | _, _, _, _, .cons r p, q => .cons r (DRs.app p q)
theorem row_at {H : Hp} {r : Dt × Int} {v : V} (h : DR H (rowD r) v) : ∃ b u, v = .ref b ∧ H b = some (.tup [u, .int r.2]) ∧ DR H r.1 u := by
  unfold rowD at h
  cases h with
  | tup ha rs =>
    cases rs with
    | cons r1 rs =>
      cases rs with
      | cons r2 rs =>
        cases rs
        cases r2
        exact ⟨_, _, rfl, ha, r1⟩
theorem POk.ref {H : Hp} {n : Nat} {p : Dt} {u : V} (h : POk n p) (r : DR H p u) : KyN H u p := by
  have hd := h.deep
  obtain ⟨us, rfl, _, _⟩ := h
  cases r with
  | tup ha rs => exact ⟨_, rfl, .tup ha rs, hd⟩
theorem tot_app (rows : Rws) (r : Dt × Int) (p : Dt) : tot (rows ++ [r]) p = tot rows p + r.2 * dl p r.1 := by
  unfold tot
  rw [prR_app, prR_cons, prR_nil]
  omega
theorem tot_out {rows : Rws} {p : Dt} (h : p ∉ rows.map (·.1)) : tot rows p = 0 := prR_out fun r hr e => h (List.mem_map.mpr ⟨r, hr, e⟩)
structure GdR (rows : Rws) (kvs : List (Dt × V)) : Prop where
  val : ∀ p, valV kvs p = if p ∈ rows.map (·.1) then some (.int (tot rows p)) else none
  len : kvs.length ≤ rows.length
theorem GdR.get {rows : Rws} {kvs : List (Dt × V)} (g : GdR rows kvs) (p : Dt) : (valV kvs p).getD (.int 0) = .int (tot rows p) := by
  rw [g.val p]
  by_cases c : p ∈ rows.map (·.1)
  · rw [if_pos c]; rfl
  · rw [if_neg c, tot_out c]; rfl
theorem GdR.put {rows : Rws} {kvs : List (Dt × V)} (g : GdR rows kvs) (p : Dt) (m : Int) : GdR (rows ++ [(p, m)]) (putK kvs p (.int (tot rows p + m))) := by
  refine ⟨fun q => ?_, ?_⟩
  · rw [valV_put, g.val q]
    by_cases c : q = p
    · subst c
      rw [if_pos rfl, if_pos (by simp), tot_app]
      simp [dl]
    · rw [if_neg c]
      have e : tot (rows ++ [(p, m)]) q = tot rows q := by
        rw [tot_app]
        show tot rows q + m * dl q p = _
        rw [dl, if_neg (fun z => c z.symm)]
        omega
      rw [e]
      by_cases d : q ∈ rows.map (·.1)
      · rw [if_pos d, if_pos (by simp at d ⊢; exact .inl d)]
      · rw [if_neg d, if_neg (by simp at d ⊢; exact ⟨d, fun z => c z⟩)]
  · have := length_putK kvs p (.int (tot rows p + m))
    have := g.len
    simp
    omega
theorem GdR.keys {rows : Rws} {kvs : List (Dt × V)} (g : GdR rows kvs) (p : Dt) : p ∈ kvs.map (·.1) ↔ p ∈ rows.map (·.1) := by
  rw [mem_valV, g.val p]
  by_cases c : p ∈ rows.map (·.1)
  · rw [if_pos c]; simp [c]
  · rw [if_neg c]; simp [c]
theorem take_next' {α : Type} {l : List α} {i : Nat} {x : α} (h : l[i]? = some x) : l.take (i + 1) = l.take i ++ [x] := by
  rw [List.take_add_one, h]; rfl
end L2
namespace K36
open PySem PySem.Spec L2 PyProof.Rows
def top (i : Nat) : Stmt := PySem.Challenge.pw_recastle_k36_sums_by_rules.main.body.getD i (.Pass ⟨0, 0, 0, 0⟩)
abbrev s_wrapped : Stmt := top 1
theorem sc_wrapped : FnScope ["number"] ["number"] (defScope s_wrapped) := ⟨rfl, rfl, rfl, by decide +kernel, rfl, by decide +kernel, by decide +kernel⟩
abbrev s_summed : Stmt := top 3
theorem sc_summed : FnScope ["rows", "many_of", "product", "many", "found"] ["rows"] (defScope s_summed) := ⟨rfl, rfl, rfl, by decide +kernel, rfl, by decide +kernel, by decide +kernel⟩
abbrev s_plus : Stmt := top 4
theorem sc_plus : FnScope ["one", "other"] ["one", "other"] (defScope s_plus) := ⟨rfl, rfl, rfl, by decide +kernel, rfl, by decide +kernel, by decide +kernel⟩
abbrev s_minus : Stmt := top 5
theorem sc_minus : FnScope ["one", "other"] ["one", "other"] (defScope s_minus) := ⟨rfl, rfl, rfl, by decide +kernel, rfl, by decide +kernel, by decide +kernel⟩
abbrev s_times : Stmt := top 6
theorem sc_times : FnScope ["one", "other", "rows", "mine", "my_many", "its", "its_many"] ["one", "other"] (defScope s_times) := ⟨rfl, rfl, rfl, by decide +kernel, rfl, by decide +kernel, by decide +kernel⟩
section
variable {P : Program} {w : World} {K : PySem.W.Frag} {mg : Str → Option Value} {base : Heap}
def sp_wrapped : Sp := fun vs H Q _ => ∃ n : Int, vs = [.int n] ∧ Q (.int (n % NN)) H
theorem ok_wrapped {k : Nat} {f : Addr} {fd : FuncData} (F : Fun K "wrapped" "wrapped" s_wrapped f fd) : FnOk P w K mg base CX0 (k + 1) f fd ["number"] sp_wrapped := by
  refine F.ok sc_wrapped (fun vs H Q E h => ?_) (fun cdv A outer s H vs Q E hr h => ?_)
  · obtain ⟨n, rfl, _⟩ := h
    rfl
  obtain ⟨n, rfl, q⟩ := h
  refine ⟨_, (pss_one (ps_ret (pe_op op_mod (pv 0) (pe_op op_pow pe_int pe_int)))), ?_⟩
  exact ⟨_, rfl, _, _, rfl, rfl, ⟨by decide, by decide, by decide⟩, _, _, rfl, rfl, (show (0 : Int) < 10 ^ 30 by decide), q⟩
def sp_summed : Sp := fun vs H Q _ => ∃ (a : Addr) (us : List V) (rows : Rws) (n : Nat), vs = [.ref a] ∧ (H a = some (.tup us) ∨ H a = some (.lst us)) ∧ DRs H (rows.map rowD) us ∧ ROk n rows ∧ rows.length ≤ 500 ∧
  ∀ (v : V) (res : Rws) (H' : Hp), Same H H' → Can res → Eqv res rows → ROk n res → res.length ≤ rows.length → DR H' (sumD res) v → Q v H'
theorem ok_summed {k : Nat} {f g1 : Addr} {fd gd1 : FuncData} (F : Fun K "summed" "summed" s_summed f fd) (z_sorted : mg "sorted" = none) (z_tuple : mg "tuple" = none) (G_wrapped : FnB P w K mg base k "wrapped" g1 gd1 ["number"] sp_wrapped) : FnOk P w K mg base CX0 (k + 1) f fd ["rows"] sp_summed := by
  refine F.ok sc_summed (fun vs H Q E h => ?_) (fun cdv A outer s H vs Q E hr h => ?_)
  · obtain ⟨a, us, rows, n, rfl, _⟩ := h
    rfl
  obtain ⟨a, us, rows, n, rfl, ha, hus, hR, hlen, q⟩ := h
  have hu := hu_of hr
  have hu5 := hu150 hr
  have hul : us.length = rows.length := by rw [← hus.length]; simp
  obtain ⟨t, ht⟩ : ∃ t, ∀ H', Same H H' → SqE K H' a t us := by
    rcases ha with ha | ha
    · exact ⟨true, fun H' g => SqT.of (g _ _ ha)⟩
    · exact ⟨false, fun H' g => SqL.of (g _ _ ha)⟩
  refine ⟨_, (pss_cons (ps_set (i := 1) sc_summed.nd rfl (Or.inr rfl) pe_dnewK)
    (pss_cons (ps_for PassesOwn.never rfl (pi_seq (pv 0)) (pg_tup rfl (pgs_cons (pg_name (i := 2) sc_summed.nd rfl (Or.inl rfl)) (pgs_cons (pg_name (i := 3) sc_summed.nd rfl (Or.inl rfl)) pgs_nil))) (pss_one (ps_nput hu5 (pv 1) (pv 2) (pe_op op_add (pe_nget2 hu5 (pv 1) (pv 2) pe_int ⟨rfl, rfl, rfl, rfl⟩) (pv 3)) rfl)))
    (pss_cons (ps_compB (jj := 4) ["product", "many_of"] [none, some 1] rfl (pi_list (pe_callB (call_sortedN rfl hu5) (by rfl) z_sorted PyProof.Rows.boot_sorted (pa_cons (pv 1) pa_nil))) (fun _ _ _ _ _ => (pg_name (i := 0) (show List.Nodup (["product", "many_of"] : List Str) by decide +kernel) rfl (Or.inl rfl))) (fun _ _ _ _ _ => pts_nil) (fun _ _ _ _ _ => (pe_tup (pa_cons (pv 0) (pa_cons (pe_call G_wrapped.ok hr (by rfl) G_wrapped.gl G_wrapped.kp G_wrapped.bd .nil pass0 (pa_cons (pe_nget hu5 (pv 1) (pv 0) (fun _ _ => rfl) : PE _ _ (tNGet P w _ _)) pa_nil)) pa_nil)) : PE _ _ _)) rfl sc_summed.nd rfl (Or.inl rfl) (Or.inr rfl))
    (pss_one (ps_ret (pe_callTy call_tuple_of (by rfl) z_tuple PyProof.Rows.boot_tuple (pa_cons (pe_compB ["product", "many"] [none, none] rfl (pi_list (pv 4)) (fun _ _ _ _ _ => (pg_tupK (K := K) (n := 2) rfl rfl (pgs_cons (pg_name (i := 0) (show List.Nodup (["product", "many"] : List Str) by decide +kernel) rfl (Or.inl rfl)) (pgs_cons (pg_name (i := 1) (show List.Nodup (["product", "many"] : List Str) by decide +kernel) rfl (Or.inl rfl)) pgs_nil)))) (fun _ _ _ _ _ => (pts_one (pt_cmpR op_ne (pv 1) pe_int (nomark _)))) (fun _ _ _ _ _ => (pe_tup (pa_cons (pv 0) (pa_cons (pv 1) pa_nil)) : PE _ _ _)) rfl) pa_nil))))))), ?_⟩
  intro d hd
  have g0 := same_upd (o := .dK []) hd
  refine ⟨a, t, us, rfl, ht _ g0, ?_⟩
  refine for_seq (xs := us) (fun i σ' H' => ∃ (kvs : List (Dt × V)) (s2 s3 : Option V), σ' = [some (.ref a), some (.ref d), s2, s3, none] ∧ Same H H' ∧ DicP P w H' d kvs ∧ GdR (rows.take i) kvs) ?_ ?_ ?_ ?_
  · exact ⟨[], none, none, rfl, g0, .inr ⟨upd_same, rfl⟩, ⟨fun p => by simp [valV], by simp⟩⟩
  · rintro i σ' H' _ ⟨kvs, s2, s3, rfl, g, _, _⟩
    exact ht H' g
  · rintro i x σ' H' hx ⟨kvs, s2, s3, rfl, g, dp, gd⟩
    obtain ⟨dd, ed, rd⟩ := hus.get hx
    rw [List.getElem?_map] at ed
    obtain ⟨r, er, rfl⟩ := Option.map_eq_some_iff.mp ed
    obtain ⟨b, u, rfl, hb, ru⟩ := row_at (rd.mono g.tk)
    have ky := (hR r (List.mem_of_getElem? er)).ref ru
    have hl1 := gd.len
    have hl2 : (rows.take i).length ≤ rows.length := by rw [List.length_take]; omega
    refine ⟨b, [u, .int r.2], rfl, SqT.of hb, rfl, _, _, rfl, _, _, rfl, rfl, ?_⟩
    refine ⟨_, rfl, d, kvs, rfl, dp.e, _, rfl, r.1, kvs, dp.e, ky, _, rfl, _, _, gd.get r.1, rfl, _, rfl, _, rfl, d, r.1, kvs, rfl, dp, by omega, ky, fun o dn tk => ?_⟩
    exact ⟨_, _, _, rfl, same_set g hd, .inl dn, by rw [take_next' er]; exact gd.put r.1 r.2⟩
  · rintro σ' H' ⟨kvs, s2, s3, rfl, g, dp, gd⟩
    rw [List.take_of_length_le (by omega)] at gd
    have hl1 := gd.len
    have kp : ∀ p ∈ kvs.map (·.1), POk n p := fun p hp => by
      obtain ⟨r, hr, rfl⟩ := List.mem_map.mp ((gd.keys p).mp hp)
      exact hR r hr
    refine ⟨_, rfl, d, kvs, rfl, dp.e, srt_products kp (by simp; omega), fun l ws hl nd dws => ⟨l, rfl, ⟨ws, SqL.of upd_same⟩, fun acc hacc => ?_⟩⟩
    have gl := same_upd (o := .lst ws) hl
    have ndl : d ≠ l := fun z => by
      rcases dp with ⟨xs, _, e, _⟩ | ⟨e, _⟩
      · rw [z, hl] at e; cases e
      · rw [z, hl] at e; cases e
    have de1 : DicE P w (upd H' l (.lst ws)) d kvs := dp.e.mono gl.tk (upd_ne ndl)
    have hls : (sortD (kvs.map (·.1))).length = kvs.length := by rw [(sortD_perm _).length_eq, List.length_map]
    have el : (upd H' l (.lst ws)) l = some (.lst ws) := upd_same
    have wl : ws.length = kvs.length := by rw [← dws.length]; exact hls
    have ksm : ∀ p, p ∈ sortD (kvs.map (·.1)) ↔ p ∈ rows.map (·.1) := fun p => by rw [(sortD_perm _).mem_iff, gd.keys]
    have eres : resR (kvs.map (·.1)) (tot rows) = ((sortD (kvs.map (·.1))).map fun p => (p, tot rows p % NN)).filter fun r => r.2 != 0 := rfl
    have rc := res_can (g := tot rows) nd
    have re := res_eqv (ks := kvs.map (·.1)) (rows := rows) nd fun r hr => (gd.keys _).mpr (List.mem_map.mpr ⟨r, hr, rfl⟩)
    have rl := res_len (ks := kvs.map (·.1)) (g := tot rows)
    have rk : ROk n (resR (kvs.map (·.1)) (tot rows)) := fun r hr => kp _ (res_mem r hr)
    rw [List.length_map] at rl
    rw [eres] at rc re rl rk
    generalize upd H' l (.lst ws) = H1 at gl hacc de1 el ⊢
    generalize sortD (kvs.map (·.1)) = ks at dws hls ksm rc re rl rk
    refine comp_listR (xs := ws) (fun i H2 => Same H1 H2 ∧ ∃ zs, H2 acc = some (.lst zs) ∧ DRs H2 (((ks.take i).map fun p => (p, tot rows p % NN)).map rowD) zs) ⟨same_upd hacc, [], upd_same, .nil⟩ (fun i H2 _ h => SqL.of (h.1 _ _ el)) ?_ ?_
    · rintro i x H2 hx ⟨g2, zs, ez, dz⟩
      obtain ⟨p, ep, rp⟩ := dws.get hx
      have hi : i < ws.length := (List.getElem?_eq_some_iff.mp hx).1
      have rp2 := rp.mono (gl.tk.trans g2.tk)
      have pm := List.mem_of_getElem? ep
      have hpr := (ksm p).mp pm
      have hv : valV kvs p = some (.int (tot rows p)) := by rw [gd.val p, if_pos hpr]
      have pok : POk n p := by
        obtain ⟨r, hr, rfl⟩ := List.mem_map.mp hpr
        exact hR r hr
      have ky := pok.ref rp2
      have lz := dz.length
      simp only [List.length_map, List.length_take] at lz
      have ed2 : H2 d = H1 d := by
        rcases de1 with ⟨xs, _, e, _⟩ | ⟨e, _⟩
        · rcases e with e | ⟨o, e⟩
          · rw [e]; exact g2 _ _ e
          · rw [e]; exact g2 _ _ e
        · rw [e]; exact g2 _ _ e
      refine ⟨.skip (.keep .nil), ?_⟩
      refine ⟨_, rfl, _, rfl, _, rfl, d, p, _, kvs, rfl, (de1.mono g2.tk ed2).r hv, ky, hv, _, rfl, (by show 2 ≤ sizeLine; decide), fun tp htp => ?_⟩
      have nat : tp ≠ acc := Ne.symm (ne_of_none ez htp)
      have g3 := same_upd (o := .tup [x, .int (tot rows p % NN)]) htp
      refine ⟨zs, g3 _ _ ez, small1000 (by omega), same_set (g2.trans g3) hacc, zs ++ [.ref tp], upd_same, ?_⟩
      have tk4 : Tk (upd H2 tp (.tup [x, .int (tot rows p % NN)])) (upd (upd H2 tp (.tup [x, .int (tot rows p % NN)])) acc (.lst (zs ++ [.ref tp]))) := Tk.lst (g3 _ _ ez)
      rw [take_next' ep, List.map_append, List.map_append]
      exact (dz.mono (g3.tk.trans tk4)).app (.cons ((DR.tup (a := tp) upd_same (.cons (rp2.mono g3.tk) (.cons (.int _) .nil))).mono tk4) .nil)
    · rintro H3 ⟨g3, zs, ez, dz⟩
      rw [List.take_of_length_le (by omega)] at dz
      have lz := dz.length
      simp only [List.length_map] at lz
      refine ⟨_, rfl, acc, rfl, ⟨zs, SqL.of ez⟩, fun acc2 hacc2 => ?_⟩
      generalize hrs : (ks.map fun p => (p, tot rows p % NN)) = rs at dz rc re rl rk
      have lrs : rs.length = ks.length := by rw [← hrs, List.length_map]
      refine comp_listR (xs := zs) (fun i H4 => Same H3 H4 ∧ ∃ ys, H4 acc2 = some (.lst ys) ∧ DRs H4 (((rs.take i).filter fun r => r.2 != 0).map rowD) ys) ⟨same_upd hacc2, [], upd_same, .nil⟩ (fun i H4 _ h => SqL.of (h.1 _ _ ez)) ?_ ?_
      · rintro i x H4 hx ⟨g4, ys, ey, dy⟩
        obtain ⟨dd, ed, rd⟩ := dz.get hx
        rw [List.getElem?_map] at ed
        obtain ⟨r, er, rfl⟩ := Option.map_eq_some_iff.mp ed
        obtain ⟨b, u, rfl, hb, ru⟩ := row_at (rd.mono g4.tk)
        have hi : i < zs.length := (List.getElem?_eq_some_iff.mp hx).1
        have ly := dy.length
        rw [List.length_map] at ly
        have lf : ((rs.take i).filter fun r => r.2 != 0).length ≤ i := Nat.le_trans (List.length_filter_le _ _) (by rw [List.length_take]; omega)
        refine ⟨b, _, rfl, SqT.of hb, rfl, _, _, rfl, _, _, rfl, rfl, .skip (.skip .nil), ?_⟩
        refine ⟨_, rfl, rfl, _, rfl, ite2 (fun c => ?_) (fun c => ?_)⟩
        · have c' : (r.2 != 0) = true := by
            have : ¬ (V.int r.2 = V.int 0) := by simpa using c
            have : r.2 ≠ 0 := fun z => this (by rw [z])
            simpa using this
          refine ⟨_, rfl, _, rfl, (by show 2 ≤ sizeLine; decide), fun tp htp => ?_⟩
          have g5 := same_upd (o := .tup [u, .int r.2]) htp
          refine ⟨ys, g5 _ _ ey, small1000 (by omega), same_set (g4.trans g5) hacc2, ys ++ [.ref tp], upd_same, ?_⟩
          have tk6 : Tk (upd H4 tp (.tup [u, .int r.2])) (upd (upd H4 tp (.tup [u, .int r.2])) acc2 (.lst (ys ++ [.ref tp]))) := Tk.lst (g5 _ _ ey)
          rw [take_next' er, List.filter_append, List.map_append, List.filter_cons, if_pos c', List.filter_nil]
          exact (dy.mono (g5.tk.trans tk6)).app (.cons ((DR.tup (a := tp) upd_same (.cons (ru.mono g5.tk) (.cons (.int _) .nil))).mono tk6) .nil)
        · have c' : ¬ (r.2 != 0) = true := by
            have : V.int r.2 = V.int 0 := by simpa using c
            have : r.2 = 0 := by injection this
            simp [this]
          refine ⟨g4, ys, ey, ?_⟩
          rw [take_next' er, List.filter_append, List.filter_cons, if_neg c', List.filter_nil, List.append_nil]
          exact dy
      · rintro H5 ⟨g5, ys, ey, dy⟩
        rw [List.take_of_length_le (by omega)] at dy
        refine ⟨acc2, ys, rfl, .inl ⟨SqL.of ey, fun l2 hl2 => ?_⟩⟩
        have g6 := same_upd (o := .tup ys) hl2
        exact q _ _ _ (g.trans (gl.trans (g3.trans (g5.trans g6)))) rc re rk (by omega) (.tup upd_same (dy.mono g6.tk))
end
end K36
set_option Elab.async false
set_option linter.all false
set_option maxRecDepth 100000
set_option maxHeartbeats 4000000
namespace L2
open PySem
structure SumA (H : Hp) (n : Nat) (a : Rws) (v : V) : Prop where
  dr : DR H (sumD a) v
  ok : ROk n a
  can : Can a
theorem SumA.mono {H H' : Hp} (k : Tk H H') {n : Nat} {a : Rws} {v : V} (h : SumA H n a v) : SumA H' n a v := ⟨h.dr.mono k, h.ok, h.can⟩
theorem SumA.at {H : Hp} {n : Nat} {a : Rws} {v : V} (h : SumA H n a v) : ∃ b us, v = .ref b ∧ H b = some (.tup us) ∧ DRs H (a.map rowD) us := by
  have := h.dr
  unfold sumD at this
  cases this with
  | tup ha rs => exact ⟨_, _, rfl, ha, rs⟩
theorem ROk.up {n m : Nat} {a : Rws} (h : ROk n a) (k : n ≤ m) : ROk m a := fun r hr => by
  obtain ⟨us, e, l, hu⟩ := h r hr
  exact ⟨us, e, by omega, hu⟩
theorem neg_rows {a : Rws} {i : Nat} {r : Dt × Int} (h : a[i]? = some r) : negR (a.take (i + 1)) = negR (a.take i) ++ [(r.1, 0 - r.2)] := by
  rw [take_next' h]
  simp [negR]
theorem mulR_len (a b : Rws) : (mulR a b).length = a.length * b.length := by
  unfold mulR
  induction a with
  | nil => simp
  | cons r a ih => rw [List.flatMap_cons, List.length_append, ih, List.length_map, List.length_cons, Nat.succ_mul]; omega
theorem nat100 {m : Int} (h : 0 < m ∧ m < NN) : m.natAbs < 2 ^ 100 := by
  have : (10 : Int) ^ 30 < 2 ^ 100 := by decide
  have h2 : m < 10 ^ 30 := h.2
  omega
end L2
namespace K36
open PySem PySem.Spec L2 PyProof.Rows
section
variable {P : Program} {w : World} {K : PySem.W.Frag} {mg : Str → Option Value} {base : Heap}
def sp_op (op : Rws → Rws → Rws) (mn : Nat → Nat → Nat) (n : Nat) : Sp := fun vs H Q _ => ∃ (v1 v2 : V) (a b : Rws) (n1 n2 : Nat), vs = [v1, v2] ∧ SumA H n1 a v1 ∧ SumA H n2 b v2 ∧ n1 ≤ 100 ∧ n2 ≤ 100 ∧ a.length ≤ n ∧ b.length ≤ n ∧
  ∀ (v : V) (res : Rws) (H' : Hp), Same H H' → SumA H' (mn n1 n2) res v → Eqv res (op a b) → res.length ≤ (op a b).length → Q v H'
def opP (a b : Rws) : Rws := a ++ b
def opM (a b : Rws) : Rws := a ++ negR b
theorem ok_plus {k : Nat} {f g1 : Addr} {fd gd1 : FuncData} (F : Fun K "plus" "plus" s_plus f fd) (G_summed : FnB P w K mg base k "summed" g1 gd1 ["rows"] sp_summed) : FnOk P w K mg base CX0 (k + 1) f fd ["one", "other"] (sp_op opP max 200) := by
  refine F.ok sc_plus (fun vs H Q E h => ?_) (fun cdv A outer s H vs Q E hr h => ?_)
  · obtain ⟨v1, v2, a, b, n1, n2, rfl, _⟩ := h
    rfl
  obtain ⟨v1, v2, a, b, n1, n2, rfl, h1, h2, hn1, hn2, l1, l2, q⟩ := h
  refine ⟨_, (pss_one (ps_ret (pe_call G_summed.ok hr (by rfl) G_summed.gl G_summed.kp G_summed.bd .nil pass0 (pa_cons (pe_op op_catV (pv 0) (pv 1)) pa_nil)))), ?_⟩
  obtain ⟨p1, us1, rfl, e1, d1⟩ := h1.at
  obtain ⟨p2, us2, rfl, e2, d2⟩ := h2.at
  have z1 := d1.length
  have z2 := d2.length
  rw [List.length_map] at z1 z2
  refine ⟨_, rfl, _, rfl, p1, p2, us1, us2, rfl, rfl, e1, e2, line1000 (by omega), fun p H' g e => ?_⟩
  refine ⟨p, us1 ++ us2, a ++ b, max n1 n2, rfl, .inl e, by rw [List.map_append]; exact (d1.mono g.tk).app (d2.mono g.tk), (h1.ok.up (Nat.le_max_left _ _)).app (h2.ok.up (Nat.le_max_right _ _)), by rw [List.length_append]; omega, fun v res H2 g2 c eq ok ln dr => ?_⟩
  exact q v res H2 (g.trans g2) ⟨dr, ok, c⟩ eq ln
theorem ok_minus {k : Nat} {f g1 : Addr} {fd gd1 : FuncData} (F : Fun K "minus" "minus" s_minus f fd) (z_tuple : mg "tuple" = none) (G_summed : FnB P w K mg base k "summed" g1 gd1 ["rows"] sp_summed) : FnOk P w K mg base CX0 (k + 1) f fd ["one", "other"] (sp_op opM max 200) := by
  refine F.ok sc_minus (fun vs H Q E h => ?_) (fun cdv A outer s H vs Q E hr h => ?_)
  · obtain ⟨v1, v2, a, b, n1, n2, rfl, _⟩ := h
    rfl
  obtain ⟨v1, v2, a, b, n1, n2, rfl, h1, h2, hn1, hn2, l1, l2, q⟩ := h
  refine ⟨_, (pss_one (ps_ret (pe_call G_summed.ok hr (by rfl) G_summed.gl G_summed.kp G_summed.bd .nil pass0 (pa_cons (pe_op op_catV (pv 0) (pe_callTy call_tuple_of (by rfl) z_tuple PyProof.Rows.boot_tuple (pa_cons (pe_compB ["product", "many"] [none, none] rfl (pi_tup (pv 1)) (fun _ _ _ _ _ => (pg_tupK (K := K) (n := 2) rfl rfl (pgs_cons (pg_name (i := 0) (show List.Nodup (["product", "many"] : List Str) by decide +kernel) rfl (Or.inl rfl)) (pgs_cons (pg_name (i := 1) (show List.Nodup (["product", "many"] : List Str) by decide +kernel) rfl (Or.inl rfl)) pgs_nil)))) (fun _ _ _ _ _ => pts_nil) (fun _ _ _ _ _ => (pe_tup (pa_cons (pv 0) (pa_cons (pe_op op_sub pe_int (pv 1)) pa_nil)) : PE _ _ _)) rfl) pa_nil))) pa_nil)))), ?_⟩
  obtain ⟨p1, us1, rfl, e1, d1⟩ := h1.at
  obtain ⟨p2, us2, rfl, e2, d2⟩ := h2.at
  have z1 := d1.length
  have z2 := d2.length
  rw [List.length_map] at z1 z2
  refine ⟨_, rfl, _, rfl, p2, rfl, ⟨us2, SqT.of e2⟩, fun acc hacc => ?_⟩
  refine comp_tupR (xs := us2) (fun i H2 => Same H H2 ∧ ∃ zs, H2 acc = some (.lst zs) ∧ DRs H2 ((negR (b.take i)).map rowD) zs) ⟨same_upd hacc, [], upd_same, .nil⟩ (fun i H2 _ h => SqT.of (h.1 _ _ e2)) ?_ ?_
  · rintro i x H2 hx ⟨g2, zs, ez, dz⟩
    obtain ⟨dd, ed, rd⟩ := d2.get hx
    rw [List.getElem?_map] at ed
    obtain ⟨r, er, rfl⟩ := Option.map_eq_some_iff.mp ed
    obtain ⟨pb, u, rfl, hb, ru⟩ := row_at (rd.mono g2.tk)
    have hi : i < us2.length := (List.getElem?_eq_some_iff.mp hx).1
    have lz := dz.length
    simp only [List.length_map, negR, List.length_take] at lz
    refine ⟨pb, _, rfl, SqT.of hb, rfl, _, _, rfl, _, _, rfl, rfl, .skip (.skip .nil), ?_⟩
    refine ⟨_, rfl, _, rfl, _, _, rfl, rfl, (by show 2 ≤ sizeLine; decide), fun tp htp => ?_⟩
    have g5 := same_upd (o := .tup [u, .int (0 - r.2)]) htp
    refine ⟨zs, g5 _ _ ez, small1000 (by omega), same_set (g2.trans g5) hacc, zs ++ [.ref tp], upd_same, ?_⟩
    have tk6 : Tk (upd H2 tp (.tup [u, .int (0 - r.2)])) (upd (upd H2 tp (.tup [u, .int (0 - r.2)])) acc (.lst (zs ++ [.ref tp]))) := Tk.lst (g5 _ _ ez)
    rw [neg_rows er, List.map_append]
    exact (dz.mono (g5.tk.trans tk6)).app (.cons ((DR.tup (a := tp) upd_same (.cons (ru.mono g5.tk) (.cons (.int _) .nil))).mono tk6) .nil)
  · rintro H3 ⟨g3, zs, ez, dz⟩
    rw [List.take_of_length_le (by omega)] at dz
    have lz := dz.length
    simp only [List.length_map, negR] at lz
    refine ⟨acc, zs, rfl, .inl ⟨SqL.of ez, fun l2 hl2 => ?_⟩⟩
    have g4 := same_upd (o := .tup zs) hl2
    refine ⟨p1, l2, us1, zs, rfl, rfl, (g3.trans g4) _ _ e1, upd_same, line1000 (by omega), fun p H' g e => ?_⟩
    refine ⟨p, us1 ++ zs, a ++ negR b, max n1 n2, rfl, .inl e, by rw [List.map_append]; exact (d1.mono (g3.trans (g4.trans g)).tk).app (dz.mono (g4.trans g).tk), (h1.ok.up (Nat.le_max_left _ _)).app (h2.ok.up (Nat.le_max_right _ _)).neg, by rw [List.length_append]; simp only [negR, List.length_map]; omega, fun v res H2 g2 c eq ok ln dr => ?_⟩
    exact q v res H2 (g3.trans (g4.trans (g.trans g2))) ⟨dr, ok, c⟩ eq ln
theorem ok_times {k : Nat} {f g1 : Addr} {fd gd1 : FuncData} (F : Fun K "times" "times" s_times f fd) (z_sorted : mg "sorted" = none) (z_tuple : mg "tuple" = none) (G_summed : FnB P w K mg base k "summed" g1 gd1 ["rows"] sp_summed) : FnOk P w K mg base CX0 (k + 1) f fd ["one", "other"] (sp_op mulR (· + ·) 20) := by
  refine F.ok sc_times (fun vs H Q E h => ?_) (fun cdv A outer s H vs Q E hr h => ?_)
  · obtain ⟨v1, v2, a, b, n1, n2, rfl, _⟩ := h
    rfl
  obtain ⟨v1, v2, a, b, n1, n2, rfl, h1, h2, hn1, hn2, l1, l2, q⟩ := h
  have hu5 := hu150 hr
  refine ⟨_, (pss_cons (ps_set (i := 2) sc_times.nd rfl (Or.inl rfl) (pe_lst pa_nil : PE _ _ _))
    (pss_cons (ps_for PassesOwn.never rfl (pi_tup (pv 0)) (pg_tup rfl (pgs_cons (pg_name (i := 3) sc_times.nd rfl (Or.inl rfl)) (pgs_cons (pg_name (i := 4) sc_times.nd rfl (Or.inl rfl)) pgs_nil))) (pss_one (ps_for PassesOwn.never rfl (pi_tup (pv 1)) (pg_tup rfl (pgs_cons (pg_name (i := 5) sc_times.nd rfl (Or.inl rfl)) (pgs_cons (pg_name (i := 6) sc_times.nd rfl (Or.inl rfl)) pgs_nil))) (pss_one (ps_expr (pe_bm PySem.F.plainAttrs_list PySem.F.slot_list_append PySem.F.type_list_append mt_append (pv 2) (pa_cons (pe_tup (pa_cons (pe_callTy call_tuple_of (by rfl) z_tuple PyProof.Rows.boot_tuple (pa_cons (pe_callB (call_sortedTt hu5) (by rfl) z_sorted PyProof.Rows.boot_sorted (pa_cons (pe_op op_catV (pv 3) (pv 5)) pa_nil)) pa_nil)) (pa_cons (pe_op op_mulB (pv 4) (pv 6)) pa_nil)) : PE _ _ _) pa_nil)))))))
    (pss_one (ps_ret (pe_call G_summed.ok hr (by rfl) G_summed.gl G_summed.kp G_summed.bd .nil pass0 (pa_cons (pv 2) pa_nil)))))), ?_⟩
  obtain ⟨p1, us1, rfl, e1, d1⟩ := h1.at
  obtain ⟨p2, us2, rfl, e2, d2⟩ := h2.at
  have z1 := d1.length
  have z2 := d2.length
  rw [List.length_map] at z1 z2
  refine ⟨(by show 0 ≤ sizeLine; decide), fun rw hrw => ?_⟩
  have g0 := same_upd (o := .lst []) hrw
  refine ⟨_, rfl, p1, rfl, ⟨us1, SqT.of (g0 _ _ e1)⟩, ?_⟩
  refine for_tup (xs := us1) (fun i σ' H' => ∃ (zs : List V) (s3 s4 s5 s6 : Option V), σ' = [some (.ref p1), some (.ref p2), some (.ref rw), s3, s4, s5, s6] ∧ Same H H' ∧ H' rw = some (.lst zs) ∧ DRs H' ((mulR (a.take i) b).map rowD) zs) ?_ ?_ ?_ ?_
  · exact ⟨[], none, none, none, none, rfl, g0, upd_same, .nil⟩
  · rintro i σ' H' _ ⟨zs, s3, s4, s5, s6, rfl, g, _⟩
    exact SqT.of (g _ _ e1)
  · rintro i x σ' H1 hx ⟨zs, s3, s4, s5, s6, rfl, g, ez, dz⟩
    obtain ⟨dd, ed, rd⟩ := d1.get hx
    rw [List.getElem?_map] at ed
    obtain ⟨r, er, rfl⟩ := Option.map_eq_some_iff.mp ed
    obtain ⟨pb, u, rfl, hb, ru⟩ := row_at (rd.mono g.tk)
    have hi : i < us1.length := (List.getElem?_eq_some_iff.mp hx).1
    have hra := List.mem_of_getElem? er
    obtain ⟨as, eas, las, has⟩ := h1.ok r hra
    refine ⟨pb, _, rfl, SqT.of hb, rfl, _, _, rfl, _, _, rfl, rfl, ?_⟩
    refine ⟨_, rfl, p2, rfl, ⟨us2, SqT.of (g _ _ e2)⟩, ?_⟩
    have lzz : (mulR (a.take i) b).length ≤ i * 20 := by
      rw [mulR_len, List.length_take]
      exact Nat.mul_le_mul (by omega) l2
    refine for_tup (xs := us2) (fun j σ' H' => ∃ (ys : List V) (s5 s6 : Option V), σ' = [some (.ref p1), some (.ref p2), some (.ref rw), some u, some (.int r.2), s5, s6] ∧ Same H H' ∧ H' rw = some (.lst ys) ∧ DRs H' ((mulR (a.take i) b ++ (b.take j).map fun q => (mulD r.1 q.1, r.2 * q.2)).map rowD) ys ∧ DR H' r.1 u) ?_ ?_ ?_ ?_
    · exact ⟨zs, _, _, rfl, g, ez, by simpa using dz, ru⟩
    · rintro j σ' H' _ ⟨ys, s5, s6, rfl, g', _⟩
      exact SqT.of (g' _ _ e2)
    · rintro j y σ' H2 hy ⟨ys, s5, s6, rfl, g2, ey, dy, ru2⟩
      obtain ⟨dd, ed, rd2⟩ := d2.get hy
      rw [List.getElem?_map] at ed
      obtain ⟨t, et, rfl⟩ := Option.map_eq_some_iff.mp ed
      obtain ⟨qb, x2, rfl, hqb, rx2⟩ := row_at (rd2.mono g2.tk)
      have hj : j < us2.length := (List.getElem?_eq_some_iff.mp hy).1
      have htb := List.mem_of_getElem? et
      obtain ⟨bs, ebs, lbs, hbs⟩ := h2.ok t htb
      have ly := dy.length
      simp only [List.length_map, List.length_append, List.length_take] at ly
      rw [eas] at ru2
      rw [ebs] at rx2
      obtain ⟨ua, vs1, eu1, hua, dv1⟩ : ∃ ua vs1, u = .ref ua ∧ H2 ua = some (.tup vs1) ∧ DRs H2 as vs1 := by
        cases ru2 with
        | tup q1 q2 => exact ⟨_, _, rfl, q1, q2⟩
      obtain ⟨ub, vs2, eu2, hub, dv2⟩ : ∃ ub vs2, x2 = .ref ub ∧ H2 ub = some (.tup vs2) ∧ DRs H2 bs vs2 := by
        cases rx2 with
        | tup q1 q2 => exact ⟨_, _, rfl, q1, q2⟩
      subst eu1 eu2
      have y1 := dv1.length
      have y2 := dv2.length
      refine ⟨qb, _, rfl, SqT.of hqb, rfl, _, _, rfl, _, _, rfl, rfl, ?_⟩
      refine ⟨_, rfl, .inl ⟨rfl, _, SqL.of ey⟩, _, rfl, _, rfl, ua, ub, vs1, vs2, rfl, rfl, hua, hub, line1000 (by omega), fun c1 H3 g3 ec1 => ?_⟩
      refine ⟨c1, vs1 ++ vs2, as ++ bs, rfl, ec1, (dv1.mono g3.tk).app (dv2.mono g3.tk), srt_unknowns (fun u hu => (List.mem_append.mp hu).elim (has u) (hbs u)) (by rw [List.length_append]; omega), fun l' ws hl' dws => ?_⟩
      have g4 := same_upd (o := .lst ws) hl'
      refine ⟨l', ws, rfl, .inl ⟨SqL.of upd_same, fun tp htp => ?_⟩⟩
      have g5 := same_upd (o := .tup ws) htp
      refine ⟨_, rfl, _, rfl, _, _, rfl, rfl, ⟨nat100 (h1.can.2 r hra), nat100 (h2.can.2 t htb)⟩, ?_⟩
      refine ⟨(by show 2 ≤ sizeLine; decide), fun tq htq => ?_⟩
      have g6 := same_upd (o := .tup [.ref tp, .int (r.2 * t.2)]) htq
      have gA := g3.trans (g4.trans (g5.trans g6))
      have eyA := gA _ _ ey
      refine ⟨rw, ys, _, rfl, rfl, eyA, small1000 (by omega), ?_⟩
      have tkA := Tk.lst (o := .lst (ys ++ [.ref tq])) eyA
      refine ⟨_, _, _, rfl, same_set (g2.trans gA) hrw, upd_same, ?_, ?_⟩
      · have e8 : (mulR (a.take i) b ++ (b.take (j + 1)).map fun q => (mulD r.1 q.1, r.2 * q.2)).map rowD = (mulR (a.take i) b ++ (b.take j).map fun q => (mulD r.1 q.1, r.2 * q.2)).map rowD ++ [rowD (mulD r.1 t.1, r.2 * t.2)] := by
          rw [take_next' et]; simp
        rw [e8]
        refine (dy.mono (gA.tk.trans tkA)).app (.cons ?_ .nil)
        show DR _ (rowD (mulD r.1 t.1, r.2 * t.2)) _
        have e9 : mulD r.1 t.1 = .tup (sortD (as ++ bs)) := by rw [eas, ebs]; rfl
        rw [e9]
        exact DR.mono tkA (.tup upd_same (.cons (.tup (g6 _ _ upd_same) ((dws.mono g4.tk).mono (g5.trans g6).tk)) (.cons (.int _) .nil)))
      · rw [eas]
        exact ru2.mono (gA.tk.trans tkA)
    · rintro σ' H' ⟨ys, s5, s6, rfl, g', ey, dy, ru'⟩
      have e2 : b.take us2.length = b := List.take_of_length_le (by omega)
      rw [e2] at dy
      refine ⟨ys, _, _, _, _, rfl, g', ey, ?_⟩
      rw [take_next' er]
      have : mulR (a.take i ++ [r]) b = mulR (a.take i) b ++ b.map fun q => (mulD r.1 q.1, r.2 * q.2) := by
        unfold mulR
        rw [List.flatMap_append]
        simp
      rw [this]
      exact dy
  · rintro σ' H' ⟨zs, s3, s4, s5, s6, rfl, g, ez, dz⟩
    rw [List.take_of_length_le (by omega)] at dz
    have lm := mulR_len a b
    have lm2 : a.length * b.length ≤ 20 * 20 := Nat.mul_le_mul l1 l2
    refine ⟨_, rfl, rw, zs, mulR a b, n1 + n2, rfl, .inr ez, dz, h1.ok.mul h2.ok, by omega, fun v res H2 g2 c eq ok ln dr => ?_⟩
    exact q v res H2 (g.trans g2) ⟨dr, ok, c⟩ eq ln
end
end K36
set_option Elab.async false
set_option linter.all false
set_option maxRecDepth 100000
set_option maxHeartbeats 4000000
namespace L2
open PySem
theorem sIx_int {n d : Nat} {v : Int} (h0 : 0 ≤ v) (h1 : v ≤ n) : HT.sIx n d (some v) = v.toNat := by
  have e : ((v.toNat : Nat) : Int) = v := by omega
  rw [← e, HT.sIx_nat, Int.toNat_natCast]
  omega
theorem cutInts {ns : List Int} {lo hi : Option Int} {i j : Nat} (h1 : HT.sIx ns.length 0 lo = i) (h2 : HT.sIx ns.length ns.length hi = j) (h : j ≤ ns.length) : ∃ ms : List Int, cutV (ns.map V.int) lo hi = ms.map V.int ∧ ms.length = j - i := by
  refine ⟨(ns.drop i).take (j - i), ?_, ?_⟩
  · unfold cutV
    rw [List.length_map, h1, h2, ← List.map_drop, ← List.map_take]
  · rw [List.length_take, List.length_drop]
    omega
theorem len_app (x y : Str) : (x ++ y).length = x.length + y.length := strLen_append x y
def nm (ws : List Str) (i : Int) : Str := ws.getD i.toNat ⟨#[]⟩
def abc : Str := Str.ofString "abcdefghijklmnopqrstuvwxyz"
theorem abc_list : abc.cps.toList = List.range' 97 26 := by decide +kernel
theorem abc_len : abc.length = 26 := by decide +kernel
theorem abc_at (z : Int) : atI abc.cps.toList (z % 26) = some (97 + (z % 26).toNat) := by
  have h0 := Int.emod_nonneg z (show (26 : Int) ≠ 0 by decide)
  have h1 := Int.emod_lt_of_pos z (show (0 : Int) < 26 by decide)
  have e : (((z % 26).toNat : Nat) : Int) = z % 26 := by omega
  have hl : (z % 26).toNat < 26 := by omega
  have := atI_nat (xs := abc.cps.toList) (j := (z % 26).toNat) (v := 97 + (z % 26).toNat) (by rw [abc_list, List.getElem?_range' hl]; simp)
  rw [e] at this
  exact this
def ltr (bs : List Int) (at_ k : Int) (t : Nat) : Nat := 97 + ((bs.getD t 0 + k * (if (t : Int) = at_ then 1 else 0)) % 26).toNat
def wd (bs : List Int) (at_ k : Int) : Str := ⟨((List.range bs.length).map (ltr bs at_ k)).toArray⟩
theorem wd_len (bs : List Int) (at_ k : Int) : (wd bs at_ k).length = bs.length := by
  show ((List.range bs.length).map (ltr bs at_ k)).toArray.size = _
  simp
theorem join_codes (l : List Nat) : Txt.join (Str.ofString "") (l.map fun k => (⟨#[k]⟩ : Str)) = ⟨l.toArray⟩ := by
  show Builtin.Str.glued (Str.ofString "") _ = _
  rw [StrLaws.glued_eq_join]
  exact PyProof.Rows.join_ones l
theorem snoc_words {bs : List Int} {at_ : Int} {ws : List Str} {i : Nat} {x : Str} (l2 : ws.length = i) (hws : ∀ t x, ws[t]? = some x → x = wd bs at_ (t : Nat) ∨ x = wd bs at_ (t : Nat) ++ Str.ofString "s") (hx : x = wd bs at_ (i : Nat) ∨ x = wd bs at_ (i : Nat) ++ Str.ofString "s") :
    ∀ t y, (ws ++ [x])[t]? = some y → y = wd bs at_ (t : Nat) ∨ y = wd bs at_ (t : Nat) ++ Str.ofString "s" := by
  intro t y hy
  rcases Nat.lt_or_ge t ws.length with h | h
  · rw [List.getElem?_append_left h] at hy
    exact hws t y hy
  · rw [List.getElem?_append_right h] at hy
    have h0 : t - ws.length = 0 := by
      rcases Nat.eq_zero_or_pos (t - ws.length) with z | z
      · exact z
      · rw [List.getElem?_eq_none (by simp; omega)] at hy
        cases hy
    rw [h0] at hy
    have e : x = y := by simpa using hy
    have et : t = i := by omega
    rw [← e, et]
    exact hx
theorem sum_ones : ∀ {ys : List Str}, (∀ y ∈ ys, y.length = 1) → (ys.map (·.length)).sum = ys.length
  | [], _ => rfl
  | y :: ys, h => by
    rw [List.map_cons, List.sum_cons, List.length_cons, h y List.mem_cons_self, sum_ones fun z hz => h z (List.mem_cons_of_mem _ hz)]
    omega
end L2
namespace K36
open PySem PySem.Spec L2 PyProof.Rows
abbrev s_law_cell_at : Stmt := top 8
theorem sc_law_cell_at : FnScope ["_law_script", "_law_k"] ["_law_script", "_law_k"] (defScope s_law_cell_at) := ⟨rfl, rfl, rfl, by decide +kernel, rfl, by decide +kernel, by decide +kernel⟩
abbrev s_law_words : Stmt := top 9
theorem sc_law_words : FnScope ["_law_cell", "_law_many", "_law_letters", "_law_number", "_law_base", "_law_k", "_law_at", "_law_words_here", "_law_word"] ["_law_cell", "_law_many"] (defScope s_law_words) := ⟨rfl, rfl, rfl, by decide +kernel, rfl, by decide +kernel, by decide +kernel⟩
abbrev s_law_mixed : Stmt := top 10
theorem sc_law_mixed : FnScope ["_law_cell", "_law_many", "_law_number", "_law_found", "_law_k"] ["_law_cell", "_law_many"] (defScope s_law_mixed) := ⟨rfl, rfl, rfl, by decide +kernel, rfl, by decide +kernel, by decide +kernel⟩
section
variable {P : Program} {w : World} {K : PySem.W.Frag} {mg : Str → Option Value} {base : Heap}
def sp_cell_at (K : PySem.W.Frag) : Sp := fun vs H Q _ => ∃ (a : Addr) (ns : List Int) (k : Int), vs = [.ref a, .int k] ∧ SqL K H a (ns.map V.int) ∧ 0 ≤ k ∧ Q (.int (ns.getD k.toNat 0)) H
theorem ok_cell_at {k : Nat} {f : Addr} {fd : FuncData} (F : Fun K "_law_cell_at" "_law_cell_at" s_law_cell_at f fd) (z_len : mg "len" = none) : FnOk P w K mg base CX0 (k + 1) f fd ["_law_script", "_law_k"] (sp_cell_at K) := by
  refine F.ok sc_law_cell_at (fun vs H Q E h => ?_) (fun cdv A outer s H vs Q E hr h => ?_)
  · obtain ⟨a, ns, k, rfl, _⟩ := h
    rfl
  obtain ⟨a, ns, k, rfl, hS, h0, q⟩ := h
  refine ⟨_, (pss_cons (ps_if (pt_cmpR op_lt (pv 1) (pe_callB call_len_seq (by rfl) z_len PySem.boot_len (pa_cons (pv 0) pa_nil)) (nomark _)) (pss_one (ps_ret (pe_ix (r := rIxL K) ix_list (pv 0) (pv 1) (fun _ _ => rfl)))) pss_nil)
    (pss_one (ps_ret pe_int))), ?_⟩
  refine ⟨_, rfl, _, rfl, a, _, rfl, .inl hS, _, _, rfl, rfl, _, rfl, ?_⟩
  refine ite2 (fun c => ?_) (fun c => ?_)
  · have c' : k < ((ns.map V.int).length : Int) := of_decide_eq_true c
    rw [List.length_map] at c'
    have hl : k.toNat < ns.length := by omega
    have e : ((k.toNat : Nat) : Int) = k := by omega
    have at_ := atI_nat (xs := ns.map V.int) (j := k.toNat) (v := .int ns[k.toNat]) (by simp [hl])
    rw [e] at at_
    refine ⟨_, rfl, _, rfl, a, _, k, _, rfl, rfl, hS, at_, ?_⟩
    have e2 : ns.getD k.toNat 0 = ns[k.toNat] := by rw [List.getD_eq_getElem?_getD, List.getElem?_eq_getElem hl, Option.getD_some]
    rw [← e2]
    exact q
  · have c' : ¬ k < ((ns.map V.int).length : Int) := fun z => c (decide_eq_true z)
    rw [List.length_map] at c'
    have e2 : ns.getD k.toNat 0 = 0 := by
      rw [List.getD_eq_getElem?_getD, List.getElem?_eq_none (by omega)]
      rfl
    rw [e2] at q
    exact q
def sp_words : Sp := fun vs H Q _ => ∃ (c m : Int), vs = [.int c, .int m] ∧ 0 ≤ m ∧ m ≤ 10 ∧ ∀ (l : Addr) (H' : Hp) (ws : List Str), Same H H' → H' l = some (.lst (ws.map V.str)) → ws.length = m.toNat → (∀ x ∈ ws, x.length ≤ 9) → Q (.ref l) H'
theorem ok_words {k : Nat} {f : Addr} {fd : FuncData} (F : Fun K "_law_words" "_law_words" s_law_words f fd) (z_range : mg "range" = none) (z_len : mg "len" = none) (z_int : mg "int" = none) : FnOk P w K mg base CX0 (k + 1) f fd ["_law_cell", "_law_many"] sp_words := by
  refine F.ok sc_law_words (fun vs H Q E h => ?_) (fun cdv A outer s H vs Q E hr h => ?_)
  · obtain ⟨c, m, rfl, _⟩ := h
    rfl
  obtain ⟨c, m, rfl, hm0, hm1, q⟩ := h
  refine ⟨_, (pss_cons (ps_set (i := 2) sc_law_words.nd rfl (Or.inr rfl) pe_str)
    (pss_cons (ps_set (i := 3) sc_law_words.nd rfl (Or.inl rfl) (pe_op op_add (pe_op op_mod (pv 0) pe_int) pe_int))
    (pss_cons (ps_set (i := 4) sc_law_words.nd rfl (Or.inr rfl) (pe_lst pa_nil : PE _ _ _))
    (pss_cons (ps_for PassesOwn.never rfl (pi_range1 (by rfl) z_range (pa_cons (pe_op op_add pe_int (pe_op op_mod (pv 3) pe_int)) pa_nil)) (pg_name (i := 5) sc_law_words.nd rfl (Or.inr rfl)) (pss_cons (ps_set (i := 3) sc_law_words.nd rfl (Or.inl rfl) (pe_op op_mod (pe_op op_mul (pv 3) pe_int) pe_int))
    (pss_one (ps_expr (pe_bm PySem.F.plainAttrs_list PySem.F.slot_list_append PySem.F.type_list_append mt_append (pv 4) (pa_cons (pe_op op_mod (pv 3) pe_int) pa_nil))))))
    (pss_cons (ps_set (i := 6) sc_law_words.nd rfl (Or.inr rfl) (pe_op op_mod (pe_op op_fdiv (pv 3) pe_int) (pe_callB call_len_seq (by rfl) z_len PySem.boot_len (pa_cons (pv 4) pa_nil))))
    (pss_cons (ps_set (i := 7) sc_law_words.nd rfl (Or.inl rfl) (pe_lst pa_nil : PE _ _ _))
    (pss_cons (ps_for PassesOwn.never rfl (pi_range1 (by rfl) z_range (pa_cons (pv 1) pa_nil)) (pg_name (i := 5) sc_law_words.nd rfl (Or.inr rfl)) (pss_cons (ps_set (i := 8) sc_law_words.nd rfl (Or.inl rfl) (pe_bm PySem.F.plainAttrs_str PySem.F.slot_str_join PySem.F.type_str_join mt_join pe_str (pa_cons (pe_compB ["_law_j", "_law_letters", "_law_base", "_law_k", "_law_at"] [none, some 2, some 4, some 5, some 6] rfl (pi_range1 (by rfl) z_range (pa_cons (pe_callB call_len_seq (by rfl) z_len PySem.boot_len (pa_cons (pv 4) pa_nil)) pa_nil)) (fun _ _ _ _ _ => (pg_name (i := 0) (show List.Nodup (["_law_j", "_law_letters", "_law_base", "_law_k", "_law_at"] : List Str) by decide +kernel) rfl (Or.inl rfl))) (fun _ _ _ _ _ => pts_nil) (fun _ _ _ _ _ => (pe_ix ix_str (pv 1) (pe_op op_mod (pe_op op_add (pe_ix (r := rIxL K) ix_list (pv 2) (pv 0) (fun _ _ => rfl)) (pe_op op_mul (pv 3) (pe_callTy call_int1 (by rfl) z_int PyProof.Rows.boot_int (pa_cons (pe_cmpR op_eq (pv 0) (pv 4) (nomark _)) pa_nil)))) pe_int) (fun _ _ => rfl))) rfl) pa_nil)))
    (pss_cons (ps_if (pt_cmpR (r := rIn K false) op_in_seq (pv 8) (pe_lstR [.str "let", .str "in", .str "if", .str "then", .str "else", .str "say", .str "ask", .str "stop", .str "where", .str "quiet", .str "number"] (by rfl) : PE _ _ _) rfl) (pss_one (ps_set (i := 8) sc_law_words.nd rfl (Or.inl rfl) (pe_op op_add_str (pv 8) pe_str))) pss_nil)
    (pss_one (ps_expr (pe_bm PySem.F.plainAttrs_list PySem.F.slot_list_append PySem.F.type_list_append mt_append (pv 7) (pa_cons (pv 8) pa_nil)))))))
    (pss_one (ps_ret (pv 7)))))))))), ?_⟩
  generalize hL : Str.ofString "abcdefghijklmnopqrstuvwxyz" = L
  have hLabc : L = abc := hL.symm
  have hLlen : L.length = 26 := by rw [hLabc]; exact abc_len
  refine ⟨_, rfl, _, _, rfl, rfl, (show (0 : Int) < 2147483646 by decide), _, _, rfl, rfl, ?_⟩
  refine ⟨(by show 0 ≤ sizeLine; decide), fun lb hlb => ?_⟩
  dsimp only
  generalize c % 2147483646 + 1 = N
  have n0 := Int.emod_nonneg N (show (7 : Int) ≠ 0 by decide)
  have n1 := Int.emod_lt_of_pos N (show (0 : Int) < 7 by decide)
  refine ⟨_, rfl, _, _, rfl, rfl, (show (0 : Int) < 7 by decide), _, _, rfl, rfl, 1 + N % 7, rfl, by omega, by omega, ?_⟩
  refine for_range (n := (1 + N % 7).toNat) (fun i σ' H' => ∃ (bs : List Int) (M : Int) (s5 : Option V), σ' = [some (.int c), some (.int m), some (.str L), some (.int M), some (.ref lb), s5, none, none, none] ∧ Same H H' ∧ H' lb = some (.lst (bs.map V.int)) ∧ bs.length = i) ⟨[], N, none, rfl, same_upd hlb, upd_same, rfl⟩ ?_ ?_
  · rintro i σ1 H1 hi ⟨bs, M, s5, rfl, g1, e1, l1⟩
    refine ⟨_, rfl, _, _, rfl, rfl, .inr ⟨by decide, by decide⟩, _, _, rfl, rfl, (show (0 : Int) < 2147483647 by decide), ?_⟩
    refine ⟨_, rfl, .inl ⟨rfl, _, SqL.of e1⟩, _, rfl, _, _, rfl, rfl, (show (0 : Int) < 26 by decide), lb, _, _, rfl, rfl, e1, small1000 (by rw [List.length_map]; omega), ?_⟩
    refine ⟨bs ++ [M * 48271 % 2147483647 % 26], _, _, rfl, same_set g1 hlb, ?_, by simp [l1]⟩
    rw [upd_same, List.map_append]
    rfl
  · rintro σ1 H1 ⟨bs, M, s5, rfl, g1, e1, l1⟩
    have lb1 : (bs.map V.int).length = bs.length := List.length_map _
    have hbp : (0 : Int) < ((bs.map V.int).length : Int) := by omega
    refine ⟨_, rfl, _, _, rfl, rfl, ⟨(show (0 : Int) < 26 by decide), (show (26 : Int) < 1073741824 by decide)⟩, _, rfl, lb, _, rfl, .inl (SqL.of e1), _, _, rfl, rfl, hbp, ?_⟩
    dsimp only
    have at0 := Int.emod_nonneg (M / 26) (show ((bs.map V.int).length : Int) ≠ 0 by omega)
    have at1 := Int.emod_lt_of_pos (M / 26) hbp
    generalize M / 26 % ((bs.map V.int).length : Int) = at_ at at0 at1 ⊢
    rw [lb1] at at1
    refine ⟨(by show 0 ≤ sizeLine; decide), fun lw hlw => ?_⟩
    have hlwH : H lw = none := g1.free hlw
    refine ⟨_, rfl, m, rfl, by omega, by omega, ?_⟩
    refine for_range (n := m.toNat) (fun i σ' H' => ∃ (ws : List Str) (s5 s8 : Option V), σ' = [some (.int c), some (.int m), some (.str L), some (.int M), some (.ref lb), s5, some (.int at_), some (.ref lw), s8] ∧ Same H H' ∧ H' lb = some (.lst (bs.map V.int)) ∧ H' lw = some (.lst (ws.map V.str)) ∧ ws.length = i ∧ ∀ t x, ws[t]? = some x → x = wd bs at_ (t : Nat) ∨ x = wd bs at_ (t : Nat) ++ Str.ofString "s") ⟨[], _, _, rfl, g1.trans (same_upd hlw), same_upd hlw _ _ e1, upd_same, rfl, by simp⟩ ?_ ?_
    · rintro i σ2 H2 hi ⟨ws, s5, s8, rfl, g2, e2, ew, l2, hws⟩
      refine ⟨rfl, _, rfl, lb, _, rfl, .inl (SqL.of e2), _, rfl, by omega, by omega, fun acc hacc => ?_⟩
      refine comp_rangeR (n := (((bs.map V.int).length : Nat) : Int).toNat) (fun j H' => Same H2 H' ∧ H' acc = some (.lst ((((List.range j).map (ltr bs at_ i)).map fun c => (⟨#[c]⟩ : Str)).map V.str))) ⟨same_upd hacc, upd_same⟩ ?_ ?_
      · rintro j H3 hj ⟨g3, ey⟩
        have hj1 : j < bs.length := by
          have : j < (bs.map V.int).length := by simpa using hj
          omega
        have hbn : atI (bs.map V.int) ((0 : Int) + (j : Int)) = some (.int (bs.getD j 0)) := by
          rw [Int.zero_add]
          refine atI_nat ?_
          rw [List.getElem?_map, List.getElem?_eq_getElem hj1, List.getD_eq_getElem?_getD, List.getElem?_eq_getElem hj1]
          rfl
        refine ⟨.skip (.keep (.keep (.keep (.keep .nil)))), ?_⟩
        refine ⟨_, rfl, _, rfl, _, rfl, lb, _, _, _, rfl, rfl, SqL.of (g3 _ _ e2), hbn, _, rfl, _, rfl, _, rfl, rfl, ?_⟩
        refine .inr ⟨_, rfl, ?_⟩
        refine ⟨_, _, rfl, rfl, .inl ⟨by omega, by omega⟩, _, _, rfl, rfl, _, _, rfl, rfl, (show (0 : Int) < 26 by decide), ?_⟩
        have ec := abc_at (bs.getD j 0 + (0 + (i : Int)) * (if decide (V.int (0 + (j : Int)) = V.int at_) = true then 1 else 0))
        have el : 97 + ((bs.getD j 0 + (0 + (i : Int)) * (if decide (V.int (0 + (j : Int)) = V.int at_) = true then 1 else 0)) % 26).toNat = ltr bs at_ i j := by
          unfold ltr
          rw [Int.zero_add, Int.zero_add]
          by_cases hc : (j : Int) = at_
          · rw [if_pos hc, if_pos (decide_eq_true (by rw [hc]))]
          · rw [if_neg hc, if_neg (by rw [decide_eq_false (fun z => hc (V.int.inj z))]; exact Bool.false_ne_true)]
        rw [el, ← hLabc] at ec
        refine ⟨L, _, _, rfl, rfl, line1000 (by rw [hLlen]; decide), ec, _, ey, small1000 (by simp; omega), same_set g3 hacc, ?_⟩
        rw [upd_same, List.range_succ]
        simp
      · rintro H3 ⟨g3, ey⟩
        have hn : ((((bs.map V.int).length : Nat) : Int)).toNat = bs.length := by simp
        rw [hn] at ey
        refine ⟨_, acc, _, rfl, rfl, ey, by decide +kernel, ?_, ?_⟩
        · rw [sum_ones (by simp; intro a _; rfl)]
          simp
          omega
        rw [join_codes]
        have lj : (wd bs at_ i).length = bs.length := wd_len bs at_ i
        have hxw : (⟨((List.range bs.length).map (ltr bs at_ i)).toArray⟩ : Str) = wd bs at_ i := rfl
        rw [hxw]
        generalize hx : wd bs at_ i = x at lj
        refine ⟨_, rfl, (by show 11 ≤ sizeLine; decide), fun p hp => ⟨p, _, rfl, .inl (SqL.of upd_same), rfl, rfl, _, rfl, ?_⟩⟩
        have g4 := g3.trans (same_upd (o := .lst [.str "let", .str "in", .str "if", .str "then", .str "else", .str "say", .str "ask", .str "stop", .str "where", .str "quiet", .str "number"]) hp)
        generalize upd H3 p (.lst [.str "let", .str "in", .str "if", .str "then", .str "else", .str "say", .str "ask", .str "stop", .str "where", .str "quiet", .str "number"]) = H4 at g4 ⊢
        refine ite2 (fun _ => ?_) (fun _ => ?_)
        · refine ⟨_, rfl, _, _, rfl, rfl, line1000 ?_, ?_⟩
          · show x.length + 1 ≤ 1000
            omega
          refine ⟨_, rfl, .inl ⟨rfl, _, SqL.of (g4 _ _ ew)⟩, _, rfl, lw, _, _, rfl, rfl, g4 _ _ ew, small1000 (by rw [List.length_map]; omega), ?_⟩
          refine ⟨ws ++ [x ++ Str.ofString "s"], _, _, rfl, same_set (g2.trans g4) hlwH, ?_, ?_, by simp [l2], snoc_words l2 hws (.inr (by rw [hx]))⟩
          · rw [upd_ne (ne_of_none e1 hlw)]
            exact g4 _ _ e2
          · rw [upd_same, List.map_append]
            rfl
        · refine ⟨_, rfl, .inl ⟨rfl, _, SqL.of (g4 _ _ ew)⟩, _, rfl, lw, _, _, rfl, rfl, g4 _ _ ew, small1000 (by rw [List.length_map]; omega), ?_⟩
          refine ⟨ws ++ [x], _, _, rfl, same_set (g2.trans g4) hlwH, ?_, ?_, by simp [l2], snoc_words l2 hws (.inl hx.symm)⟩
          · rw [upd_ne (ne_of_none e1 hlw)]
            exact g4 _ _ e2
          · rw [upd_same, List.map_append]
            rfl
    · rintro σ2 H2 ⟨ws, s5, s8, rfl, g2, e2, ew, l2, hws⟩
      refine ⟨_, rfl, q lw H2 ws g2 ew l2 fun x hx => ?_⟩
      obtain ⟨t, ht⟩ := List.getElem?_of_mem hx
      have hs1 : (Str.ofString "s").length = 1 := by decide +kernel
      rcases hws t x ht with rfl | rfl
      · rw [wd_len]; omega
      · rw [len_app, wd_len, hs1]; omega
def sp_mixed : Sp := fun vs H Q _ => ∃ (c m : Int), vs = [.int c, .int m] ∧ 0 ≤ m ∧ m ≤ 10 ∧ ∀ (l : Addr) (H' : Hp) (ns : List Int), Same H H' → H' l = some (.lst (ns.map V.int)) → ns.length = m.toNat → Q (.ref l) H'
theorem ok_mixed {k : Nat} {f : Addr} {fd : FuncData} (F : Fun K "_law_mixed" "_law_mixed" s_law_mixed f fd) (z_range : mg "range" = none) : FnOk P w K mg base CX0 (k + 1) f fd ["_law_cell", "_law_many"] sp_mixed := by
  refine F.ok sc_law_mixed (fun vs H Q E h => ?_) (fun cdv A outer s H vs Q E hr h => ?_)
  · obtain ⟨c, m, rfl, _⟩ := h
    rfl
  obtain ⟨c, m, rfl, hm0, hm1, q⟩ := h
  refine ⟨_, (pss_cons (ps_set (i := 2) sc_law_mixed.nd rfl (Or.inl rfl) (pe_op op_add (pe_op op_mod (pv 0) pe_int) pe_int))
    (pss_cons (ps_set (i := 3) sc_law_mixed.nd rfl (Or.inl rfl) (pe_lst pa_nil : PE _ _ _))
    (pss_cons (ps_for PassesOwn.never rfl (pi_range1 (by rfl) z_range (pa_cons (pv 1) pa_nil)) (pg_name (i := 4) sc_law_mixed.nd rfl (Or.inl rfl)) (pss_cons (ps_set (i := 2) sc_law_mixed.nd rfl (Or.inl rfl) (pe_op op_mod (pe_op op_mul (pv 2) pe_int) pe_int))
    (pss_one (ps_expr (pe_bm PySem.F.plainAttrs_list PySem.F.slot_list_append PySem.F.type_list_append mt_append (pv 3) (pa_cons (pv 2) pa_nil))))))
    (pss_one (ps_ret (pv 3)))))), ?_⟩
  refine ⟨_, rfl, _, _, rfl, rfl, (show (0 : Int) < 2147483646 by decide), _, _, rfl, rfl, ?_⟩
  refine ⟨(by show 0 ≤ sizeLine; decide), fun lb hlb => ?_⟩
  dsimp only
  generalize c % 2147483646 + 1 = N
  refine ⟨_, rfl, m, rfl, by omega, by omega, ?_⟩
  refine for_range (n := m.toNat) (fun i σ' H' => ∃ (bs : List Int) (M : Int) (s5 : Option V), σ' = [some (.int c), some (.int m), some (.int M), some (.ref lb), s5] ∧ Same H H' ∧ H' lb = some (.lst (bs.map V.int)) ∧ bs.length = i) ⟨[], N, none, rfl, same_upd hlb, upd_same, rfl⟩ ?_ ?_
  · rintro i σ1 H1 hi ⟨bs, M, s5, rfl, g1, e1, l1⟩
    refine ⟨_, rfl, _, _, rfl, rfl, .inr ⟨by decide, by decide⟩, _, _, rfl, rfl, (show (0 : Int) < 2147483647 by decide), ?_⟩
    refine ⟨_, rfl, .inl ⟨rfl, _, SqL.of e1⟩, _, rfl, lb, _, _, rfl, rfl, e1, small1000 (by rw [List.length_map]; omega), ?_⟩
    refine ⟨bs ++ [M * 48271 % 2147483647], _, _, rfl, same_set g1 hlb, ?_, by simp [l1]⟩
    rw [upd_same, List.map_append]
    rfl
  · rintro σ1 H1 ⟨bs, M, s5, rfl, g1, e1, l1⟩
    exact ⟨_, rfl, q lb H1 bs g1 e1 l1⟩
end
end K36
set_option Elab.async false
set_option linter.all false
set_option maxRecDepth 100000
set_option maxHeartbeats 4000000
namespace L2
open PySem
theorem mk_tup {H : Hp} {p : Addr} {us : List V} {ds : List Dt} (h : H p = none) (d : DRs H ds us) : DR (upd H p (.tup us)) (.tup ds) (.ref p) := .tup upd_same (d.mono (same_upd h).tk)
theorem two_le : 2 ≤ sizeLine := by decide
theorem one_le : 1 ≤ sizeLine := by decide
theorem no_le : 0 ≤ sizeLine := by decide
def gapD (x : Str) : Dt := .tup [.str x, .tup []]
def numG (x : Str) (n : Int) : Dt := .tup [.str x, .tup [.tup [.tup [.tup [], .int n]]]]
def sumG (x : Str) (p : Dt) : Dt := .tup [.str x, .tup [.tup [.tup [.tup [p], .int 1]]]]
def rowsG (p q : Dt) (n : Int) : List Dt := [.tup [.tup [p], .int n], .tup [.tup [q, q], .int 1]]
def bigG (x : Str) (p q : Dt) (n : Int) : Dt := .tup [.str x, .tup [.tup (sortD (rowsG p q n)), .tup []]]
theorem gap_ok (x : Str) : UOk (gapD x) := ⟨rfl, by show 2 ≤ 7; decide⟩
theorem num_ok (x : Str) (n : Int) : UOk (numG x n) := ⟨rfl, by simp [numG, Dt.deep, Dt.deeps]⟩
theorem one_ok (x y : Str) : UOk (sumG x (gapD y)) := ⟨rfl, by show 7 ≤ 7; decide⟩
theorem rows_srt (y z : Str) (n : Int) : SrtOk (rowsG (gapD y) (gapD z) n) := by
  refine ⟨.inr fun d hd => ?_, fun d hd e he => cmp_of (.two (.many U1) .int) ?_ ?_, by show 4 ≤ _; decide, by show 2 ≤ 1000; decide⟩
  · rcases List.mem_cons.mp hd with rfl | hd
    · exact .inr ⟨_, _, rfl⟩
    · rw [List.mem_singleton.mp hd]
      exact .inr ⟨_, _, rfl⟩
  · rcases List.mem_cons.mp hd with rfl | hd
    · rfl
    · rw [List.mem_singleton.mp hd]
      rfl
  · rcases List.mem_cons.mp he with rfl | hd
    · rfl
    · rw [List.mem_singleton.mp hd]
      rfl
theorem rows_in {y z : Str} {n : Int} {d : Dt} (h : d ∈ sortD (rowsG (gapD y) (gapD z) n)) : Dt.has (.two (.many U1) .int) d = true ∧ d.deep ≤ 4 := by
  have hd := (sortD_perm _).mem_iff.mp h
  rcases List.mem_cons.mp hd with rfl | hd
  · exact ⟨rfl, by show 4 ≤ 4; decide⟩
  · rw [List.mem_singleton.mp hd]
    exact ⟨rfl, by show 4 ≤ 4; decide⟩
theorem big_ok (x y z : Str) (n : Int) : UOk (bigG x (gapD y) (gapD z) n) := by
  have h1 : Dt.hass (.two (.many U1) .int) (sortD (rowsG (gapD y) (gapD z) n)) = true := hass_mem.mpr fun d hd => (rows_in hd).1
  have h2 := deeps_le (ds := sortD (rowsG (gapD y) (gapD z) n)) fun d hd => (rows_in (y := y) (z := z) (n := n) hd).2
  refine ⟨?_, ?_⟩
  · simp [bigG, UT, Dt.has, Dt.hasp, Dt.hasq, Dt.hass, h1]
  · simp only [bigG, Dt.deep, Dt.deeps]
    omega
theorem atI_mod {xs : List V} {k : Nat} (hk : xs.length = k) (h0 : 0 < k) (z : Int) : ∃ (j : Nat) (v : V), xs[j]? = some v ∧ atI xs (z % (k : Int)) = some v := by
  have h1 := Int.emod_nonneg z (show (k : Int) ≠ 0 by omega)
  have h2 := Int.emod_lt_of_pos z (show (0 : Int) < (k : Int) by omega)
  have hl : (z % (k : Int)).toNat < xs.length := by omega
  have e : (((z % (k : Int)).toNat : Nat) : Int) = z % (k : Int) := by omega
  have := atI_nat (xs := xs) (j := (z % (k : Int)).toNat) (v := xs[(z % (k : Int)).toNat]) (List.getElem?_eq_getElem hl)
  rw [e] at this
  exact ⟨_, _, List.getElem?_eq_getElem hl, this⟩
structure Pool (H : Hp) (ds : List Dt) (us : List V) : Prop where
  dr : DRs H ds us
  len : us.length = 6
  ok : ∀ d ∈ ds, UOk d
end L2
namespace K36
open PySem PySem.Spec L2 PyProof.Rows
abbrev s_law_pool : Stmt := top 11
theorem sc_law_pool : FnScope ["_law_cell", "_law_words_here", "_law_n", "_law_one", "_law_two", "_law_three", "_law_four", "_law_five"] ["_law_cell", "_law_words_here"] (defScope s_law_pool) := ⟨rfl, rfl, rfl, by decide +kernel, rfl, by decide +kernel, by decide +kernel⟩
abbrev s_law_product : Stmt := top 12
theorem sc_law_product : FnScope ["_law_cell", "_law_pool_here", "_law_some", "_law_number"] ["_law_cell", "_law_pool_here"] (defScope s_law_product) := ⟨rfl, rfl, rfl, by decide +kernel, rfl, by decide +kernel, by decide +kernel⟩
section
variable {P : Program} {w : World} {K : PySem.W.Frag} {mg : Str → Option Value} {base : Heap}
def sp_pool : Sp := fun vs H Q _ => ∃ (c : Int) (l : Addr) (ws : List Str), vs = [.int c, .ref l] ∧ H l = some (.lst (ws.map V.str)) ∧ ws.length = 4 ∧ (∀ x ∈ ws, x.length ≤ 9) ∧
  ∀ (p : Addr) (H' : Hp) (ds : List Dt) (us : List V), Same H H' → H' p = some (.lst us) → Pool H' ds us → Q (.ref p) H'
theorem ok_pool {k : Nat} {f : Addr} {fd : FuncData} (F : Fun K "_law_pool" "_law_pool" s_law_pool f fd) (z_sorted : mg "sorted" = none) (z_tuple : mg "tuple" = none) : FnOk P w K mg base CX0 (k + 1) f fd ["_law_cell", "_law_words_here"] sp_pool := by
  refine F.ok sc_law_pool (fun vs H Q E h => ?_) (fun cdv A outer s H vs Q E hr h => ?_)
  · obtain ⟨c, l, ws, rfl, _⟩ := h
    rfl
  obtain ⟨c, l, ws, rfl, hl, l4, hx, q⟩ := h
  have hu5 := hu150 hr
  refine ⟨_, (pss_cons (ps_set (i := 2) sc_law_pool.nd rfl (Or.inl rfl) (pe_op op_add pe_int (pe_op op_mod (pv 0) (pe_op op_sub (pe_op op_pow pe_int pe_int) pe_int))))
    (pss_cons (ps_set (i := 3) sc_law_pool.nd rfl (Or.inl rfl) (pe_tup (pa_cons (pe_ix (r := rIxL K) ix_list (pv 1) pe_int (fun _ _ => rfl)) (pa_cons (pe_tup pa_nil : PE _ _ _) pa_nil)) : PE _ _ _))
    (pss_cons (ps_set (i := 4) sc_law_pool.nd rfl (Or.inl rfl) (pe_tup (pa_cons (pe_ix (r := rIxL K) ix_list (pv 1) pe_int (fun _ _ => rfl)) (pa_cons (pe_tup pa_nil : PE _ _ _) pa_nil)) : PE _ _ _))
    (pss_cons (ps_set (i := 5) sc_law_pool.nd rfl (Or.inl rfl) (pe_tup (pa_cons (pe_ix (r := rIxL K) ix_list (pv 1) pe_int (fun _ _ => rfl)) (pa_cons (pe_tup (pa_cons (pe_tup (pa_cons (pe_tup (pa_cons (pe_tup pa_nil : PE _ _ _) (pa_cons (pv 2) pa_nil)) : PE _ _ _) pa_nil) : PE _ _ _) pa_nil) : PE _ _ _) pa_nil)) : PE _ _ _))
    (pss_cons (ps_set (i := 6) sc_law_pool.nd rfl (Or.inl rfl) (pe_tup (pa_cons (pe_ix (r := rIxL K) ix_list (pv 1) pe_int (fun _ _ => rfl)) (pa_cons (pe_tup (pa_cons (pe_tup (pa_cons (pe_tup (pa_cons (pe_tup (pa_cons (pv 3) pa_nil) : PE _ _ _) (pa_cons pe_int pa_nil)) : PE _ _ _) pa_nil) : PE _ _ _) pa_nil) : PE _ _ _) pa_nil)) : PE _ _ _))
    (pss_cons (ps_set (i := 7) sc_law_pool.nd rfl (Or.inl rfl) (pe_tup (pa_cons (pe_ix (r := rIxL K) ix_list (pv 1) pe_int (fun _ _ => rfl)) (pa_cons (pe_tup (pa_cons (pe_callTy call_tuple_of (by rfl) z_tuple PyProof.Rows.boot_tuple (pa_cons (pe_callB (call_sortedDt hu5) (by rfl) z_sorted PyProof.Rows.boot_sorted (pa_cons (pe_lst (pa_cons (pe_tup (pa_cons (pe_tup (pa_cons (pv 3) pa_nil) : PE _ _ _) (pa_cons (pv 2) pa_nil)) : PE _ _ _) (pa_cons (pe_tup (pa_cons (pe_tup (pa_cons (pv 4) (pa_cons (pv 4) pa_nil)) : PE _ _ _) (pa_cons pe_int pa_nil)) : PE _ _ _) pa_nil)) : PE _ _ _) pa_nil)) pa_nil)) (pa_cons (pe_tup pa_nil : PE _ _ _) pa_nil)) : PE _ _ _) pa_nil)) : PE _ _ _))
    (pss_one (ps_ret (pe_lst (pa_cons (pv 3) (pa_cons (pv 4) (pa_cons (pv 5) (pa_cons (pv 6) (pa_cons (pv 7) (pa_cons (pe_tup (pa_cons (pe_op op_add_str pe_str (pe_ix (r := rIxL K) ix_list (pv 1) pe_int (fun _ _ => rfl))) (pa_cons (pe_tup pa_nil : PE _ _ _) pa_nil)) : PE _ _ _) pa_nil)))))) : PE _ _ _))))))))), ?_⟩
  obtain ⟨w0, w1, w2, w3, rfl⟩ : ∃ w0 w1 w2 w3, ws = [w0, w1, w2, w3] := by
    match ws, l4 with
    | [a, b, c, d], _ => exact ⟨a, b, c, d, rfl⟩
  refine ⟨_, rfl, _, _, rfl, rfl, ⟨by decide, by decide, by decide⟩, _, _, rfl, rfl, _, _, rfl, rfl, (show (0 : Int) < 10 ^ 30 - 1 by decide), _, _, rfl, rfl, ?_⟩
  dsimp only
  generalize 1 + c % (10 ^ (30 : Int).toNat - 1) = n
  refine ⟨_, rfl, l, _, 0, .str w0, rfl, rfl, SqL.of hl, rfl, no_le, fun t1 e1 => ⟨two_le, fun t2 e2 => ?_⟩⟩
  have m1 : DR (upd (upd H t1 (.tup [])) t2 (.tup [.str w0, .ref t1])) (gapD w0) (.ref t2) := mk_tup e2 (.cons (.str _) (.cons (mk_tup e1 .nil) .nil))
  have gA := (same_upd (o := .tup []) e1).trans (same_upd (o := .tup [.str w0, .ref t1]) e2)
  show tSeq _ _ _ _ (upd (upd H t1 (.tup [])) t2 (.tup [.str w0, .ref t1]))
  generalize upd (upd H t1 (.tup [])) t2 (.tup [.str w0, .ref t1]) = H1 at m1 gA ⊢
  refine ⟨_, rfl, l, _, 1, .str w1, rfl, rfl, SqL.of (gA _ _ hl), rfl, no_le, fun t3 e3 => ⟨two_le, fun t4 e4 => ?_⟩⟩
  have m2 : DR (upd (upd H1 t3 (.tup [])) t4 (.tup [.str w1, .ref t3])) (gapD w1) (.ref t4) := mk_tup e4 (.cons (.str _) (.cons (mk_tup e3 .nil) .nil))
  have gB := (same_upd (o := .tup []) e3).trans (same_upd (o := .tup [.str w1, .ref t3]) e4)
  show tSeq _ _ _ _ (upd (upd H1 t3 (.tup [])) t4 (.tup [.str w1, .ref t3]))
  generalize upd (upd H1 t3 (.tup [])) t4 (.tup [.str w1, .ref t3]) = H2 at m2 gB ⊢
  replace m1 := m1.mono gB.tk
  replace gA := gA.trans gB
  clear gB e1 e2 e3 e4
  refine ⟨_, rfl, l, _, 2, .str w2, rfl, rfl, SqL.of (gA _ _ hl), rfl, no_le, fun y5 e5 => ⟨_, rfl, two_le, fun y6 e6 => ⟨one_le, fun y7 e7 => ⟨one_le, fun y8 e8 => ⟨two_le, fun y9 e9 => ?_⟩⟩⟩⟩⟩
  have m3 : DR _ (numG w2 n) (.ref y9) := mk_tup e9 (.cons (.str _) (.cons (mk_tup e8 (.cons (mk_tup e7 (.cons (mk_tup e6 (.cons (mk_tup e5 .nil) (.cons (.int n) .nil))) .nil)) .nil)) .nil))
  have gB := (same_upd (o := .tup []) e5).trans ((same_upd (o := .tup [.ref y5, .int n]) e6).trans ((same_upd (o := .tup [.ref y6]) e7).trans ((same_upd (o := .tup [.ref y7]) e8).trans (same_upd (o := .tup [.str w2, .ref y8]) e9))))
  show tSeq _ _ _ _ (upd (upd (upd (upd (upd H2 y5 (.tup [])) y6 (.tup [.ref y5, .int n])) y7 (.tup [.ref y6])) y8 (.tup [.ref y7])) y9 (.tup [.str w2, .ref y8]))
  generalize upd (upd (upd (upd (upd H2 y5 (.tup [])) y6 (.tup [.ref y5, .int n])) y7 (.tup [.ref y6])) y8 (.tup [.ref y7])) y9 (.tup [.str w2, .ref y8]) = H3 at m3 gB ⊢
  replace m1 := m1.mono gB.tk
  replace m2 := m2.mono gB.tk
  replace gA := gA.trans gB
  clear gB e5 e6 e7 e8 e9
  refine ⟨_, rfl, l, _, 2, .str w2, rfl, rfl, SqL.of (gA _ _ hl), rfl, _, rfl, one_le, fun t5 e5 => ⟨two_le, fun t6 e6 => ⟨one_le, fun t7 e7 => ⟨one_le, fun t8 e8 => ⟨two_le, fun t9 e9 => ?_⟩⟩⟩⟩⟩
  have m4 : DR _ (sumG w2 (gapD w0)) (.ref t9) := mk_tup e9 (.cons (.str _) (.cons (mk_tup e8 (.cons (mk_tup e7 (.cons (mk_tup e6 (.cons (mk_tup e5 (.cons m1 .nil)) (.cons (.int 1) .nil))) .nil)) .nil)) .nil))
  have gB := (same_upd (o := .tup [.ref t2]) e5).trans ((same_upd (o := .tup [.ref t5, .int 1]) e6).trans ((same_upd (o := .tup [.ref t6]) e7).trans ((same_upd (o := .tup [.ref t7]) e8).trans (same_upd (o := .tup [.str w2, .ref t8]) e9))))
  show tSeq _ _ _ _ (upd (upd (upd (upd (upd H3 t5 (.tup [.ref t2])) t6 (.tup [.ref t5, .int 1])) t7 (.tup [.ref t6])) t8 (.tup [.ref t7])) t9 (.tup [.str w2, .ref t8]))
  generalize upd (upd (upd (upd (upd H3 t5 (.tup [.ref t2])) t6 (.tup [.ref t5, .int 1])) t7 (.tup [.ref t6])) t8 (.tup [.ref t7])) t9 (.tup [.str w2, .ref t8]) = H4 at m4 gB ⊢
  replace m1 := m1.mono gB.tk
  replace m2 := m2.mono gB.tk
  replace m3 := m3.mono gB.tk
  replace gA := gA.trans gB
  clear gB e5 e6 e7 e8 e9
  refine ⟨_, rfl, l, _, 3, .str w3, rfl, rfl, SqL.of (gA _ _ hl), rfl, _, rfl, one_le, fun b1 e1 => ⟨_, rfl, two_le, fun b2 e2 => ⟨_, rfl, _, rfl, two_le, fun b3 e3 => ⟨two_le, fun b4 e4 => ⟨two_le, fun b5 e5 => ?_⟩⟩⟩⟩⟩
  have gB := (same_upd (o := .tup [.ref t2]) e1).trans ((same_upd (o := .tup [.ref b1, .int n]) e2).trans ((same_upd (o := .tup [.ref t4, .ref t4]) e3).trans ((same_upd (o := .tup [.ref b3, .int 1]) e4).trans (same_upd (o := .lst [.ref b2, .ref b4]) e5))))
  have g5 := same_upd (o := .lst [.ref b2, .ref b4]) e5
  have g4 := same_upd (o := .tup [.ref b3, .int 1]) e4
  have g3 := same_upd (o := .tup [.ref t4, .ref t4]) e3
  have g2 := same_upd (o := .tup [.ref b1, .int n]) e2
  have g1 := same_upd (o := .tup [.ref t2]) e1
  have r1 : DR _ (.tup [.tup [gapD w0], .int n]) (.ref b2) := mk_tup e2 (.cons (mk_tup e1 (.cons m1 .nil)) (.cons (.int n) .nil))
  have r2 : DR _ (.tup [.tup [gapD w1, gapD w1], .int 1]) (.ref b4) := mk_tup e4 (.cons (mk_tup e3 (.cons (m2.mono (g1.trans g2).tk) (.cons (m2.mono (g1.trans g2).tk) .nil))) (.cons (.int 1) .nil))
  have rs : DRs _ (rowsG (gapD w0) (gapD w1) n) [.ref b2, .ref b4] := .cons (r1.mono (g3.trans (g4.trans g5)).tk) (.cons (r2.mono g5.tk) .nil)
  refine ⟨b5, _, _, rfl, upd_same, rs, rows_srt _ _ _, fun l' ws hl' dws => ⟨l', ws, rfl, .inl ⟨SqL.of upd_same, fun b6 e6 => ⟨no_le, fun b7 e7 => ⟨two_le, fun b8 e8 => ⟨two_le, fun b9 e9 => ?_⟩⟩⟩⟩⟩⟩
  have gl := same_upd (o := .lst ws) hl'
  have g6 := same_upd (o := .tup ws) e6
  have g7 := same_upd (o := .tup []) e7
  have g8 := same_upd (o := .tup [.ref b6, .ref b7]) e8
  have g9 := same_upd (o := .tup [.str w3, .ref b8]) e9
  have m5 : DR _ (bigG w3 (gapD w0) (gapD w1) n) (.ref b9) := mk_tup e9 (.cons (.str _) (.cons (mk_tup e8 (.cons ((mk_tup e6 (dws.mono gl.tk)).mono g7.tk) (.cons (mk_tup e7 .nil) .nil))) .nil))
  have gC := gB.trans (gl.trans (g6.trans (g7.trans (g8.trans g9))))
  replace m1 := m1.mono gC.tk
  replace m2 := m2.mono gC.tk
  replace m3 := m3.mono gC.tk
  replace m4 := m4.mono gC.tk
  replace gA := gA.trans gC
  clear g1 g2 g3 g4 g5 r1 r2 rs gB gC
  refine ⟨_, rfl, _, rfl, _, rfl, _, rfl, _, rfl, _, rfl, l, _, 0, .str w0, rfl, rfl, SqL.of (gA _ _ hl), rfl, _, _, rfl, rfl, line1000 ?_, no_le, fun c1 z1 => ⟨two_le, fun c2 z2 => ⟨(by show 6 ≤ sizeLine; decide), fun p hp => ?_⟩⟩⟩
  · have h0 := hx w0 List.mem_cons_self
    have h4 : (Str.ofString "ask ").length = 4 := by decide +kernel
    omega
  have m6 : DR _ (gapD (Str.ofString "ask " ++ w0)) (.ref c2) := mk_tup z2 (.cons (.str _) (.cons (mk_tup z1 .nil) .nil))
  have k1 := same_upd (o := .tup []) z1
  have k2 := same_upd (o := .tup [.str (Str.ofString "ask " ++ w0), .ref c1]) z2
  have k3 := same_upd (o := .lst [.ref t2, .ref t4, .ref y9, .ref t9, .ref b9, .ref c2]) hp
  have kA := k1.trans (k2.trans k3)
  refine q p _ [gapD w0, gapD w1, numG w2 n, sumG w2 (gapD w0), bigG w3 (gapD w0) (gapD w1) n, gapD (Str.ofString "ask " ++ w0)] _ (gA.trans kA) upd_same ⟨?_, rfl, ?_⟩
  · exact .cons (m1.mono kA.tk) (.cons (m2.mono kA.tk) (.cons (m3.mono kA.tk) (.cons (m4.mono kA.tk) (.cons (m5.mono kA.tk) (.cons (m6.mono k3.tk) .nil)))))
  · intro d hd
    simp only [List.mem_cons, List.not_mem_nil, or_false] at hd
    rcases hd with rfl | rfl | rfl | rfl | rfl | rfl
    · exact gap_ok _
    · exact gap_ok _
    · exact num_ok _ _
    · exact one_ok _ _
    · exact big_ok _ _ _ _
    · exact gap_ok _
def sp_product : Sp := fun vs H Q _ => ∃ (c : Int) (l : Addr) (ds : List Dt) (us : List V), vs = [.int c, .ref l] ∧ H l = some (.lst us) ∧ Pool H ds us ∧
  ∀ (v : V) (H' : Hp) (d : Dt), Same H H' → POk 3 d → DR H' d v → Q v H'
theorem ok_product {k : Nat} {f g1 : Addr} {fd gd1 : FuncData} (F : Fun K "_law_product" "_law_product" s_law_product f fd) (z_sorted : mg "sorted" = none) (z_tuple : mg "tuple" = none)
    (G_law_mixed : FnB P w K mg base k "_law_mixed" g1 gd1 ["_law_cell", "_law_many"] sp_mixed) : FnOk P w K mg base CX0 (k + 1) f fd ["_law_cell", "_law_pool_here"] sp_product := by
  refine F.ok sc_law_product (fun vs H Q E h => ?_) (fun cdv A outer s H vs Q E hr h => ?_)
  · obtain ⟨c, l, ds, us, rfl, _⟩ := h
    rfl
  obtain ⟨c, l, ds, us, rfl, hl, hp, q⟩ := h
  have hu5 := hu150 hr
  refine ⟨_, (pss_cons (ps_set (i := 2) sc_law_product.nd rfl (Or.inl rfl) (pe_lst pa_nil : PE _ _ _))
    (pss_cons (ps_for PassesOwn.never rfl (pi_list (pe_slice (r := rSlL K) sl_list (pe_call G_law_mixed.ok hr (by rfl) G_law_mixed.gl G_law_mixed.kp G_law_mixed.bd .nil pass0 (pa_cons (pv 0) (pa_cons pe_int pa_nil))) po_none (po_some (pe_op op_mod (pv 0) pe_int)))) (pg_name (i := 3) sc_law_product.nd rfl (Or.inl rfl)) (pss_one (ps_expr (pe_bm PySem.F.plainAttrs_list PySem.F.slot_list_append PySem.F.type_list_append mt_append (pv 2) (pa_cons (pe_ix (r := rIxL K) ix_list (pv 1) (pe_op op_mod (pv 3) pe_int) (fun _ _ => rfl)) pa_nil)))))
    (pss_one (ps_ret (pe_callTy call_tuple_of (by rfl) z_tuple PyProof.Rows.boot_tuple (pa_cons (pe_callB (call_sortedDt hu5) (by rfl) z_sorted PyProof.Rows.boot_sorted (pa_cons (pv 2) pa_nil)) pa_nil)))))), ?_⟩
  refine ⟨no_le, fun sm hsm => ?_⟩
  have g0 := same_upd (o := .lst []) hsm
  have esm : (upd H sm (.lst [])) sm = some (.lst []) := upd_same
  show tSeq _ _ _ _ (upd H sm (.lst []))
  generalize upd H sm (.lst []) = H0 at g0 esm ⊢
  refine ⟨_, rfl, c, 3, rfl, by decide, by decide, fun l1 H1 ns g1 e1 ln => ⟨_, rfl, _, _, rfl, rfl, (show (0 : Int) < 4 by decide), _, rfl, l1, _, rfl, SqL.of e1, fun l2 hl2 => ?_⟩⟩
  have c0 := Int.emod_nonneg c (show (4 : Int) ≠ 0 by decide)
  have c1 := Int.emod_lt_of_pos c (show (0 : Int) < 4 by decide)
  have ln3 : ns.length = 3 := ln
  obtain ⟨ms, em, lm⟩ := cutInts (ns := ns) (lo := none) (hi := some (c % 4)) (i := 0) (j := (c % 4).toNat) rfl (sIx_int c0 (by omega)) (by omega)
  rw [em]
  have g2 := same_upd (o := .lst (ms.map V.int)) hl2
  have el2 : (upd H1 l2 (.lst (ms.map V.int))) l2 = some (.lst (ms.map V.int)) := upd_same
  refine ⟨l2, rfl, ⟨_, SqL.of el2⟩, ?_⟩
  generalize upd H1 l2 (.lst (ms.map V.int)) = H2 at g2 el2 ⊢
  have gA := g0.trans (g1.trans g2)
  have esm2 := g2 _ _ (g1 _ _ esm)
  refine for_list (xs := ms.map V.int) (fun i σ' H' => ∃ (ws : List V) (es : List Dt) (s3 : Option V), σ' = [some (.int c), some (.ref l), some (.ref sm), s3] ∧ Same H H' ∧ H' l2 = some (.lst (ms.map V.int)) ∧ H' sm = some (.lst ws) ∧ DRs H' es ws ∧ ws.length = i ∧ ∀ d ∈ es, UOk d) ?_ ?_ ?_ ?_
  · exact ⟨[], [], _, rfl, gA, el2, esm2, .nil, rfl, by simp⟩
  · rintro i σ' H' _ ⟨ws, es, s3, rfl, g, e, _⟩
    exact SqL.of e
  · rintro i x σ' H' hx ⟨ws, es, s3, rfl, g, e, esm', dws, lw, ok⟩
    obtain ⟨z, hz, rfl⟩ := List.mem_map.mp (List.mem_of_getElem? hx)
    have hi : i < (ms.map V.int).length := (List.getElem?_eq_some_iff.mp hx).1
    rw [List.length_map] at hi
    obtain ⟨j, v, hj, at_⟩ := atI_mod hp.len (by decide) z
    obtain ⟨d, ed, rd⟩ := hp.dr.get hj
    refine ⟨_, rfl, .inl ⟨rfl, _, SqL.of esm'⟩, _, rfl, _, rfl, _, _, rfl, rfl, (show (0 : Int) < 6 by decide), l, _, _, v, rfl, rfl, SqL.of (g _ _ hl), at_, sm, ws, _, rfl, rfl, esm', small1000 (by omega), ?_⟩
    have n2 : l2 ≠ sm := Ne.symm (ne_of_none (g1 _ _ esm) hl2)
    have tk := Tk.lst (o := .lst (ws ++ [v])) esm'
    refine ⟨ws ++ [v], es ++ [d], _, rfl, same_set g hsm, by rw [upd_ne n2]; exact e, upd_same, (dws.mono tk).app (.cons (rd.mono (g.tk.trans tk)) .nil), by simp [lw], fun d' hd' => ?_⟩
    rcases List.mem_append.mp hd' with h | h
    · exact ok d' h
    · rw [List.mem_singleton.mp h]
      exact hp.ok _ (List.mem_of_getElem? ed)
  · rintro σ' H' ⟨ws, es, s3, rfl, g, e, esm', dws, lw, ok⟩
    have les := dws.length
    rw [List.length_map] at lw
    refine ⟨_, rfl, sm, ws, es, rfl, esm', dws, srt_unknowns ok (by omega), fun l' vs hl' dvs => ⟨l', vs, rfl, .inl ⟨SqL.of upd_same, fun tp htp => ?_⟩⟩⟩
    have h1 := same_upd (o := .lst vs) hl'
    have h2 := same_upd (o := .tup vs) htp
    exact q _ _ _ (g.trans (h1.trans h2)) ⟨sortD es, rfl, by rw [(sortD_perm _).length_eq]; omega, fun u hu => ok u ((sortD_perm _).mem_iff.mp hu)⟩ (.tup upd_same (dvs.mono (h1.trans h2).tk))
end
end K36
set_option Elab.async false
set_option linter.all false
set_option maxRecDepth 100000
set_option maxHeartbeats 4000000
namespace L2
open PySem
theorem DicP.same {P : Program} {w : World} {H H' : Hp} {a : Addr} {kvs : List (Dt × V)} (g : Same H H') : DicP P w H a kvs → DicP P w H' a kvs
  | .inl ⟨xs, e1, r, k, l⟩ => .inl ⟨xs, e1, g _ _ r, k.mono g.tk, l⟩
  | .inr ⟨d, z⟩ => .inr ⟨g _ _ d, z⟩
theorem Pool.mono {H H' : Hp} (k : Tk H H') {ds : List Dt} {us : List V} (h : Pool H ds us) : Pool H' ds us := ⟨h.dr.mono k, h.len, h.ok⟩
structure SumD (P : Program) (w : World) (H : Hp) (d : Addr) (kvs : List (Dt × V)) : Prop where
  dic : DicP P w H d kvs
  ok : ∀ p v, valV kvs p = some v → POk 3 p ∧ ∃ n : Int, v = .int n
  len : kvs.length ≤ 4
def gv (kvs : List (Dt × V)) (p : Dt) : Int := match valV kvs p with | some (.int n) => n | _ => 0
end L2
namespace K36
open PySem PySem.Spec L2 PyProof.Rows
abbrev s_law_sum : Stmt := top 13
theorem sc_law_sum : FnScope ["_law_cells", "_law_pool_here", "_law_found", "_law_cell"] ["_law_cells", "_law_pool_here"] (defScope s_law_sum) := ⟨rfl, rfl, rfl, by decide +kernel, rfl, by decide +kernel, by decide +kernel⟩
abbrev s_law_tuple : Stmt := top 14
theorem sc_law_tuple : FnScope ["_law_found", "_law_rows", "_law_product_here"] ["_law_found"] (defScope s_law_tuple) := ⟨rfl, rfl, rfl, by decide +kernel, rfl, by decide +kernel, by decide +kernel⟩
section
variable {P : Program} {w : World} {K : PySem.W.Frag} {mg : Str → Option Value} {base : Heap}
def sp_sum (P : Program) (w : World) (K : PySem.W.Frag) : Sp := fun vs H Q _ => ∃ (a l : Addr) (ns : List Int) (ds : List Dt) (us : List V), vs = [.ref a, .ref l] ∧ H a = some (.lst (ns.map V.int)) ∧ ns.length ≤ 4 ∧ H l = some (.lst us) ∧ Pool H ds us ∧
  ∀ (d : Addr) (H' : Hp) (kvs : List (Dt × V)), Same H H' → SumD P w H' d kvs → Q (.ref d) H'
theorem ok_sum {k : Nat} {f g1 : Addr} {fd gd1 : FuncData} (F : Fun K "_law_sum" "_law_sum" s_law_sum f fd)
    (G_law_product : FnB P w K mg base k "_law_product" g1 gd1 ["_law_cell", "_law_pool_here"] sp_product) : FnOk P w K mg base CX0 (k + 1) f fd ["_law_cells", "_law_pool_here"] (sp_sum P w K) := by
  refine F.ok sc_law_sum (fun vs H Q E h => ?_) (fun cdv A outer s H vs Q E hr h => ?_)
  · obtain ⟨a, l, ns, ds, us, rfl, _⟩ := h
    rfl
  obtain ⟨a, l, ns, ds, us, rfl, ha, l4, hl, hp, q⟩ := h
  have hu5 := hu150 hr
  refine ⟨_, (pss_cons (ps_set (i := 2) sc_law_sum.nd rfl (Or.inl rfl) pe_dnewK)
    (pss_cons (ps_for PassesOwn.never rfl (pi_list (pv 0)) (pg_name (i := 3) sc_law_sum.nd rfl (Or.inl rfl)) (pss_one (ps_nput hu5 (pv 2) (pe_call G_law_product.ok hr (by rfl) G_law_product.gl G_law_product.kp G_law_product.bd .nil pass0 (pa_cons (pe_op op_fdiv (pv 3) pe_int) (pa_cons (pv 1) pa_nil))) (pe_op op_add pe_int (pe_op op_mod (pe_op op_mul (pv 3) pe_int) (pe_op op_sub (pe_op op_pow pe_int pe_int) pe_int))) rfl)))
    (pss_one (ps_ret (pv 2))))), ?_⟩
  intro d hd
  have g0 := same_upd (o := .dK []) hd
  refine ⟨_, rfl, a, rfl, ⟨_, SqL.of (g0 _ _ ha)⟩, ?_⟩
  refine for_list (xs := ns.map V.int) (fun i σ' H' => ∃ (kvs : List (Dt × V)) (s3 : Option V), σ' = [some (.ref a), some (.ref l), some (.ref d), s3] ∧ Same H H' ∧ DicP P w H' d kvs ∧ (∀ p v, valV kvs p = some v → POk 3 p ∧ ∃ n : Int, v = .int n) ∧ kvs.length ≤ i) ?_ ?_ ?_ ?_
  · exact ⟨[], none, rfl, g0, .inr ⟨upd_same, rfl⟩, (fun p v hp => nomatch hp), Nat.le_refl _⟩
  · rintro i σ' H' _ ⟨kvs, s3, rfl, g, _⟩
    exact SqL.of (g _ _ ha)
  · rintro i x σ' H' hx ⟨kvs, s3, rfl, g, dp, ok, ln⟩
    obtain ⟨z, hz, rfl⟩ := List.mem_map.mp (List.mem_of_getElem? hx)
    have hi : i < (ns.map V.int).length := (List.getElem?_eq_some_iff.mp hx).1
    rw [List.length_map] at hi
    refine ⟨_, rfl, _, _, rfl, rfl, .inr ⟨by decide, by decide⟩, _, _, rfl, rfl, ⟨by decide, by decide, by decide⟩, _, _, rfl, rfl, _, _, rfl, rfl, (show (0 : Int) < 10 ^ 30 - 1 by decide), _, _, rfl, rfl, ?_⟩
    refine ⟨_, rfl, _, rfl, _, _, rfl, rfl, ⟨(show (0 : Int) < 4 by decide), (show (4 : Int) < 1073741824 by decide)⟩, _, rfl, z / 4, l, ds, us, rfl, g _ _ hl, hp.mono g.tk, fun v H2 p g2 pk dr => ?_⟩
    refine ⟨d, p, kvs, rfl, dp.same g2, by omega, pk.ref dr, fun o dn tk => ?_⟩
    refine ⟨_, _, rfl, same_set (g.trans g2) hd, .inl dn, fun p' v' hv => ?_, Nat.le_trans (length_putK _ _ _) (by omega)⟩
    rw [valV_put] at hv
    by_cases c : p' = p
    · rw [if_pos c] at hv
      exact ⟨by rw [c]; exact pk, _, (Option.some.inj hv).symm⟩
    · rw [if_neg c] at hv
      exact ok p' v' hv
  · rintro σ' H' ⟨kvs, s3, rfl, g, dp, ok, ln⟩
    rw [List.length_map] at ln
    exact ⟨_, rfl, q d H' kvs g ⟨dp, ok, by omega⟩⟩
def sp_tuple (P : Program) (w : World) : Sp := fun vs H Q _ => ∃ (d : Addr) (kvs : List (Dt × V)), vs = [.ref d] ∧ SumD P w H d kvs ∧ ∀ (v : V) (H' : Hp) (a : Rws), Same H H' → SumA H' 3 a v → a.length ≤ 4 → Q v H'
theorem ok_tuple {k : Nat} {f : Addr} {fd : FuncData} (F : Fun K "_law_tuple" "_law_tuple" s_law_tuple f fd) (z_sorted : mg "sorted" = none) (z_tuple : mg "tuple" = none) : FnOk P w K mg base CX0 (k + 1) f fd ["_law_found"] (sp_tuple P w) := by
  refine F.ok sc_law_tuple (fun vs H Q E h => ?_) (fun cdv A outer s H vs Q E hr h => ?_)
  · obtain ⟨d, kvs, rfl, _⟩ := h
    rfl
  obtain ⟨d, kvs, rfl, sd, q⟩ := h
  have hu5 := hu150 hr
  refine ⟨_, (pss_cons (ps_set (i := 1) sc_law_tuple.nd rfl (Or.inl rfl) (pe_lst pa_nil : PE _ _ _))
    (pss_cons (ps_for PassesOwn.never rfl (pi_list (pe_callB (call_sortedV rfl hu5) (by rfl) z_sorted PyProof.Rows.boot_sorted (pa_cons (pe_nkeys (pv 0)) pa_nil))) (pg_name (i := 2) sc_law_tuple.nd rfl (Or.inl rfl)) (pss_one (ps_if (pt_cmpR op_ne (pe_op op_mod (pe_nget hu5 (pv 0) (pv 2) (fun _ _ => rfl) : PE _ _ (tNGet P w _ _)) (pe_op op_pow pe_int pe_int)) pe_int (nomark _)) (pss_one (ps_expr (pe_bm PySem.F.plainAttrs_list PySem.F.slot_list_append PySem.F.type_list_append mt_append (pv 1) (pa_cons (pe_tup (pa_cons (pv 2) (pa_cons (pe_op op_mod (pe_nget hu5 (pv 0) (pv 2) (fun _ _ => rfl) : PE _ _ (tNGet P w _ _)) (pe_op op_pow pe_int pe_int)) pa_nil)) : PE _ _ _) pa_nil)))) pss_nil)))
    (pss_one (ps_ret (pe_callTy call_tuple_of (by rfl) z_tuple PyProof.Rows.boot_tuple (pa_cons (pv 1) pa_nil)))))), ?_⟩
  refine ⟨no_le, fun rw hrw => ?_⟩
  have g0 := same_upd (o := .lst []) hrw
  have erw : (upd H rw (.lst [])) rw = some (.lst []) := upd_same
  show tSeq _ _ _ _ (upd H rw (.lst []))
  generalize upd H rw (.lst []) = H0 at g0 erw ⊢
  have kp : ∀ p ∈ kvs.map (·.1), POk 3 p := fun p hp => by
    obtain ⟨v, hv⟩ := Option.isSome_iff_exists.mp (mem_valV.mp hp)
    exact (sd.ok p v hv).1
  have ll := sd.len
  refine ⟨_, rfl, d, kvs, rfl, (sd.dic.same g0).e, fun kw hkw => ?_⟩
  have g1 := same_upd (o := keysO kw d) hkw
  refine ⟨kw, d, kvs, rfl, upd_same, ((sd.dic.same g0).same g1).e, srt_products kp (by rw [List.length_map]; omega), fun l ws hl nd dws => ⟨l, rfl, ⟨ws, SqL.of upd_same⟩, ?_⟩⟩
  have g2 := same_upd (o := .lst ws) hl
  have el : (upd (upd H0 kw (keysO kw d)) l (.lst ws)) l = some (.lst ws) := upd_same
  have gA := g0.trans (g1.trans g2)
  have erl : rw ≠ l := ne_of_none (g1 _ _ erw) hl
  have er2 := g2 _ _ (g1 _ _ erw)
  replace dws := dws.mono g2.tk
  generalize upd (upd H0 kw (keysO kw d)) l (.lst ws) = H1 at el gA er2 dws ⊢
  have hls : (sortD (kvs.map (·.1))).length = kvs.length := by rw [(sortD_perm _).length_eq, List.length_map]
  have wl : ws.length = kvs.length := by rw [← dws.length]; exact hls
  have ksm : ∀ p ∈ sortD (kvs.map (·.1)), p ∈ kvs.map (·.1) := fun p hp => (sortD_perm _).mem_iff.mp hp
  have eres : resR (kvs.map (·.1)) (gv kvs) = ((sortD (kvs.map (·.1))).map fun p => (p, gv kvs p % NN)).filter fun r => r.2 != 0 := rfl
  have rc := res_can (g := gv kvs) nd
  have rl := res_len (ks := kvs.map (·.1)) (g := gv kvs)
  have rk : ROk 3 (resR (kvs.map (·.1)) (gv kvs)) := fun r hr => kp _ (res_mem r hr)
  rw [List.length_map] at rl
  rw [eres] at rc rl rk
  generalize sortD (kvs.map (·.1)) = ks at dws hls ksm rc rl rk
  refine for_list (xs := ws) (fun i σ' H' => ∃ (zs : List V) (s2 : Option V), σ' = [some (.ref d), some (.ref rw), s2] ∧ Same H H' ∧ Tk H1 H' ∧ H' l = some (.lst ws) ∧ H' rw = some (.lst zs) ∧ DRs H' ((((ks.take i).map fun p => (p, gv kvs p % NN)).filter fun r => r.2 != 0).map rowD) zs) ?_ ?_ ?_ ?_
  · exact ⟨[], none, rfl, gA, fun _ _ e => e, el, er2, .nil⟩
  · rintro i σ' H' _ ⟨zs, s2, rfl, _, _, e, _⟩
    exact SqL.of e
  · rintro i x σ' H' hx ⟨zs, s2, rfl, g, tk, e, er, dz⟩
    obtain ⟨p, ep, rp⟩ := dws.get hx
    have hi : i < ws.length := (List.getElem?_eq_some_iff.mp hx).1
    have rp2 := rp.mono tk
    have pm := List.mem_of_getElem? ep
    obtain ⟨v, hv⟩ := Option.isSome_iff_exists.mp (mem_valV.mp (ksm p pm))
    obtain ⟨pk, n, rfl⟩ := sd.ok p v hv
    have egv : gv kvs p = n := by unfold gv; rw [hv]
    have ky := pk.ref rp2
    have lz := dz.length
    rw [List.length_map] at lz
    have lf : (((ks.take i).map fun p => (p, gv kvs p % NN)).filter fun r => r.2 != 0).length ≤ i := Nat.le_trans (List.length_filter_le _ _) (by rw [List.length_map, List.length_take]; omega)
    have dr := ((sd.dic.same g).e).r hv
    have hNN : NN = 10 ^ (30 : Int).toNat := by decide
    refine ⟨_, rfl, _, rfl, d, p, _, kvs, rfl, dr, ky, hv, _, _, rfl, rfl, ⟨by decide, by decide, by decide⟩, _, _, rfl, rfl, (show (0 : Int) < 10 ^ 30 by decide), rfl, _, rfl, ?_⟩
    have step : ((ks.take (i + 1)).map fun p => (p, gv kvs p % NN)) = ((ks.take i).map fun p => (p, gv kvs p % NN)) ++ [(p, n % NN)] := by
      rw [take_next' ep, List.map_append]
      simp [egv]
    refine ite2 (fun c => ?_) (fun c => ?_)
    · have c' : (n % NN != 0) = true := by
        have : ¬ (V.int (n % NN) = V.int 0) := by simpa [NN] using c
        have : n % NN ≠ 0 := fun z => this (by rw [z])
        simpa using this
      refine ⟨_, rfl, .inl ⟨rfl, _, SqL.of er⟩, _, rfl, _, rfl, _, rfl, d, p, _, kvs, rfl, dr, ky, hv, _, _, rfl, rfl, ⟨by decide, by decide, by decide⟩, _, _, rfl, rfl, (show (0 : Int) < 10 ^ 30 by decide), two_le, fun tp htp => ?_⟩
      have g3 := same_upd (o := .tup [x, .int (n % NN)]) htp
      have er3 := g3 _ _ er
      refine ⟨rw, zs, _, rfl, rfl, er3, small1000 (by omega), ?_⟩
      have tk4 := Tk.lst (o := .lst (zs ++ [.ref tp])) er3
      refine ⟨_, _, rfl, same_set (g.trans g3) hrw, tk.trans (g3.tk.trans tk4), by rw [upd_ne (Ne.symm erl)]; exact g3 _ _ e, upd_same, ?_⟩
      rw [step, List.filter_append, List.map_append, List.filter_cons, if_pos c', List.filter_nil]
      exact (dz.mono (g3.tk.trans tk4)).app (.cons ((mk_tup htp (.cons rp2 (.cons (.int _) .nil))).mono tk4) .nil)
    · have c' : ¬ (n % NN != 0) = true := by
        have : V.int (n % NN) = V.int 0 := by simpa [NN] using c
        have : n % NN = 0 := by injection this
        simp [this]
      refine ⟨zs, _, rfl, g, tk, e, er, ?_⟩
      rw [step, List.filter_append, List.filter_cons, if_neg c', List.filter_nil, List.append_nil]
      exact dz
  · rintro σ' H' ⟨zs, s2, rfl, g, tk, e, er, dz⟩
    rw [List.take_of_length_le (by omega)] at dz
    refine ⟨_, rfl, rw, zs, rfl, .inl ⟨SqL.of er, fun tp htp => ?_⟩⟩
    have g3 := same_upd (o := .tup zs) htp
    exact q _ _ _ (g.trans g3) ⟨mk_tup htp dz, rk, rc⟩ (by omega)
end
end K36
set_option Elab.async false
set_option linter.all false
set_option maxRecDepth 100000
set_option maxHeartbeats 4000000
namespace L2
open PySem
structure Sv (H : Hp) (e : Rws) (n m : Nat) (v : V) : Prop where
  at_ : ∃ res, SumA H n res v ∧ Eqv res e ∧ res.length ≤ m
theorem Sv.mono {H H' : Hp} (k : Tk H H') {e : Rws} {n m : Nat} {v : V} : Sv H e n m v → Sv H' e n m v
  | ⟨r, h, q⟩ => ⟨r, h.mono k, q⟩
theorem sum_deep {n : Nat} {a : Rws} (h : ROk n a) : (Dt.tup (a.map rowD)).deep ≤ 150 := by
  rw [Dt.deep]
  have := deeps_le (ds := a.map rowD) (n := 9) fun d hd => by
    obtain ⟨r, hr, rfl⟩ := List.mem_map.mp hd
    have := (h r hr).deep
    simp only [rowD, Dt.deep, Dt.deeps]
    omega
  omega
theorem beqs_same (ds : List Dt) : Dt.beqs ds ds = true := by
  have : Dt.beq (.tup ds) (.tup ds) = true := by rw [beq_dec]; simp
  simpa [Dt.beq] using this
theorem sv_eq {H : Hp} {e1 e2 : Rws} {n1 n2 m1 m2 : Nat} {v1 v2 : V} (h1 : Sv H e1 n1 m1 v1) (h2 : Sv H e2 n2 m2 v2) (e : Eqv e1 e2) : ∃ ds, DR H (.tup ds) v1 ∧ DR H (.tup ds) v2 ∧ (Dt.tup ds).deep ≤ 150 := by
  obtain ⟨r1, s1, q1, _⟩ := h1
  obtain ⟨r2, s2, q2, _⟩ := h2
  have e12 : r1 = r2 := can_unique s1.can s2.can (q1.trans (e.trans q2.symm))
  subst e12
  exact ⟨r1.map rowD, s1.dr, s2.dr, sum_deep s1.ok⟩
theorem rEq_no {H : Hp} {Q : VK} {e1 e2 : Rws} {n1 n2 m1 m2 : Nat} {v1 v2 : V} (h1 : Sv H e1 n1 m1 v1) (h2 : Sv H e2 n2 m2 v2) (e : Eqv e1 e2) (q : Q (.bl false) H) : rEqD true v1 v2 H Q := by
  obtain ⟨ds, r1, r2, dp⟩ := sv_eq h1 h2 e
  refine ⟨ds, ds, r1, r2, dp, ?_⟩
  rw [beqs_same]
  exact q
theorem rEq_yes {H : Hp} {Q : VK} {e1 e2 : Rws} {n1 n2 m1 m2 : Nat} {v1 v2 : V} (h1 : Sv H e1 n1 m1 v1) (h2 : Sv H e2 n2 m2 v2) (e : Eqv e1 e2) (q : Q (.bl true) H) : rEqD false v1 v2 H Q := by
  obtain ⟨ds, r1, r2, dp⟩ := sv_eq h1 h2 e
  refine ⟨ds, ds, r1, r2, dp, ?_⟩
  rw [beqs_same]
  exact q
theorem prR_negneg (x y : Rws) : Eqv (x ++ negR (x ++ negR y)) y := fun f => by
  rw [prR_app, prR_neg, prR_app, prR_neg]
  congr 1
  omega
theorem take_put (x z : Rws) : Eqv ((x ++ negR z) ++ z) x := fun f => by
  rw [prR_app, prR_app, prR_neg]
  congr 1
  omega
theorem put_take (x z : Rws) : Eqv ((x ++ z) ++ negR z) x := fun f => by
  rw [prR_app, prR_app, prR_neg]
  congr 1
  omega
theorem plus_three (x y z : Rws) : Eqv ((x ++ y) ++ z) (x ++ (z ++ y)) := fun f => by
  rw [prR_app, prR_app, prR_app, prR_app]
  congr 1
  omega
end L2
namespace K36
open PySem PySem.Spec L2 PyProof.Rows
abbrev s_law : Stmt := top 15
theorem sc_law : FnScope ["_law_script", "_law_pool_here", "_law_x", "_law_y", "_law_z"] ["_law_script"] (defScope s_law) := ⟨rfl, rfl, rfl, by decide +kernel, rfl, by decide +kernel, by decide +kernel⟩
section
variable {P : Program} {w : World} {K : PySem.W.Frag} {mg : Str → Option Value} {base : Heap}
theorem plus_of {H : Hp} {Q : VK} {E : XK} {v1 v2 : V} {a b : Rws} {n1 n2 m1 m2 : Nat} (h1 : Sv H a n1 m1 v1) (h2 : Sv H b n2 m2 v2) (k1 : n1 ≤ 100) (k2 : n2 ≤ 100) (l1 : m1 ≤ 200) (l2 : m2 ≤ 200)
    (q : ∀ v H', Same H H' → Sv H' (a ++ b) (max n1 n2) (m1 + m2) v → Q v H') : sp_op opP max 200 [v1, v2] H Q E := by
  obtain ⟨r1, s1, q1, z1⟩ := h1
  obtain ⟨r2, s2, q2, z2⟩ := h2
  exact ⟨v1, v2, r1, r2, n1, n2, rfl, s1, s2, k1, k2, by omega, by omega, fun v res H' g s e l => q v H' g ⟨res, s, e.trans (q1.app q2), by unfold opP at l; rw [List.length_append] at l; omega⟩⟩
theorem minus_of {H : Hp} {Q : VK} {E : XK} {v1 v2 : V} {a b : Rws} {n1 n2 m1 m2 : Nat} (h1 : Sv H a n1 m1 v1) (h2 : Sv H b n2 m2 v2) (k1 : n1 ≤ 100) (k2 : n2 ≤ 100) (l1 : m1 ≤ 200) (l2 : m2 ≤ 200)
    (q : ∀ v H', Same H H' → Sv H' (a ++ negR b) (max n1 n2) (m1 + m2) v → Q v H') : sp_op opM max 200 [v1, v2] H Q E := by
  obtain ⟨r1, s1, q1, z1⟩ := h1
  obtain ⟨r2, s2, q2, z2⟩ := h2
  exact ⟨v1, v2, r1, r2, n1, n2, rfl, s1, s2, k1, k2, by omega, by omega, fun v res H' g s e l => q v H' g ⟨res, s, e.trans (q1.app q2.neg), by unfold opM at l; rw [List.length_append] at l; simp only [negR, List.length_map] at l; omega⟩⟩
theorem times_of {H : Hp} {Q : VK} {E : XK} {v1 v2 : V} {a b : Rws} {n1 n2 m1 m2 : Nat} (h1 : Sv H a n1 m1 v1) (h2 : Sv H b n2 m2 v2) (k1 : n1 ≤ 100) (k2 : n2 ≤ 100) (l1 : m1 ≤ 20) (l2 : m2 ≤ 20)
    (q : ∀ v H', Same H H' → Sv H' (mulR a b) (n1 + n2) (m1 * m2) v → Q v H') : sp_op mulR (· + ·) 20 [v1, v2] H Q E := by
  obtain ⟨r1, s1, q1, z1⟩ := h1
  obtain ⟨r2, s2, q2, z2⟩ := h2
  exact ⟨v1, v2, r1, r2, n1, n2, rfl, s1, s2, k1, k2, by omega, by omega, fun v res H' g s e l => q v H' g ⟨res, s, e.trans (q1.mul q2), by rw [mulR_len] at l; exact Nat.le_trans l (Nat.mul_le_mul z1 z2)⟩⟩
def sp_law (K : PySem.W.Frag) : Sp := fun vs H Q _ => ∃ (a : Addr) (ns : List Int), vs = [.ref a] ∧ SqL K H a (ns.map V.int) ∧ ns.length ≤ 63 ∧ ∀ H', Q (.bl true) H'
theorem cut_four {ns : List Int} (i j : Nat) (h : j = i + 4) : ∃ cs : List Int, cutV (ns.map V.int) (some (i : Int)) (some (j : Int)) = cs.map V.int ∧ cs.length ≤ 4 := by
  have e2 : HT.sIx ns.length ns.length (some (j : Int)) = min j ns.length := HT.sIx_nat _ _ _
  have e1 : HT.sIx ns.length 0 (some (i : Int)) = min i ns.length := HT.sIx_nat _ _ _
  obtain ⟨ms, e, h⟩ := cutInts (ns := ns) (lo := some (i : Int)) (hi := some (j : Int)) e1 e2 (by omega)
  exact ⟨ms, e, by omega⟩
theorem ok_law {k : Nat} {f g1 g2 g3 g4 g5 g6 g7 g8 : Addr} {fd gd1 gd2 gd3 gd4 gd5 gd6 gd7 gd8 : FuncData} (F : Fun K "law" "law" s_law f fd)
    (G_law_words : FnB P w K mg base k "_law_words" g1 gd1 ["_law_cell", "_law_many"] sp_words) (G_law_cell_at : FnB P w K mg base k "_law_cell_at" g2 gd2 ["_law_script", "_law_k"] (sp_cell_at K))
    (G_law_pool : FnB P w K mg base k "_law_pool" g3 gd3 ["_law_cell", "_law_words_here"] sp_pool) (G_law_sum : FnB P w K mg base k "_law_sum" g4 gd4 ["_law_cells", "_law_pool_here"] (sp_sum P w K))
    (G_law_tuple : FnB P w K mg base k "_law_tuple" g5 gd5 ["_law_found"] (sp_tuple P w)) (G_plus : FnB P w K mg base k "plus" g6 gd6 ["one", "other"] (sp_op opP max 200)) (G_minus : FnB P w K mg base k "minus" g7 gd7 ["one", "other"] (sp_op opM max 200))
    (G_times : FnB P w K mg base k "times" g8 gd8 ["one", "other"] (sp_op mulR (· + ·) 20)) : FnOk P w K mg base CX0 (k + 1) f fd ["_law_script"] (sp_law K) := by
  refine F.ok sc_law (fun vs H Q E h => ?_) (fun cdv A outer s H vs Q E hr h => ?_)
  · obtain ⟨a, ns, rfl, _⟩ := h
    rfl
  obtain ⟨a, ns, rfl, hS, h63, q⟩ := h
  have hu5 := hu150 hr
  refine ⟨_, (pss_cons (ps_set (i := 1) sc_law.nd rfl (Or.inl rfl) (pe_call G_law_pool.ok hr (by rfl) G_law_pool.gl G_law_pool.kp G_law_pool.bd .nil pass0 (pa_cons (pe_call G_law_cell_at.ok hr (by rfl) G_law_cell_at.gl G_law_cell_at.kp G_law_cell_at.bd .nil pass0 (pa_cons (pv 0) (pa_cons pe_int pa_nil))) (pa_cons (pe_call G_law_words.ok hr (by rfl) G_law_words.gl G_law_words.kp G_law_words.bd .nil pass0 (pa_cons (pe_call G_law_cell_at.ok hr (by rfl) G_law_cell_at.gl G_law_cell_at.kp G_law_cell_at.bd .nil pass0 (pa_cons (pv 0) (pa_cons pe_int pa_nil))) (pa_cons pe_int pa_nil))) pa_nil))))
    (pss_cons (ps_set (i := 2) sc_law.nd rfl (Or.inl rfl) (pe_call G_law_tuple.ok hr (by rfl) G_law_tuple.gl G_law_tuple.kp G_law_tuple.bd .nil pass0 (pa_cons (pe_call G_law_sum.ok hr (by rfl) G_law_sum.gl G_law_sum.kp G_law_sum.bd .nil pass0 (pa_cons (pe_slice (r := rSlL K) sl_list (pv 0) (po_some pe_int) (po_some pe_int)) (pa_cons (pv 1) pa_nil))) pa_nil)))
    (pss_cons (ps_set (i := 3) sc_law.nd rfl (Or.inl rfl) (pe_call G_law_tuple.ok hr (by rfl) G_law_tuple.gl G_law_tuple.kp G_law_tuple.bd .nil pass0 (pa_cons (pe_call G_law_sum.ok hr (by rfl) G_law_sum.gl G_law_sum.kp G_law_sum.bd .nil pass0 (pa_cons (pe_slice (r := rSlL K) sl_list (pv 0) (po_some pe_int) (po_some pe_int)) (pa_cons (pv 1) pa_nil))) pa_nil)))
    (pss_cons (ps_set (i := 4) sc_law.nd rfl (Or.inl rfl) (pe_call G_law_tuple.ok hr (by rfl) G_law_tuple.gl G_law_tuple.kp G_law_tuple.bd .nil pass0 (pa_cons (pe_call G_law_sum.ok hr (by rfl) G_law_sum.gl G_law_sum.kp G_law_sum.bd .nil pass0 (pa_cons (pe_slice (r := rSlL K) sl_list (pv 0) (po_some pe_int) (po_some pe_int)) (pa_cons (pv 1) pa_nil))) pa_nil)))
    (pss_cons (ps_if (pt_cmpR op_eq (pe_op op_mod (pe_call G_law_cell_at.ok hr (by rfl) G_law_cell_at.gl G_law_cell_at.kp G_law_cell_at.bd .nil pass0 (pa_cons (pv 0) (pa_cons pe_int pa_nil))) pe_int) pe_int (nomark _)) (pss_one (ps_set (i := 3) sc_law.nd rfl (Or.inl rfl) (pv 2))) pss_nil)
    (pss_cons (ps_if (pw_or (pt_cmpR (op_neD hu5) (pe_call G_plus.ok hr (by rfl) G_plus.gl G_plus.kp G_plus.bd .nil pass0 (pa_cons (pe_call G_plus.ok hr (by rfl) G_plus.gl G_plus.kp G_plus.bd .nil pass0 (pa_cons (pv 2) (pa_cons (pv 3) pa_nil))) (pa_cons (pv 4) pa_nil))) (pe_call G_plus.ok hr (by rfl) G_plus.gl G_plus.kp G_plus.bd .nil pass0 (pa_cons (pv 2) (pa_cons (pe_call G_plus.ok hr (by rfl) G_plus.gl G_plus.kp G_plus.bd .nil pass0 (pa_cons (pv 4) (pa_cons (pv 3) pa_nil))) pa_nil))) (nomark _)) (pw_or1 (pt_cmpR (op_neD hu5) (pe_call G_times.ok hr (by rfl) G_times.gl G_times.kp G_times.bd .nil pass0 (pa_cons (pe_call G_times.ok hr (by rfl) G_times.gl G_times.kp G_times.bd .nil pass0 (pa_cons (pv 2) (pa_cons (pv 3) pa_nil))) (pa_cons (pv 4) pa_nil))) (pe_call G_times.ok hr (by rfl) G_times.gl G_times.kp G_times.bd .nil pass0 (pa_cons (pv 2) (pa_cons (pe_call G_times.ok hr (by rfl) G_times.gl G_times.kp G_times.bd .nil pass0 (pa_cons (pv 4) (pa_cons (pv 3) pa_nil))) pa_nil))) (nomark _)))).pt (pss_one (ps_ret pe_bl)) pss_nil)
    (pss_cons (ps_if (pt_cmpR (op_neD hu5) (pe_call G_times.ok hr (by rfl) G_times.gl G_times.kp G_times.bd .nil pass0 (pa_cons (pe_call G_plus.ok hr (by rfl) G_plus.gl G_plus.kp G_plus.bd .nil pass0 (pa_cons (pv 2) (pa_cons (pv 3) pa_nil))) (pa_cons (pv 4) pa_nil))) (pe_call G_plus.ok hr (by rfl) G_plus.gl G_plus.kp G_plus.bd .nil pass0 (pa_cons (pe_call G_times.ok hr (by rfl) G_times.gl G_times.kp G_times.bd .nil pass0 (pa_cons (pv 2) (pa_cons (pv 4) pa_nil))) (pa_cons (pe_call G_times.ok hr (by rfl) G_times.gl G_times.kp G_times.bd .nil pass0 (pa_cons (pv 3) (pa_cons (pv 4) pa_nil))) pa_nil))) (nomark _)) (pss_one (ps_ret pe_bl)) pss_nil)
    (pss_cons (ps_if (pt_cmpR (op_neD hu5) (pe_call G_times.ok hr (by rfl) G_times.gl G_times.kp G_times.bd .nil pass0 (pa_cons (pv 4) (pa_cons (pe_call G_minus.ok hr (by rfl) G_minus.gl G_minus.kp G_minus.bd .nil pass0 (pa_cons (pv 2) (pa_cons (pv 3) pa_nil))) pa_nil))) (pe_call G_minus.ok hr (by rfl) G_minus.gl G_minus.kp G_minus.bd .nil pass0 (pa_cons (pe_call G_times.ok hr (by rfl) G_times.gl G_times.kp G_times.bd .nil pass0 (pa_cons (pv 4) (pa_cons (pv 2) pa_nil))) (pa_cons (pe_call G_times.ok hr (by rfl) G_times.gl G_times.kp G_times.bd .nil pass0 (pa_cons (pv 4) (pa_cons (pv 3) pa_nil))) pa_nil))) (nomark _)) (pss_one (ps_ret pe_bl)) pss_nil)
    (pss_cons (ps_if (pw_or (pt_cmpR (op_neD hu5) (pe_call G_plus.ok hr (by rfl) G_plus.gl G_plus.kp G_plus.bd .nil pass0 (pa_cons (pe_call G_minus.ok hr (by rfl) G_minus.gl G_minus.kp G_minus.bd .nil pass0 (pa_cons (pv 2) (pa_cons (pv 4) pa_nil))) (pa_cons (pv 4) pa_nil))) (pv 2) (nomark _)) (pw_or (pt_cmpR (op_neD hu5) (pe_call G_minus.ok hr (by rfl) G_minus.gl G_minus.kp G_minus.bd .nil pass0 (pa_cons (pe_call G_plus.ok hr (by rfl) G_plus.gl G_plus.kp G_plus.bd .nil pass0 (pa_cons (pv 2) (pa_cons (pv 4) pa_nil))) (pa_cons (pv 4) pa_nil))) (pv 2) (nomark _)) (pw_or1 (pt_cmpR (op_neD hu5) (pe_call G_minus.ok hr (by rfl) G_minus.gl G_minus.kp G_minus.bd .nil pass0 (pa_cons (pv 2) (pa_cons (pe_call G_minus.ok hr (by rfl) G_minus.gl G_minus.kp G_minus.bd .nil pass0 (pa_cons (pv 2) (pa_cons (pv 3) pa_nil))) pa_nil))) (pv 3) (nomark _))))).pt (pss_one (ps_ret pe_bl)) pss_nil)
    (pss_one (ps_ret (pe_cmpR (op_eqD hu5) (pe_call G_minus.ok hr (by rfl) G_minus.gl G_minus.kp G_minus.bd .nil pass0 (pa_cons (pe_call G_times.ok hr (by rfl) G_times.gl G_times.kp G_times.bd .nil pass0 (pa_cons (pv 2) (pa_cons (pv 2) pa_nil))) (pa_cons (pe_call G_times.ok hr (by rfl) G_times.gl G_times.kp G_times.bd .nil pass0 (pa_cons (pv 3) (pa_cons (pv 3) pa_nil))) pa_nil))) (pe_call G_times.ok hr (by rfl) G_times.gl G_times.kp G_times.bd .nil pass0 (pa_cons (pe_call G_plus.ok hr (by rfl) G_plus.gl G_plus.kp G_plus.bd .nil pass0 (pa_cons (pv 2) (pa_cons (pv 3) pa_nil))) (pa_cons (pe_call G_minus.ok hr (by rfl) G_minus.gl G_minus.kp G_minus.bd .nil pass0 (pa_cons (pv 2) (pa_cons (pv 3) pa_nil))) pa_nil))) (nomark _))))))))))))), ?_⟩
  refine ⟨_, rfl, a, ns, 0, rfl, hS, Int.le_refl 0, _, rfl, a, ns, 1, rfl, hS, by decide, _, 4, rfl, by decide, by decide, fun l H1 ws g1 el hw hlen => ?_⟩
  refine ⟨_, l, ws, rfl, el, hw, hlen, fun p H2 ds us g2 ep pool => ?_⟩
  have gA := g1.trans g2
  obtain ⟨cs, ecs, lcs⟩ := cut_four (ns := ns) 2 6 rfl
  refine ⟨_, rfl, _, rfl, _, rfl, a, _, rfl, gA.seq hS, fun pc hpc => ?_⟩
  have ecs' : cutV (ns.map V.int) (some 2) (some 6) = cs.map V.int := ecs
  rw [ecs']
  have k1 := same_upd (o := .lst (cs.map V.int)) hpc
  refine ⟨_, rfl, pc, p, cs, ds, us, rfl, upd_same, lcs, k1 _ _ ep, pool.mono k1.tk, fun d H3 kvs g3 sd => ⟨d, kvs, rfl, sd, fun vx H4 x g4 sx lx => ?_⟩⟩
  have gB := k1.trans (g3.trans g4)
  replace gA := gA.trans gB
  replace ep := gB _ _ ep
  replace pool := pool.mono gB.tk
  clear gB k1 g3 g4
  obtain ⟨cs2, ecs2, lcs2⟩ := cut_four (ns := ns) 6 10 rfl
  refine ⟨_, rfl, _, rfl, _, rfl, a, _, rfl, gA.seq hS, fun pc2 hpc2 => ?_⟩
  have ecs2' : cutV (ns.map V.int) (some 6) (some 10) = cs2.map V.int := ecs2
  rw [ecs2']
  have k1 := same_upd (o := .lst (cs2.map V.int)) hpc2
  refine ⟨_, rfl, pc2, p, cs2, ds, us, rfl, upd_same, lcs2, k1 _ _ ep, pool.mono k1.tk, fun d2 H5 kvs2 g5 sd2 => ⟨d2, kvs2, rfl, sd2, fun vy H6 y g6 sy ly => ?_⟩⟩
  have gB := k1.trans (g5.trans g6)
  replace gA := gA.trans gB
  replace ep := gB _ _ ep
  replace pool := pool.mono gB.tk
  replace sx := sx.mono gB.tk
  clear gB k1 g5 g6
  obtain ⟨cs3, ecs3, lcs3⟩ := cut_four (ns := ns) 10 14 rfl
  refine ⟨_, rfl, _, rfl, _, rfl, a, _, rfl, gA.seq hS, fun pc3 hpc3 => ?_⟩
  have ecs3' : cutV (ns.map V.int) (some 10) (some 14) = cs3.map V.int := ecs3
  rw [ecs3']
  have k1 := same_upd (o := .lst (cs3.map V.int)) hpc3
  refine ⟨_, rfl, pc3, p, cs3, ds, us, rfl, upd_same, lcs3, k1 _ _ ep, pool.mono k1.tk, fun d3 H7 kvs3 g7 sd3 => ⟨d3, kvs3, rfl, sd3, fun vz H8 z g8 sz lz => ?_⟩⟩
  have gB := k1.trans (g7.trans g8)
  replace gA := gA.trans gB
  replace sx := sx.mono gB.tk
  replace sy := sy.mono gB.tk
  clear gB k1 g7 g8
  have tx := sx.ok.tup
  have ty := sy.ok.tup
  have tz := sz.ok.tup
  have hx : Sv H8 x 3 4 vx := ⟨x, sx, .refl x, lx⟩
  have hy : Sv H8 y 3 4 vy := ⟨y, sy, .refl y, ly⟩
  have hz : Sv H8 z 3 4 vz := ⟨z, sz, .refl z, lz⟩
  clear sx sy sz
  refine ⟨_, rfl, a, ns, 1, rfl, gA.seq hS, by decide, _, _, rfl, rfl, (show (0 : Int) < 4 by decide), rfl, _, rfl, ite2 (fun c => ?_) (fun c => ?_)⟩
  · refine ⟨_, rfl, ?_⟩
    clear hy ty
    have hy := hx
    refine ⟨_, rfl, _, rfl, plus_of (E := E0) hx hy (by decide) (by decide) (by decide) (by decide) fun v1 J1 f1 s1 => ?_⟩
    replace hx := hx.mono f1.tk
    replace hy := hy.mono f1.tk
    replace hz := hz.mono f1.tk
    clear f1
    refine ⟨_, rfl, plus_of (E := E0) s1 hz (by decide) (by decide) (by decide) (by decide) fun v2 J2 f2 s2 => ?_⟩
    replace hx := hx.mono f2.tk
    replace hy := hy.mono f2.tk
    replace hz := hz.mono f2.tk
    clear f2
    refine ⟨_, rfl, _, rfl, _, rfl, plus_of (E := E0) hz hy (by decide) (by decide) (by decide) (by decide) fun v3 J3 f3 s3 => ?_⟩
    replace hx := hx.mono f3.tk
    replace hy := hy.mono f3.tk
    replace hz := hz.mono f3.tk
    replace s2 := s2.mono f3.tk
    clear f3
    refine plus_of (E := E0) hx s3 (by decide) (by decide) (by decide) (by decide) fun v4 J4 f4 s4 => ?_
    replace hx := hx.mono f4.tk
    replace hy := hy.mono f4.tk
    replace hz := hz.mono f4.tk
    replace s2 := s2.mono f4.tk
    clear f4
    refine rEq_no s2 s4 (plus_three x x z) ?_
    refine ⟨_, rfl, ite2 (fun c => absurd c (by decide)) (fun _ => ?_)⟩
    refine ⟨_, rfl, _, rfl, times_of (E := E0) hx hy (by decide) (by decide) (by decide) (by decide) fun v5 J5 f5 s5 => ?_⟩
    replace hx := hx.mono f5.tk
    replace hy := hy.mono f5.tk
    replace hz := hz.mono f5.tk
    clear f5
    refine ⟨_, rfl, times_of (E := E0) s5 hz (by decide) (by decide) (by decide) (by decide) fun v6 J6 f6 s6 => ?_⟩
    replace hx := hx.mono f6.tk
    replace hy := hy.mono f6.tk
    replace hz := hz.mono f6.tk
    clear f6
    refine ⟨_, rfl, _, rfl, _, rfl, times_of (E := E0) hz hy (by decide) (by decide) (by decide) (by decide) fun v7 J7 f7 s7 => ?_⟩
    replace hx := hx.mono f7.tk
    replace hy := hy.mono f7.tk
    replace hz := hz.mono f7.tk
    replace s6 := s6.mono f7.tk
    clear f7
    refine times_of (E := E0) hx s7 (by decide) (by decide) (by decide) (by decide) fun v8 J8 f8 s8 => ?_
    replace hx := hx.mono f8.tk
    replace hy := hy.mono f8.tk
    replace hz := hz.mono f8.tk
    replace s6 := s6.mono f8.tk
    clear f8
    refine rEq_no s6 s8 (mul_assoc_comm tx tx tz) ?_
    refine ⟨_, rfl, ite2 (fun c => absurd c (by decide)) (fun _ => ?_)⟩
    refine ⟨_, rfl, _, rfl, plus_of (E := E0) hx hy (by decide) (by decide) (by decide) (by decide) fun v9 J9 f9 s9 => ?_⟩
    replace hx := hx.mono f9.tk
    replace hy := hy.mono f9.tk
    replace hz := hz.mono f9.tk
    clear f9
    refine ⟨_, rfl, times_of (E := E0) s9 hz (by decide) (by decide) (by decide) (by decide) fun v10 J10 f10 s10 => ?_⟩
    replace hx := hx.mono f10.tk
    replace hy := hy.mono f10.tk
    replace hz := hz.mono f10.tk
    clear f10
    refine ⟨_, rfl, _, rfl, times_of (E := E0) hx hz (by decide) (by decide) (by decide) (by decide) fun v11 J11 f11 s11 => ?_⟩
    replace hx := hx.mono f11.tk
    replace hy := hy.mono f11.tk
    replace hz := hz.mono f11.tk
    replace s10 := s10.mono f11.tk
    clear f11
    refine ⟨_, rfl, _, rfl, times_of (E := E0) hy hz (by decide) (by decide) (by decide) (by decide) fun v12 J12 f12 s12 => ?_⟩
    replace hx := hx.mono f12.tk
    replace hy := hy.mono f12.tk
    replace hz := hz.mono f12.tk
    replace s10 := s10.mono f12.tk
    replace s11 := s11.mono f12.tk
    clear f12
    refine plus_of (E := E0) s11 s12 (by decide) (by decide) (by decide) (by decide) fun v13 J13 f13 s13 => ?_
    replace hx := hx.mono f13.tk
    replace hy := hy.mono f13.tk
    replace hz := hz.mono f13.tk
    replace s10 := s10.mono f13.tk
    clear f13
    refine rEq_no s10 s13 (mul_plus x x z) ?_
    refine ⟨_, rfl, ite2 (fun c => absurd c (by decide)) (fun _ => ?_)⟩
    refine ⟨_, rfl, _, rfl, _, rfl, minus_of (E := E0) hx hy (by decide) (by decide) (by decide) (by decide) fun v14 J14 f14 s14 => ?_⟩
    replace hx := hx.mono f14.tk
    replace hy := hy.mono f14.tk
    replace hz := hz.mono f14.tk
    clear f14
    refine times_of (E := E0) hz s14 (by decide) (by decide) (by decide) (by decide) fun v15 J15 f15 s15 => ?_
    replace hx := hx.mono f15.tk
    replace hy := hy.mono f15.tk
    replace hz := hz.mono f15.tk
    clear f15
    refine ⟨_, rfl, _, rfl, times_of (E := E0) hz hx (by decide) (by decide) (by decide) (by decide) fun v16 J16 f16 s16 => ?_⟩
    replace hx := hx.mono f16.tk
    replace hy := hy.mono f16.tk
    replace hz := hz.mono f16.tk
    replace s15 := s15.mono f16.tk
    clear f16
    refine ⟨_, rfl, _, rfl, times_of (E := E0) hz hy (by decide) (by decide) (by decide) (by decide) fun v17 J17 f17 s17 => ?_⟩
    replace hx := hx.mono f17.tk
    replace hy := hy.mono f17.tk
    replace hz := hz.mono f17.tk
    replace s15 := s15.mono f17.tk
    replace s16 := s16.mono f17.tk
    clear f17
    refine minus_of (E := E0) s16 s17 (by decide) (by decide) (by decide) (by decide) fun v18 J18 f18 s18 => ?_
    replace hx := hx.mono f18.tk
    replace hy := hy.mono f18.tk
    replace hz := hz.mono f18.tk
    replace s15 := s15.mono f18.tk
    clear f18
    refine rEq_no s15 s18 (mul_minus x x z) ?_
    refine ⟨_, rfl, ite2 (fun c => absurd c (by decide)) (fun _ => ?_)⟩
    refine ⟨_, rfl, _, rfl, minus_of (E := E0) hx hz (by decide) (by decide) (by decide) (by decide) fun v19 J19 f19 s19 => ?_⟩
    replace hx := hx.mono f19.tk
    replace hy := hy.mono f19.tk
    replace hz := hz.mono f19.tk
    clear f19
    refine ⟨_, rfl, plus_of (E := E0) s19 hz (by decide) (by decide) (by decide) (by decide) fun v20 J20 f20 s20 => ?_⟩
    replace hx := hx.mono f20.tk
    replace hy := hy.mono f20.tk
    replace hz := hz.mono f20.tk
    clear f20
    refine ⟨_, rfl, rEq_no s20 hx (take_put x z) ?_⟩
    refine ⟨_, rfl, ite2 (fun c => absurd c (by decide)) (fun _ => ?_)⟩
    refine ⟨_, rfl, _, rfl, plus_of (E := E0) hx hz (by decide) (by decide) (by decide) (by decide) fun v21 J21 f21 s21 => ?_⟩
    replace hx := hx.mono f21.tk
    replace hy := hy.mono f21.tk
    replace hz := hz.mono f21.tk
    clear f21
    refine ⟨_, rfl, minus_of (E := E0) s21 hz (by decide) (by decide) (by decide) (by decide) fun v22 J22 f22 s22 => ?_⟩
    replace hx := hx.mono f22.tk
    replace hy := hy.mono f22.tk
    replace hz := hz.mono f22.tk
    clear f22
    refine ⟨_, rfl, rEq_no s22 hx (put_take x z) ?_⟩
    refine ⟨_, rfl, ite2 (fun c => absurd c (by decide)) (fun _ => ?_)⟩
    refine ⟨_, rfl, _, rfl, _, rfl, minus_of (E := E0) hx hy (by decide) (by decide) (by decide) (by decide) fun v23 J23 f23 s23 => ?_⟩
    replace hx := hx.mono f23.tk
    replace hy := hy.mono f23.tk
    replace hz := hz.mono f23.tk
    clear f23
    refine minus_of (E := E0) hx s23 (by decide) (by decide) (by decide) (by decide) fun v24 J24 f24 s24 => ?_
    replace hx := hx.mono f24.tk
    replace hy := hy.mono f24.tk
    replace hz := hz.mono f24.tk
    clear f24
    refine ⟨_, rfl, rEq_no s24 hy (prR_negneg x x) ?_⟩
    refine ⟨_, rfl, ite2 (fun c => absurd c (by decide)) (fun _ => ?_)⟩
    refine ⟨_, rfl, _, rfl, times_of (E := E0) hx hx (by decide) (by decide) (by decide) (by decide) fun v25 J25 f25 s25 => ?_⟩
    replace hx := hx.mono f25.tk
    replace hy := hy.mono f25.tk
    replace hz := hz.mono f25.tk
    clear f25
    refine ⟨_, rfl, _, rfl, times_of (E := E0) hy hy (by decide) (by decide) (by decide) (by decide) fun v26 J26 f26 s26 => ?_⟩
    replace hx := hx.mono f26.tk
    replace hy := hy.mono f26.tk
    replace hz := hz.mono f26.tk
    replace s25 := s25.mono f26.tk
    clear f26
    refine minus_of (E := E0) s25 s26 (by decide) (by decide) (by decide) (by decide) fun v27 J27 f27 s27 => ?_
    replace hx := hx.mono f27.tk
    replace hy := hy.mono f27.tk
    replace hz := hz.mono f27.tk
    clear f27
    refine ⟨_, rfl, _, rfl, plus_of (E := E0) hx hy (by decide) (by decide) (by decide) (by decide) fun v28 J28 f28 s28 => ?_⟩
    replace hx := hx.mono f28.tk
    replace hy := hy.mono f28.tk
    replace hz := hz.mono f28.tk
    replace s27 := s27.mono f28.tk
    clear f28
    refine ⟨_, rfl, _, rfl, minus_of (E := E0) hx hy (by decide) (by decide) (by decide) (by decide) fun v29 J29 f29 s29 => ?_⟩
    replace hx := hx.mono f29.tk
    replace hy := hy.mono f29.tk
    replace hz := hz.mono f29.tk
    replace s27 := s27.mono f29.tk
    replace s28 := s28.mono f29.tk
    clear f29
    refine times_of (E := E0) s28 s29 (by decide) (by decide) (by decide) (by decide) fun v30 J30 f30 s30 => ?_
    replace hx := hx.mono f30.tk
    replace hy := hy.mono f30.tk
    replace hz := hz.mono f30.tk
    replace s27 := s27.mono f30.tk
    clear f30
    refine rEq_yes s27 s30 (squares x x) ?_
    exact q _
  · refine ⟨_, rfl, _, rfl, plus_of (E := E0) hx hy (by decide) (by decide) (by decide) (by decide) fun v1 J1 f1 s1 => ?_⟩
    replace hx := hx.mono f1.tk
    replace hy := hy.mono f1.tk
    replace hz := hz.mono f1.tk
    clear f1
    refine ⟨_, rfl, plus_of (E := E0) s1 hz (by decide) (by decide) (by decide) (by decide) fun v2 J2 f2 s2 => ?_⟩
    replace hx := hx.mono f2.tk
    replace hy := hy.mono f2.tk
    replace hz := hz.mono f2.tk
    clear f2
    refine ⟨_, rfl, _, rfl, _, rfl, plus_of (E := E0) hz hy (by decide) (by decide) (by decide) (by decide) fun v3 J3 f3 s3 => ?_⟩
    replace hx := hx.mono f3.tk
    replace hy := hy.mono f3.tk
    replace hz := hz.mono f3.tk
    replace s2 := s2.mono f3.tk
    clear f3
    refine plus_of (E := E0) hx s3 (by decide) (by decide) (by decide) (by decide) fun v4 J4 f4 s4 => ?_
    replace hx := hx.mono f4.tk
    replace hy := hy.mono f4.tk
    replace hz := hz.mono f4.tk
    replace s2 := s2.mono f4.tk
    clear f4
    refine rEq_no s2 s4 (plus_three x y z) ?_
    refine ⟨_, rfl, ite2 (fun c => absurd c (by decide)) (fun _ => ?_)⟩
    refine ⟨_, rfl, _, rfl, times_of (E := E0) hx hy (by decide) (by decide) (by decide) (by decide) fun v5 J5 f5 s5 => ?_⟩
    replace hx := hx.mono f5.tk
    replace hy := hy.mono f5.tk
    replace hz := hz.mono f5.tk
    clear f5
    refine ⟨_, rfl, times_of (E := E0) s5 hz (by decide) (by decide) (by decide) (by decide) fun v6 J6 f6 s6 => ?_⟩
    replace hx := hx.mono f6.tk
    replace hy := hy.mono f6.tk
    replace hz := hz.mono f6.tk
    clear f6
    refine ⟨_, rfl, _, rfl, _, rfl, times_of (E := E0) hz hy (by decide) (by decide) (by decide) (by decide) fun v7 J7 f7 s7 => ?_⟩
    replace hx := hx.mono f7.tk
    replace hy := hy.mono f7.tk
    replace hz := hz.mono f7.tk
    replace s6 := s6.mono f7.tk
    clear f7
    refine times_of (E := E0) hx s7 (by decide) (by decide) (by decide) (by decide) fun v8 J8 f8 s8 => ?_
    replace hx := hx.mono f8.tk
    replace hy := hy.mono f8.tk
    replace hz := hz.mono f8.tk
    replace s6 := s6.mono f8.tk
    clear f8
    refine rEq_no s6 s8 (mul_assoc_comm tx ty tz) ?_
    refine ⟨_, rfl, ite2 (fun c => absurd c (by decide)) (fun _ => ?_)⟩
    refine ⟨_, rfl, _, rfl, plus_of (E := E0) hx hy (by decide) (by decide) (by decide) (by decide) fun v9 J9 f9 s9 => ?_⟩
    replace hx := hx.mono f9.tk
    replace hy := hy.mono f9.tk
    replace hz := hz.mono f9.tk
    clear f9
    refine ⟨_, rfl, times_of (E := E0) s9 hz (by decide) (by decide) (by decide) (by decide) fun v10 J10 f10 s10 => ?_⟩
    replace hx := hx.mono f10.tk
    replace hy := hy.mono f10.tk
    replace hz := hz.mono f10.tk
    clear f10
    refine ⟨_, rfl, _, rfl, times_of (E := E0) hx hz (by decide) (by decide) (by decide) (by decide) fun v11 J11 f11 s11 => ?_⟩
    replace hx := hx.mono f11.tk
    replace hy := hy.mono f11.tk
    replace hz := hz.mono f11.tk
    replace s10 := s10.mono f11.tk
    clear f11
    refine ⟨_, rfl, _, rfl, times_of (E := E0) hy hz (by decide) (by decide) (by decide) (by decide) fun v12 J12 f12 s12 => ?_⟩
    replace hx := hx.mono f12.tk
    replace hy := hy.mono f12.tk
    replace hz := hz.mono f12.tk
    replace s10 := s10.mono f12.tk
    replace s11 := s11.mono f12.tk
    clear f12
    refine plus_of (E := E0) s11 s12 (by decide) (by decide) (by decide) (by decide) fun v13 J13 f13 s13 => ?_
    replace hx := hx.mono f13.tk
    replace hy := hy.mono f13.tk
    replace hz := hz.mono f13.tk
    replace s10 := s10.mono f13.tk
    clear f13
    refine rEq_no s10 s13 (mul_plus x y z) ?_
    refine ⟨_, rfl, ite2 (fun c => absurd c (by decide)) (fun _ => ?_)⟩
    refine ⟨_, rfl, _, rfl, _, rfl, minus_of (E := E0) hx hy (by decide) (by decide) (by decide) (by decide) fun v14 J14 f14 s14 => ?_⟩
    replace hx := hx.mono f14.tk
    replace hy := hy.mono f14.tk
    replace hz := hz.mono f14.tk
    clear f14
    refine times_of (E := E0) hz s14 (by decide) (by decide) (by decide) (by decide) fun v15 J15 f15 s15 => ?_
    replace hx := hx.mono f15.tk
    replace hy := hy.mono f15.tk
    replace hz := hz.mono f15.tk
    clear f15
    refine ⟨_, rfl, _, rfl, times_of (E := E0) hz hx (by decide) (by decide) (by decide) (by decide) fun v16 J16 f16 s16 => ?_⟩
    replace hx := hx.mono f16.tk
    replace hy := hy.mono f16.tk
    replace hz := hz.mono f16.tk
    replace s15 := s15.mono f16.tk
    clear f16
    refine ⟨_, rfl, _, rfl, times_of (E := E0) hz hy (by decide) (by decide) (by decide) (by decide) fun v17 J17 f17 s17 => ?_⟩
    replace hx := hx.mono f17.tk
    replace hy := hy.mono f17.tk
    replace hz := hz.mono f17.tk
    replace s15 := s15.mono f17.tk
    replace s16 := s16.mono f17.tk
    clear f17
    refine minus_of (E := E0) s16 s17 (by decide) (by decide) (by decide) (by decide) fun v18 J18 f18 s18 => ?_
    replace hx := hx.mono f18.tk
    replace hy := hy.mono f18.tk
    replace hz := hz.mono f18.tk
    replace s15 := s15.mono f18.tk
    clear f18
    refine rEq_no s15 s18 (mul_minus x y z) ?_
    refine ⟨_, rfl, ite2 (fun c => absurd c (by decide)) (fun _ => ?_)⟩
    refine ⟨_, rfl, _, rfl, minus_of (E := E0) hx hz (by decide) (by decide) (by decide) (by decide) fun v19 J19 f19 s19 => ?_⟩
    replace hx := hx.mono f19.tk
    replace hy := hy.mono f19.tk
    replace hz := hz.mono f19.tk
    clear f19
    refine ⟨_, rfl, plus_of (E := E0) s19 hz (by decide) (by decide) (by decide) (by decide) fun v20 J20 f20 s20 => ?_⟩
    replace hx := hx.mono f20.tk
    replace hy := hy.mono f20.tk
    replace hz := hz.mono f20.tk
    clear f20
    refine ⟨_, rfl, rEq_no s20 hx (take_put x z) ?_⟩
    refine ⟨_, rfl, ite2 (fun c => absurd c (by decide)) (fun _ => ?_)⟩
    refine ⟨_, rfl, _, rfl, plus_of (E := E0) hx hz (by decide) (by decide) (by decide) (by decide) fun v21 J21 f21 s21 => ?_⟩
    replace hx := hx.mono f21.tk
    replace hy := hy.mono f21.tk
    replace hz := hz.mono f21.tk
    clear f21
    refine ⟨_, rfl, minus_of (E := E0) s21 hz (by decide) (by decide) (by decide) (by decide) fun v22 J22 f22 s22 => ?_⟩
    replace hx := hx.mono f22.tk
    replace hy := hy.mono f22.tk
    replace hz := hz.mono f22.tk
    clear f22
    refine ⟨_, rfl, rEq_no s22 hx (put_take x z) ?_⟩
    refine ⟨_, rfl, ite2 (fun c => absurd c (by decide)) (fun _ => ?_)⟩
    refine ⟨_, rfl, _, rfl, _, rfl, minus_of (E := E0) hx hy (by decide) (by decide) (by decide) (by decide) fun v23 J23 f23 s23 => ?_⟩
    replace hx := hx.mono f23.tk
    replace hy := hy.mono f23.tk
    replace hz := hz.mono f23.tk
    clear f23
    refine minus_of (E := E0) hx s23 (by decide) (by decide) (by decide) (by decide) fun v24 J24 f24 s24 => ?_
    replace hx := hx.mono f24.tk
    replace hy := hy.mono f24.tk
    replace hz := hz.mono f24.tk
    clear f24
    refine ⟨_, rfl, rEq_no s24 hy (prR_negneg x y) ?_⟩
    refine ⟨_, rfl, ite2 (fun c => absurd c (by decide)) (fun _ => ?_)⟩
    refine ⟨_, rfl, _, rfl, times_of (E := E0) hx hx (by decide) (by decide) (by decide) (by decide) fun v25 J25 f25 s25 => ?_⟩
    replace hx := hx.mono f25.tk
    replace hy := hy.mono f25.tk
    replace hz := hz.mono f25.tk
    clear f25
    refine ⟨_, rfl, _, rfl, times_of (E := E0) hy hy (by decide) (by decide) (by decide) (by decide) fun v26 J26 f26 s26 => ?_⟩
    replace hx := hx.mono f26.tk
    replace hy := hy.mono f26.tk
    replace hz := hz.mono f26.tk
    replace s25 := s25.mono f26.tk
    clear f26
    refine minus_of (E := E0) s25 s26 (by decide) (by decide) (by decide) (by decide) fun v27 J27 f27 s27 => ?_
    replace hx := hx.mono f27.tk
    replace hy := hy.mono f27.tk
    replace hz := hz.mono f27.tk
    clear f27
    refine ⟨_, rfl, _, rfl, plus_of (E := E0) hx hy (by decide) (by decide) (by decide) (by decide) fun v28 J28 f28 s28 => ?_⟩
    replace hx := hx.mono f28.tk
    replace hy := hy.mono f28.tk
    replace hz := hz.mono f28.tk
    replace s27 := s27.mono f28.tk
    clear f28
    refine ⟨_, rfl, _, rfl, minus_of (E := E0) hx hy (by decide) (by decide) (by decide) (by decide) fun v29 J29 f29 s29 => ?_⟩
    replace hx := hx.mono f29.tk
    replace hy := hy.mono f29.tk
    replace hz := hz.mono f29.tk
    replace s27 := s27.mono f29.tk
    replace s28 := s28.mono f29.tk
    clear f29
    refine times_of (E := E0) s28 s29 (by decide) (by decide) (by decide) (by decide) fun v30 J30 f30 s30 => ?_
    replace hx := hx.mono f30.tk
    replace hy := hy.mono f30.tk
    replace hz := hz.mono f30.tk
    replace s27 := s27.mono f30.tk
    clear f30
    refine rEq_yes s27 s30 (squares x y) ?_
    exact q _
end
end K36
set_option Elab.async false
set_option linter.all false
set_option maxRecDepth 100000
set_option maxHeartbeats 4000000
namespace K36
open PySem PySem.Spec L2 PyProof.Rows
theorem keep_of {K : PySem.W.Frag} {f : Addr} {oc : Value} {od : Option Addr} {fd : FuncData} {sl : Array (Option Value)} (l : K.lookup f = some ⟨oc, od, .func fd, sl⟩) : PySem.W.keepIn K (.ref f) = true := by unfold PySem.W.keepIn; dsimp only; rw [l]
theorem all_mk {l : PySem.W.OpenLaw} {w : World} {K : PySem.W.Frag} {h : Heap} {mg : Str → Option Value} {fa f0 f1 f2 f3 f4 f5 f6 f7 f8 f9 f10 f11 f12  : Addr} (X : K.In h) (G : h.Ns mainGlobals mg) (hfa : mg "law" = some (.ref fa))
    {od0 an0 : Option Addr} {sl0 : Array (Option Value)} {oc0 kV0 dc0 pm0 cd0 ct0 : Value}
    {od1 an1 : Option Addr} {sl1 : Array (Option Value)} {oc1 kV1 dc1 pm1 cd1 ct1 : Value}
    {od2 an2 : Option Addr} {sl2 : Array (Option Value)} {oc2 kV2 dc2 pm2 cd2 ct2 : Value}
    {od3 an3 : Option Addr} {sl3 : Array (Option Value)} {oc3 kV3 dc3 pm3 cd3 ct3 : Value}
    {od4 an4 : Option Addr} {sl4 : Array (Option Value)} {oc4 kV4 dc4 pm4 cd4 ct4 : Value}
    {od5 an5 : Option Addr} {sl5 : Array (Option Value)} {oc5 kV5 dc5 pm5 cd5 ct5 : Value}
    {od6 an6 : Option Addr} {sl6 : Array (Option Value)} {oc6 kV6 dc6 pm6 cd6 ct6 : Value}
    {od7 an7 : Option Addr} {sl7 : Array (Option Value)} {oc7 kV7 dc7 pm7 cd7 ct7 : Value}
    {od8 an8 : Option Addr} {sl8 : Array (Option Value)} {oc8 kV8 dc8 pm8 cd8 ct8 : Value}
    {od9 an9 : Option Addr} {sl9 : Array (Option Value)} {oc9 kV9 dc9 pm9 cd9 ct9 : Value}
    {od10 an10 : Option Addr} {sl10 : Array (Option Value)} {oc10 kV10 dc10 pm10 cd10 ct10 : Value}
    {od11 an11 : Option Addr} {sl11 : Array (Option Value)} {oc11 kV11 dc11 pm11 cd11 ct11 : Value}
    {od12 an12 : Option Addr} {sl12 : Array (Option Value)} {oc12 kV12 dc12 pm12 cd12 ct12 : Value}
    (a0 : PySem.W.nsIn K mainGlobals "wrapped" = some (some (.ref f0))) (l0 : K.lookup f0 = some ⟨oc0, od0, .func (PySem.W.fnOf "wrapped" "wrapped" (defArgs s_wrapped) (defBody s_wrapped) (defScope s_wrapped) .none kV0 dc0 pm0 an0 cd0 ct0), sl0⟩) (c0 : PySem.W.codeIn K cd0 "wrapped" = true)
    (a1 : PySem.W.nsIn K mainGlobals "summed" = some (some (.ref f1))) (l1 : K.lookup f1 = some ⟨oc1, od1, .func (PySem.W.fnOf "summed" "summed" (defArgs s_summed) (defBody s_summed) (defScope s_summed) .none kV1 dc1 pm1 an1 cd1 ct1), sl1⟩) (c1 : PySem.W.codeIn K cd1 "summed" = true)
    (a2 : PySem.W.nsIn K mainGlobals "plus" = some (some (.ref f2))) (l2 : K.lookup f2 = some ⟨oc2, od2, .func (PySem.W.fnOf "plus" "plus" (defArgs s_plus) (defBody s_plus) (defScope s_plus) .none kV2 dc2 pm2 an2 cd2 ct2), sl2⟩) (c2 : PySem.W.codeIn K cd2 "plus" = true)
    (a3 : PySem.W.nsIn K mainGlobals "minus" = some (some (.ref f3))) (l3 : K.lookup f3 = some ⟨oc3, od3, .func (PySem.W.fnOf "minus" "minus" (defArgs s_minus) (defBody s_minus) (defScope s_minus) .none kV3 dc3 pm3 an3 cd3 ct3), sl3⟩) (c3 : PySem.W.codeIn K cd3 "minus" = true)
    (a4 : PySem.W.nsIn K mainGlobals "times" = some (some (.ref f4))) (l4 : K.lookup f4 = some ⟨oc4, od4, .func (PySem.W.fnOf "times" "times" (defArgs s_times) (defBody s_times) (defScope s_times) .none kV4 dc4 pm4 an4 cd4 ct4), sl4⟩) (c4 : PySem.W.codeIn K cd4 "times" = true)
    (a5 : PySem.W.nsIn K mainGlobals "_law_cell_at" = some (some (.ref f5))) (l5 : K.lookup f5 = some ⟨oc5, od5, .func (PySem.W.fnOf "_law_cell_at" "_law_cell_at" (defArgs s_law_cell_at) (defBody s_law_cell_at) (defScope s_law_cell_at) .none kV5 dc5 pm5 an5 cd5 ct5), sl5⟩) (c5 : PySem.W.codeIn K cd5 "_law_cell_at" = true)
    (a6 : PySem.W.nsIn K mainGlobals "_law_words" = some (some (.ref f6))) (l6 : K.lookup f6 = some ⟨oc6, od6, .func (PySem.W.fnOf "_law_words" "_law_words" (defArgs s_law_words) (defBody s_law_words) (defScope s_law_words) .none kV6 dc6 pm6 an6 cd6 ct6), sl6⟩) (c6 : PySem.W.codeIn K cd6 "_law_words" = true)
    (a7 : PySem.W.nsIn K mainGlobals "_law_mixed" = some (some (.ref f7))) (l7 : K.lookup f7 = some ⟨oc7, od7, .func (PySem.W.fnOf "_law_mixed" "_law_mixed" (defArgs s_law_mixed) (defBody s_law_mixed) (defScope s_law_mixed) .none kV7 dc7 pm7 an7 cd7 ct7), sl7⟩) (c7 : PySem.W.codeIn K cd7 "_law_mixed" = true)
    (a8 : PySem.W.nsIn K mainGlobals "_law_pool" = some (some (.ref f8))) (l8 : K.lookup f8 = some ⟨oc8, od8, .func (PySem.W.fnOf "_law_pool" "_law_pool" (defArgs s_law_pool) (defBody s_law_pool) (defScope s_law_pool) .none kV8 dc8 pm8 an8 cd8 ct8), sl8⟩) (c8 : PySem.W.codeIn K cd8 "_law_pool" = true)
    (a9 : PySem.W.nsIn K mainGlobals "_law_product" = some (some (.ref f9))) (l9 : K.lookup f9 = some ⟨oc9, od9, .func (PySem.W.fnOf "_law_product" "_law_product" (defArgs s_law_product) (defBody s_law_product) (defScope s_law_product) .none kV9 dc9 pm9 an9 cd9 ct9), sl9⟩) (c9 : PySem.W.codeIn K cd9 "_law_product" = true)
    (a10 : PySem.W.nsIn K mainGlobals "_law_sum" = some (some (.ref f10))) (l10 : K.lookup f10 = some ⟨oc10, od10, .func (PySem.W.fnOf "_law_sum" "_law_sum" (defArgs s_law_sum) (defBody s_law_sum) (defScope s_law_sum) .none kV10 dc10 pm10 an10 cd10 ct10), sl10⟩) (c10 : PySem.W.codeIn K cd10 "_law_sum" = true)
    (a11 : PySem.W.nsIn K mainGlobals "_law_tuple" = some (some (.ref f11))) (l11 : K.lookup f11 = some ⟨oc11, od11, .func (PySem.W.fnOf "_law_tuple" "_law_tuple" (defArgs s_law_tuple) (defBody s_law_tuple) (defScope s_law_tuple) .none kV11 dc11 pm11 an11 cd11 ct11), sl11⟩) (c11 : PySem.W.codeIn K cd11 "_law_tuple" = true)
    (a12 : PySem.W.nsIn K mainGlobals "law" = some (some (.ref f12))) (l12 : K.lookup f12 = some ⟨oc12, od12, .func (PySem.W.fnOf "law" "law" (defArgs s_law) (defBody s_law) (defScope s_law) .none kV12 dc12 pm12 an12 cd12 ct12), sl12⟩) (c12 : PySem.W.codeIn K cd12 "law" = true)
    (z_len : PySem.W.nsIn K mainGlobals "len" = some none)
    (z_range : PySem.W.nsIn K mainGlobals "range" = some none)
    (z_int : PySem.W.nsIn K mainGlobals "int" = some none)
    (z_tuple : PySem.W.nsIn K mainGlobals "tuple" = some none)
    (z_sorted : PySem.W.nsIn K mainGlobals "sorted" = some none)
    : ∃ fd : FuncData, (∀ (s : Shared) (v : Value), BindsTo s fd ⟨[v], []⟩ [("_law_script", v)]) ∧ ∀ base : Heap, K.In base → base.Ns mainGlobals mg → FnOk l.prog w K mg base CX0 4 fa fd ["_law_script"] (sp_law K) := by
  have e := hfa.symm.trans (PySem.W.mg_of X G a12)
  cases e
  have z_len := PySem.W.mg_none_of X G z_len
  have z_range := PySem.W.mg_none_of X G z_range
  have z_int := PySem.W.mg_none_of X G z_int
  have z_tuple := PySem.W.mg_none_of X G z_tuple
  have z_sorted := PySem.W.mg_none_of X G z_sorted
  have k0 := keep_of l0
  have F0 := fun_mk (st := s_wrapped) l0 c0 k0
  have b0 := F0.binds (ps := ["number"]) fun _ _ _ _ _ _ us hl => match us, hl with | [_], _ => rfl
  have m0 := PySem.W.mg_of X G a0
  have k1 := keep_of l1
  have F1 := fun_mk (st := s_summed) l1 c1 k1
  have b1 := F1.binds (ps := ["rows"]) fun _ _ _ _ _ _ us hl => match us, hl with | [_], _ => rfl
  have m1 := PySem.W.mg_of X G a1
  have k2 := keep_of l2
  have F2 := fun_mk (st := s_plus) l2 c2 k2
  have b2 := F2.binds (ps := ["one", "other"]) fun _ _ _ _ _ _ us hl => match us, hl with | [_, _], _ => rfl
  have m2 := PySem.W.mg_of X G a2
  have k3 := keep_of l3
  have F3 := fun_mk (st := s_minus) l3 c3 k3
  have b3 := F3.binds (ps := ["one", "other"]) fun _ _ _ _ _ _ us hl => match us, hl with | [_, _], _ => rfl
  have m3 := PySem.W.mg_of X G a3
  have k4 := keep_of l4
  have F4 := fun_mk (st := s_times) l4 c4 k4
  have b4 := F4.binds (ps := ["one", "other"]) fun _ _ _ _ _ _ us hl => match us, hl with | [_, _], _ => rfl
  have m4 := PySem.W.mg_of X G a4
  have k5 := keep_of l5
  have F5 := fun_mk (st := s_law_cell_at) l5 c5 k5
  have b5 := F5.binds (ps := ["_law_script", "_law_k"]) fun _ _ _ _ _ _ us hl => match us, hl with | [_, _], _ => rfl
  have m5 := PySem.W.mg_of X G a5
  have k6 := keep_of l6
  have F6 := fun_mk (st := s_law_words) l6 c6 k6
  have b6 := F6.binds (ps := ["_law_cell", "_law_many"]) fun _ _ _ _ _ _ us hl => match us, hl with | [_, _], _ => rfl
  have m6 := PySem.W.mg_of X G a6
  have k7 := keep_of l7
  have F7 := fun_mk (st := s_law_mixed) l7 c7 k7
  have b7 := F7.binds (ps := ["_law_cell", "_law_many"]) fun _ _ _ _ _ _ us hl => match us, hl with | [_, _], _ => rfl
  have m7 := PySem.W.mg_of X G a7
  have k8 := keep_of l8
  have F8 := fun_mk (st := s_law_pool) l8 c8 k8
  have b8 := F8.binds (ps := ["_law_cell", "_law_words_here"]) fun _ _ _ _ _ _ us hl => match us, hl with | [_, _], _ => rfl
  have m8 := PySem.W.mg_of X G a8
  have k9 := keep_of l9
  have F9 := fun_mk (st := s_law_product) l9 c9 k9
  have b9 := F9.binds (ps := ["_law_cell", "_law_pool_here"]) fun _ _ _ _ _ _ us hl => match us, hl with | [_, _], _ => rfl
  have m9 := PySem.W.mg_of X G a9
  have k10 := keep_of l10
  have F10 := fun_mk (st := s_law_sum) l10 c10 k10
  have b10 := F10.binds (ps := ["_law_cells", "_law_pool_here"]) fun _ _ _ _ _ _ us hl => match us, hl with | [_, _], _ => rfl
  have m10 := PySem.W.mg_of X G a10
  have k11 := keep_of l11
  have F11 := fun_mk (st := s_law_tuple) l11 c11 k11
  have b11 := F11.binds (ps := ["_law_found"]) fun _ _ _ _ _ _ us hl => match us, hl with | [_], _ => rfl
  have m11 := PySem.W.mg_of X G a11
  have k12 := keep_of l12
  have F12 := fun_mk (st := s_law) l12 c12 k12
  have b12 := F12.binds (ps := ["_law_script"]) fun _ _ _ _ _ _ us hl => match us, hl with | [_], _ => rfl
  have m12 := PySem.W.mg_of X G a12
  refine ⟨PySem.W.fnOf "law" "law" (defArgs s_law) (defBody s_law) (defScope s_law) .none kV12 dc12 pm12 an12 cd12 ct12, fun s v => .of_eq rfl, fun base _ _ => ?_⟩
  have G0 : FnB l.prog w K mg base 1 "wrapped" f0 _ _ _ := ⟨ok_wrapped (k := 0) F0, b0, k0, m0⟩
  have G1 : FnB l.prog w K mg base 2 "summed" f1 _ _ _ := ⟨ok_summed F1 z_sorted z_tuple (G0.up (k := 1) (by decide)), b1, k1, m1⟩
  have G2 : FnB l.prog w K mg base 3 "plus" f2 _ _ _ := ⟨ok_plus F2 (G1.up (k := 2) (by decide)), b2, k2, m2⟩
  have G3 : FnB l.prog w K mg base 3 "minus" f3 _ _ _ := ⟨ok_minus F3 z_tuple (G1.up (k := 2) (by decide)), b3, k3, m3⟩
  have G4 : FnB l.prog w K mg base 3 "times" f4 _ _ _ := ⟨ok_times F4 z_sorted z_tuple (G1.up (k := 2) (by decide)), b4, k4, m4⟩
  have G5 : FnB l.prog w K mg base 1 "_law_cell_at" f5 _ _ _ := ⟨ok_cell_at (k := 0) F5 z_len, b5, k5, m5⟩
  have G6 : FnB l.prog w K mg base 1 "_law_words" f6 _ _ _ := ⟨ok_words (k := 0) F6 z_range z_len z_int, b6, k6, m6⟩
  have G7 : FnB l.prog w K mg base 1 "_law_mixed" f7 _ _ _ := ⟨ok_mixed (k := 0) F7 z_range, b7, k7, m7⟩
  have G8 : FnB l.prog w K mg base 1 "_law_pool" f8 _ _ _ := ⟨ok_pool (k := 0) F8 z_sorted z_tuple, b8, k8, m8⟩
  have G9 : FnB l.prog w K mg base 2 "_law_product" f9 _ _ _ := ⟨ok_product F9 z_sorted z_tuple (G7.up (k := 1) (by decide)), b9, k9, m9⟩
  have G10 : FnB l.prog w K mg base 3 "_law_sum" f10 _ _ _ := ⟨ok_sum F10 (G9.up (k := 2) (by decide)), b10, k10, m10⟩
  have G11 : FnB l.prog w K mg base 1 "_law_tuple" f11 _ _ _ := ⟨ok_tuple (k := 0) F11 z_sorted z_tuple, b11, k11, m11⟩
  exact ok_law F12 (G6.up (k := 3) (by decide)) (G5.up (k := 3) (by decide)) (G8.up (k := 3) (by decide)) (G10.up (k := 3) (by decide)) (G11.up (k := 3) (by decide)) (G2.up (k := 3) (by decide)) (G3.up (k := 3) (by decide)) (G4.up (k := 3) (by decide))
theorem walk {l : PySem.W.OpenLaw} {q : Program} {loose : List Str} {XP : (Str → Option Value) → Heap → Prop} {YP : World → Heap → Prop} {d : DefRec} {K : Params → PySem.W.Frag} (hn : l.most = some 63) (hdf : d.params.defaults = [])
    (hY : ∀ (w : World) (h : Heap), YP w h → (K w.params).In h)
    (F : ∀ (w : World) (mg : Str → Option Value) (fa : Addr) (h : Heap), (K w.params).In h → h.Ns mainGlobals mg → mg d.name = some (.ref fa) →
      ∃ fd : FuncData, (∀ (s : Shared) (u : Value), BindsTo s fd ⟨[u], []⟩ [("_law_script", u)]) ∧ ∀ base : Heap, (K w.params).In base → base.Ns mainGlobals mg → FnOk l.prog w (K w.params) mg base CX0 4 fa fd ["_law_script"] (sp_law (K w.params))) :
    PySem.W.WalkO q loose XP YP l.row.toRowW d [] (fun f vs => PySem.call f vs) :=
  L2.walk_of (n := 63) (k := 4) (x := "_law_script") (CX := fun _ => CX0) (sp := fun w => sp_law (K w.params)) hn (by decide) hdf ⟨rfl, by decide, by decide⟩ hY F (fun _ _ a ns hl _ hS => ⟨a, ns, rfl, hS, hl, fun _ => rfl⟩) fun _ _ _ _ _ z => z
end K36
open PySem PySem.W PyProof.Rows
set_option maxRecDepth 100000 in
set_option maxHeartbeats 0 in
theorem PySem.Challenge.cw_recastle_k36_sums_by_rules_holds : PySem.Challenge.rw_recastle_k36_sums_by_rules.Holds := by
  w_on; o_law; k_head; (case hw => w_witness2)
  k_fill
  refine K36.walk (l := PySem.Challenge.rw_recastle_k36_sums_by_rules) rfl rfl (fun w h Y => PySem.W.kIn_of Y) ?F
  case F =>
    intro w mg fa h KX G hmg
    refine' K36.all_mk KX G hmg ?a0 ?l0 ?c0 ?a1 ?l1 ?c1 ?a2 ?l2 ?c2 ?a3 ?l3 ?c3 ?a4 ?l4 ?c4 ?a5 ?l5 ?c5 ?a6 ?l6 ?c6 ?a7 ?l7 ?c7 ?a8 ?l8 ?c8 ?a9 ?l9 ?c9 ?a10 ?l10 ?c10 ?a11 ?l11 ?c11 ?a12 ?l12 ?c12 ?z_len ?z_range ?z_int ?z_tuple ?z_sorted
    (case a0 => k_is); (case l0 => k_is); (case c0 => k_is); (case a1 => k_is)
    (case l1 => k_is); (case c1 => k_is); (case a2 => k_is); (case l2 => k_is)
    (case c2 => k_is); (case a3 => k_is); (case l3 => k_is); (case c3 => k_is)
    (case a4 => k_is); (case l4 => k_is); (case c4 => k_is); (case a5 => k_is)
    (case l5 => k_is); (case c5 => k_is); (case a6 => k_is); (case l6 => k_is)
    (case c6 => k_is); (case a7 => k_is); (case l7 => k_is); (case c7 => k_is)
    (case a8 => k_is); (case l8 => k_is); (case c8 => k_is); (case a9 => k_is)
    (case l9 => k_is); (case c9 => k_is); (case a10 => k_is); (case l10 => k_is)
    (case c10 => k_is); (case a11 => k_is); (case l11 => k_is); (case c11 => k_is)
    (case a12 => k_is); (case l12 => k_is); (case c12 => k_is); (case z_len => k_is)
    (case z_range => k_is); (case z_int => k_is); (case z_tuple => k_is); (case z_sorted => k_is)
#print axioms PySem.Challenge.cw_recastle_k36_sums_by_rules_holds