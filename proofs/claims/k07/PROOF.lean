import PyProof.Rows.All
import Wide.All
import OpenK.AllK
import Wide.FinOn
import Lean
import PyProof.EqAt
import PyProof.EqKinds
import PyProof.TupleCall
import PyProof.NeKinds
import PyProof.AttrMissHeap
import KE.KDictOf
import KE.KDictLaws
import KE.KSortTup
import PyProof.Rows.SortWalk
import PyProof.Rows.SortShellK
import PySem.Challenge.RW_recastle_k07_texts_refused
set_option Elab.async false
set_option linter.all false
set_option maxRecDepth 100000
namespace L2
open PySem PySem.Spec PyProof.Rows
abbrev Key := Sum Int Str
def keyIs : Key → Value → Bool
  | .inl k, v => Value.isInt k v
  | .inr x, v => Value.isStrOf x v
def keyH (w : World) : Key → Int
  | .inl k => hashInt k
  | .inr x => hashStr w x
theorem keyIs_shape : ∀ {k : Key} {v : Value}, keyIs k v = true → (∃ i t, k = Sum.inl i ∧ v = Value.int i t) ∨ (∃ x t, k = Sum.inr x ∧ v = Value.str x t)
  | .inl i, v, h => by
    obtain ⟨t, e⟩ := Value.isInt_shape (k := i) (v := v) h
    exact .inl ⟨i, t, rfl, e⟩
  | .inr x, v, h => by
    obtain ⟨t, e⟩ := Value.isStrOf_shape (x := x) (v := v) h
    exact .inr ⟨x, t, rfl, e⟩
theorem key_ll (a b : Int) : decide ((Sum.inl a : Key) = Sum.inl b) = (a == b) := by
  by_cases e : a = b
  · subst e; simp
  · have h : ¬ (Sum.inl a : Key) = Sum.inl b := fun q => e (Sum.inl.inj q)
    rw [decide_eq_false h]
    exact (beq_eq_false_iff_ne.mpr e).symm
theorem key_rr (a b : Str) : decide ((Sum.inr a : Key) = Sum.inr b) = decide (a = b) := by
  by_cases e : a = b
  · subst e; simp
  · have h : ¬ (Sum.inr a : Key) = Sum.inr b := fun q => e (Sum.inr.inj q)
    rw [decide_eq_false h, decide_eq_false e]
theorem key_lr (a : Int) (b : Str) : decide ((Sum.inl a : Key) = Sum.inr b) = false := decide_eq_false (fun q => nomatch q)
theorem key_rl (a : Str) (b : Int) : decide ((Sum.inr a : Key) = Sum.inl b) = false := decide_eq_false (fun q => nomatch q)
def mixKind (prog : Program) (w : World) : PySem.KeyKind prog w Key where
  is := keyIs
  hash := keyH w
  inj := fun v a b ha hb => by
    rcases keyIs_shape ha with ⟨i, t, rfl, rfl⟩ | ⟨x, t, rfl, rfl⟩
    · rcases keyIs_shape hb with ⟨j, u, rfl, e⟩ | ⟨y, u, rfl, e⟩
      · injection e with e1 _; rw [e1]
      · exact nomatch e
    · rcases keyIs_shape hb with ⟨j, u, rfl, e⟩ | ⟨y, u, rfl, e⟩
      · exact nomatch e
      · injection e with e1 _; rw [e1]
  byValue := fun k v h => by
    rcases keyIs_shape h with ⟨i, t, rfl, rfl⟩ | ⟨x, t, rfl, rfl⟩ <;> rfl
  pyHash := fun hv h => by
    rcases keyIs_shape hv with ⟨i, t, rfl, rfl⟩ | ⟨x, t, rfl, rfl⟩
    · exact wpAny_pyHash_int h
    · exact wpAny_pyHash_str h
  eqBool := fun hu hv h => by
    rcases keyIs_shape hu with ⟨i, t, rfl, rfl⟩ | ⟨x, t, rfl, rfl⟩
    · rcases keyIs_shape hv with ⟨j, u, rfl, rfl⟩ | ⟨y, u, rfl, rfl⟩
      · rw [key_ll] at h; exact wpAny_eqBool_int h
      · rw [key_lr] at h; exact SeqAt.EqAt.int_str i t y u _ _ _ _ h
    · rcases keyIs_shape hv with ⟨j, u, rfl, rfl⟩ | ⟨y, u, rfl, rfl⟩
      · rw [key_rl] at h; exact SeqAt.EqAt.str_int x t j u _ _ _ _ h
      · rw [key_rr] at h; exact wpAny_eqBool_str h
  «strs» := fun k x t v h => by
    rcases keyIs_shape h with ⟨i, u, rfl, e⟩ | ⟨y, u, rfl, e⟩
    · exact nomatch e
    · injection e with e1 _
      subst e1
      cases v <;> rfl
end L2
namespace L2
open PySem PySem.Spec PyProof.Rows
inductive V where
  | non | bl (b : Bool) | int (i : Int) | str (x : Str) | byt (b : Array UInt8) | flt (b : UInt64) | ref (a : Addr) | ty (n : String)
  deriving DecidableEq
def RelV : V → Value → Prop
  | .non, u => u = Value.none
  | .bl b, u => u = Value.bool b
  | .int i, u => ∃ t, u = Value.int i t
  | .str x, u => ∃ t, u = Value.str x t
  | .byt b, u => ∃ t, u = Value.bytes b t
  | .flt b, u => ∃ t, u = Value.float b t
  | .ref a, u => u = Value.ref a
  | .ty n, u => u = Value.type n
abbrev Vals : List V → List Value → Prop := Paired RelV
theorem Vals.length {xs : List V} {us : List Value} (r : Vals xs us) : xs.length = us.length := Paired.length r
theorem Vals.get : ∀ {xs : List V} {us : List Value} {i : Nat} {x : V}, Vals xs us → xs[i]? = some x → ∃ u, us[i]? = some u ∧ RelV x u
  | _, _, _, _, .nil, e => by simp at e
  | _, _, 0, _, .cons r _, e => by simp at e; subst e; exact ⟨_, rfl, r⟩
  | _, _, i + 1, x, .cons _ t, e => by
    obtain ⟨u, h1, h2⟩ := Vals.get (i := i) (x := x) t (by simpa using e)
    exact ⟨u, by simpa using h1, h2⟩
theorem Vals.append : ∀ {xs ys : List V} {us ws : List Value}, Vals xs us → Vals ys ws → Vals (xs ++ ys) (us ++ ws)
  | _, _, _, _, .nil, s => s
  | _, _, _, _, .cons r t, s => .cons r (Vals.append t s)
theorem Vals.take : ∀ {xs : List V} {us : List Value} (n : Nat), Vals xs us → Vals (xs.take n) (us.take n)
  | _, _, 0, _ => .nil
  | _, _, _ + 1, .nil => .nil
  | _, _, n + 1, .cons r t => .cons r (Vals.take n t)
theorem Vals.drop : ∀ {xs : List V} {us : List Value} (n : Nat), Vals xs us → Vals (xs.drop n) (us.drop n)
  | _, _, 0, r => r
  | _, _, _ + 1, .nil => .nil
  | _, _, n + 1, .cons _ t => Vals.drop n t
def RelO : Option V → Option Value → Prop
  | some v, some u => RelV v u
  | none, none => True
  | _, _ => False
def KV {κ : Type} : List (κ × V) → List (κ × Value) → Prop := Paired fun (p : κ × V) (q : κ × Value) => p.1 = q.1 ∧ RelV p.2 q.2
def kV : Key → V
  | .inl i => .int i
  | .inr x => .str x
inductive HO where
  | lst (xs : List V)
  | tup (xs : List V)
  | dK (kvs : List (Key × V)) | dT (kvs : List (List Key × V))
  | set (S : Int → Bool) (n : Nat)
  | ins (C dx : Addr) (fs : List (Str × V))
  | own (x : Addr)
  | xd (fs : List (Str × V))
  | met (f x : Addr)
  | rng (lo hi : Int)
  | frz (o : Obj) (u : HO)
  | tbl (ps : Array Value)
  | ext (φ : Heap → Prop)
abbrev Hp := Addr → Option HO
def upd (H : Hp) (a : Addr) (o : HO) : Hp := fun b => if b = a then some o else H b
theorem upd_same {H : Hp} {a : Addr} {o : HO} : upd H a o a = some o := by unfold upd; rw [if_pos rfl]
theorem upd_ne {H : Hp} {a b : Addr} {o : HO} (h : b ≠ a) : upd H a o b = H b := by unfold upd; rw [if_neg h]
theorem ne_of_none {H : Hp} {a b : Addr} {o : HO} (h : H a = some o) (h' : H b = none) : a ≠ b := by
  intro e; subst e; rw [h] at h'; cases h'
section
variable (P : Program) (w : World)
def ObjOk (H : Hp) (h : Heap) (a : Addr) : HO → Prop
  | .lst xs => xs.length ≤ sizeLine ∧ ∃ (its : List Value) (n : Nat), Vals xs its ∧ h.get? a = some { cls := .type "list", data := .seq its.toArray n }
  | .tup xs => xs.length ≤ sizeLine ∧ ∃ its : List Value, Vals xs its ∧ IsTup h a its.toArray
  | .dK kvs => kvs.length ≤ sizeLine ∧ (a == sysModules) = false ∧ ∃ vs, KV kvs vs ∧ h.DictOf (mixKind P w) a vs
  | .dT kvs => kvs.length ≤ sizeLine ∧ (a == sysModules) = false ∧ ∃ xs : List (List Key × Addr × Value),
      Paired (fun (p : List Key × V) (q : List Key × Addr × Value) => p.1 = q.1 ∧ H q.2.1 = some (.tup (p.1.map kV)) ∧ RelV p.2 q.2.2) kvs xs ∧
      ∃ o es ep, h.get? a = some o ∧ o.ExactDict ∧ o.data = .dict es ep ∧ es.toList = xs.map (entryOfKey (tupleKind (mixKind P w))) ∧ (xs.map (·.1)).Nodup
  | .set S n => h.SetOf (intKind P w) a S n
  | .ins C dx fs => H dx = some (.own a) ∧ fs.length ≤ 1000 ∧ dx ≠ a ∧ h.get? a = some (PySem.W.instObj C dx) ∧
      ∃ mA, h.Ns1 dx mA ∧ (∀ f, RelO (fs.lookup f) (mA f)) ∧ PySem.Within mA (fs.map (·.1))
  | .own _ => ∃ o, h.get? a = some o
  | .xd fs => ∃ mA, h.Ns1 a mA ∧ ∀ f, RelO (fs.lookup f) (mA f)
  | .rng lo hi => ∃ t u v, h.get? a = some { cls := .type "range", data := .fields #[.int lo t, .int hi u, .int 1 v] }
  | .frz o u => h.get? a = some o ∧ ObjOk H h a u
  | .tbl ps => h.get? a = some { cls := .none, data := .fields ps }
  | .met f x => h.get? a = some (PySem.W.methodObj (.ref f) (.ref x))
  | .ext φ => φ h ∧ (∃ o, h.get? a = some o) ∧ ∀ h1 h2 : Heap, φ h1 → (∀ o, h1.get? a = some o → h2.get? a = some o) → φ h2
def HOk (H : Hp) (h : Heap) : Prop := ∀ a o, H a = some o → ObjOk P w H h a o
end
section
variable {P : Program} {w : World} {H H' : Hp} {h h' : Heap} {a : Addr} {o : HO}
theorem ObjOk.lt (x : ObjOk P w H h a o) : a < h.objs.size := by
  cases o with
  | lst xs => obtain ⟨_, _, _, _, e⟩ := x; exact Heap.lt_size e
  | tup xs => obtain ⟨_, _, _, p⟩ := x; exact p.lt
  | dK kvs => obtain ⟨_, _, _, _, o, _, _, e, _⟩ := x; exact Heap.lt_size e
  | dT kvs => obtain ⟨_, _, _, _, o, _, _, e, _⟩ := x; exact Heap.lt_size e
  | set S n => obtain ⟨o, _, _, _, e, _⟩ := x; exact Heap.lt_size e
  | ins C dx fs => obtain ⟨_, _, _, e, _⟩ := x; exact Heap.lt_size e
  | own y => obtain ⟨_, e⟩ := x; exact Heap.lt_size e
  | xd fs => obtain ⟨_, ⟨_, _, _, e, _⟩, _⟩ := x; exact Heap.lt_size e
  | rng lo hi => obtain ⟨_, _, _, e⟩ := x; exact Heap.lt_size e
  | frz ob u => obtain ⟨e, _⟩ := x; exact Heap.lt_size e
  | tbl ps => exact Heap.lt_size (show h.get? a = some _ from x)
  | met f y => exact Heap.lt_size (show h.get? a = some _ from x)
  | ext φ => obtain ⟨_, ⟨_, e⟩, _⟩ := x; exact Heap.lt_size e
theorem Paired.mapP {α β : Type} {F G : α → β → Prop} : ∀ {l₁ : List α} {l₂ : List β}, Paired F l₁ l₂ → (∀ a b, F a b → G a b) → Paired G l₁ l₂
  | _, _, .nil, _ => .nil
  | _, _, .cons r t, f => .cons (f _ _ r) (Paired.mapP t f)
theorem ObjOk.stay (x : ObjOk P w H h a o) (k : ∀ b u, (b = a ∨ H b = some (.own a)) → h.get? b = some u → h'.get? b = some u)
    (ho : ∀ b, H b = some (.own a) → H' b = some (.own a)) (ht : ∀ b xs, H b = some (.tup xs) → H' b = some (.tup xs)) : ObjOk P w H' h' a o := by
  induction o with
  | lst xs => obtain ⟨z, its, n, r, e⟩ := x; exact ⟨z, its, n, r, k _ _ (.inl rfl) e⟩
  | tup xs => obtain ⟨z, its, r, ob, e, c⟩ := x; exact ⟨z, its, r, ob, k _ _ (.inl rfl) e, c⟩
  | dK kvs => obtain ⟨z, y, vs, r, ob, es, ep, e, c⟩ := x; exact ⟨z, y, vs, r, ob, es, ep, k _ _ (.inl rfl) e, c⟩
  | dT kvs =>
    obtain ⟨z, y, xs, r, ob, es, ep, e, c⟩ := x
    exact ⟨z, y, xs, Paired.mapP r fun p q z => ⟨z.1, ht _ _ z.2.1, z.2.2⟩, ob, es, ep, k _ _ (.inl rfl) e, c⟩
  | set S n => obtain ⟨ob, es, ep, t, e, c⟩ := x; exact ⟨ob, es, ep, t, k _ _ (.inl rfl) e, c⟩
  | ins C dx fs =>
    obtain ⟨d, z, ne, e, mA, ⟨od, es, ep, e2, c⟩, r⟩ := x
    exact ⟨ho _ d, z, ne, k _ _ (.inl rfl) e, mA, ⟨od, es, ep, k _ _ (.inr d) e2, c⟩, r⟩
  | own y => obtain ⟨ob, e⟩ := x; exact ⟨ob, k _ _ (.inl rfl) e⟩
  | xd fs => obtain ⟨mA, ⟨od, es, ep, e, c⟩, r⟩ := x; exact ⟨mA, ⟨od, es, ep, k _ _ (.inl rfl) e, c⟩, r⟩
  | rng lo hi => obtain ⟨t, u, v, e⟩ := x; exact ⟨t, u, v, k _ _ (.inl rfl) e⟩
  | frz ob u ih => obtain ⟨e, q⟩ := x; exact ⟨k _ _ (.inl rfl) e, ih q⟩
  | tbl ps =>
    have e : h.get? a = some { cls := .none, data := .fields ps } := x
    show h'.get? a = some { cls := .none, data := .fields ps }
    exact k a _ (.inl rfl) e
  | met f y =>
    have e : h.get? a = some (PySem.W.methodObj (.ref f) (.ref y)) := x
    show h'.get? a = some (PySem.W.methodObj (.ref f) (.ref y))
    exact k a _ (.inl rfl) e
  | ext φ => obtain ⟨p, ⟨o, e⟩, st⟩ := x; exact ⟨st _ _ p fun o q => k _ _ (.inl rfl) q, ⟨o, k _ _ (.inl rfl) e⟩, st⟩
theorem HOk.lt (x : HOk P w H h) (e : H a = some o) : a < h.objs.size := (x a o e).lt
theorem HOk.fresh (x : HOk P w H h) (e : h.objs.size ≤ a) : H a = none := by
  cases q : H a with
  | none => rfl
  | some u => exact absurd (Nat.lt_of_lt_of_le (x.lt q) e) (Nat.lt_irrefl _)
theorem HOk.kept (x : HOk P w H h) (k : ∀ b u, h.get? b = some u → h'.get? b = some u) : HOk P w H h' := fun a o e =>
  (x a o e).stay (fun b u _ q => k b u q) (fun _ q => q) fun _ _ q => q
theorem HOk.laid (x : HOk P w H h) (k : ∀ b u, h.get? b = some u → h'.get? b = some u) (hp : h.objs.size ≤ a) (new : ObjOk P w (upd H a o) h' a o) : HOk P w (upd H a o) h' := fun b u e => by
  have hn := x.fresh hp
  by_cases hb : b = a
  · subst hb; rw [upd_same] at e; cases e; exact new
  · rw [upd_ne hb] at e
    exact (x b u e).stay (fun c v _ q => k c v q) (fun c q => by rw [upd_ne (ne_of_none q hn)]; exact q) fun c xs q => by rw [upd_ne (ne_of_none q hn)]; exact q
end
def Rd (H : Hp) (a : Addr) (u : HO) : Prop := H a = some u ∨ ∃ o, H a = some (.frz o u)
theorem Rd.ok {P : Program} {w : World} {H : Hp} {h : Heap} {a : Addr} {u : HO} (r : Rd H a u) (x : HOk P w H h) : ObjOk P w H h a u := by
  rcases r with r | ⟨o, r⟩
  · exact x a u r
  · obtain ⟨_, q⟩ := x a _ r
    exact q
def Mut : Option HO → Prop
  | some (.lst _) => True
  | some (.dK _) => True
  | some (.dT _) => True
  | some (.set _ _) => True
  | some (.ins _ _ _) => True
  | some (.ext _) => True
  | _ => False
section
variable {P : Program} {w : World} {H : Hp} {h h' : Heap} {x e : Addr} {o' : HO}
theorem HOk.write (ok : HOk P w H h) (mu : Mut (H x)) (he : e = x ∨ H e = some (.own x)) (k : ∀ b u, b ≠ e → h.get? b = some u → h'.get? b = some u) (heo : ∃ u, h'.get? e = some u)
    (new : ObjOk P w (upd H x o') h' x o') : HOk P w (upd H x o') h' := fun b u q => by
  have nown : ∀ c y, H c = some (.own y) → c ≠ x := fun c y r z => by subst z; rw [r] at mu; exact mu
  have ntup : ∀ c xs, H c = some (.tup xs) → c ≠ x := fun c xs r z => by subst z; rw [r] at mu; exact mu
  by_cases hb : b = x
  · subst hb; rw [upd_same] at q; cases q; exact new
  · rw [upd_ne hb] at q
    by_cases hbe : b = e
    · have q' : H b = some (.own x) := by
        rcases he with z | z
        · exact absurd (hbe.trans z) hb
        · rw [hbe]; exact z
      rw [q] at q'; cases q'
      obtain ⟨v, hv⟩ := heo
      exact ⟨v, by rw [hbe]; exact hv⟩
    · refine (ok b u q).stay (fun c v hc r => k c v ?_ r) (fun c r => by rw [upd_ne (nown c b r)]; exact r) fun c xs r => by rw [upd_ne (ntup c xs r)]; exact r
      rcases hc with rfl | hc
      · exact hbe
      · rintro rfl
        rcases he with z | z
        · exact nown c b hc z
        · rw [hc] at z; cases z; exact hb rfl
end
structure Un (fs ex : List Addr) (H H' : Hp) (h h' : Heap) : Prop where
  keep : ∀ b o, h.get? b = some o → H b = none → b ∉ fs → b ∉ ex → h'.get? b = some o
  slot : ∀ b o, h.get? b = some o → H b = none → b ∈ fs → b ∉ ex → ∃ sl, h'.get? b = some { o with slots := sl }
  free : ∀ b o, h.get? b = some o → H b = none → b ∉ ex → H' b = none
  there : ∀ b o, h.get? b = some o → b ∉ ex → ∃ o', h'.get? b = some o'
  tups : ∀ b xs, H b = some (.tup xs) → H' b = some (.tup xs)
  frzs : ∀ b o u, H b = some (.frz o u) → H' b = some (.frz o u)
  tbls : ∀ b ps, H b = some (.tbl ps) → ∃ more, H' b = some (.tbl (ps ++ more))
section
variable {fs fs' ex ex' : List Addr} {H H1 H2 : Hp} {h h1 h2 h' : Heap} {a x e : Addr} {o : HO}
theorem Un.any (u : Un fs ex H H1 h h1) {b : Addr} {ob : Obj} (q : h.get? b = some ob) (n : H b = none) (hx : b ∉ ex) : ∃ sl, h1.get? b = some { ob with slots := sl } := by
  by_cases hb : b ∈ fs
  · exact u.slot b ob q n hb hx
  · exact ⟨ob.slots, u.keep b ob q n hb hx⟩
theorem Un.kept (k : ∀ b u, h.get? b = some u → h'.get? b = some u) : Un fs ex H H h h' :=
  ⟨fun b ob q _ _ _ => k b ob q, fun b ob q _ _ _ => ⟨ob.slots, k b ob q⟩, fun _ _ _ n _ => n, fun b ob q _ => ⟨ob, k b ob q⟩, fun _ _ q => q, fun _ _ _ q => q, fun _ ps q => ⟨#[], by rw [q]; simp⟩⟩
theorem Un.refl : Un fs ex H H h h := Un.kept fun _ _ q => q
theorem Un.laid (k : ∀ b u, h.get? b = some u → h'.get? b = some u) (hp : h.objs.size ≤ a) (hn : H a = none) : Un fs ex H (upd H a o) h h' where
  keep := fun b u q _ _ _ => k b u q
  slot := fun b u q _ _ _ => ⟨u.slots, k b u q⟩
  free := fun b u q n _ => by rw [upd_ne (Nat.ne_of_lt (Nat.lt_of_lt_of_le (Heap.lt_size q) hp))]; exact n
  there := fun b u q _ => ⟨u, k b u q⟩
  tups := fun b xs q => by rw [upd_ne (ne_of_none q hn)]; exact q
  frzs := fun b u xs q => by rw [upd_ne (ne_of_none q hn)]; exact q
  tbls := fun b ps q => ⟨#[], by rw [upd_ne (ne_of_none q hn), q]; simp⟩
theorem Un.write (mu : Mut (H x)) (he : e = x ∨ H e = some (.own x)) (k : ∀ b u, b ≠ e → h.get? b = some u → h'.get? b = some u) (heo : ∃ u, h'.get? e = some u) : Un fs ex H (upd H x o) h h' := by
  have hx : ∀ b, H b = none → b ≠ x := fun b n z => by subst z; rw [n] at mu; exact mu
  have hb : ∀ b, H b = none → b ≠ e := fun b n z => by
    subst z
    rcases he with r | r
    · exact hx b n r
    · rw [n] at r; cases r
  have hm : ∀ b u, H b = some u → ¬ Mut (some u) → b ≠ x := fun b u q nm z => by subst z; rw [q] at mu; exact nm mu
  refine ⟨fun b u q n _ _ => k b u (hb b n) q, fun b u q n _ _ => ⟨u.slots, k b u (hb b n) q⟩, fun b u q n _ => by rw [upd_ne (hx b n)]; exact n, fun b u q _ => ?_,
    fun b xs q => by rw [upd_ne (hm b _ q fun z => z)]; exact q, fun b u xs q => by rw [upd_ne (hm b _ q fun z => z)]; exact q, fun b ps q => ⟨#[], by rw [upd_ne (hm b _ q fun z => z), q]; simp⟩⟩
  by_cases hbe : b = e
  · subst hbe; exact heo
  · exact ⟨u, k b u hbe q⟩
end
def trk (h : Heap) (H : Hp) : List Addr := (List.range h.objs.size).filter fun a => (H a).isSome
def hidT (h : Heap) (H : Hp) : Heap := PySem.W.hideAll h (trk h H)
theorem hidT_size (h : Heap) (H : Hp) : (hidT h H).objs.size = h.objs.size := PySem.W.hideAll_size _ _
theorem hidT_get {h : Heap} {H : Hp} {b : Addr} {o : Obj} (e : h.get? b = some o) (n : H b = none) : (hidT h H).get? b = some o :=
  PySem.W.hideAll_get _ e fun hm => by
    have q : (H b).isSome = true := (List.mem_filter.mp hm).2
    rw [n] at q; simp at q
theorem of_hidT {h : Heap} {H : Hp} {b : Addr} {o : Obj} (e : (hidT h H).get? b = some o) : h.get? b = some o ∧ H b = none := by
  have e' : h.get? b = some o := PySem.W.of_hideAll (trk h H) e
  refine ⟨e', ?_⟩
  cases q : H b with
  | none => rfl
  | some x =>
    have hm : b ∈ trk h H := List.mem_filter.mpr ⟨List.mem_range.mpr (Heap.lt_size e'), by simp [q]⟩
    have z : (hidT h H).get? b = none := PySem.W.hideAll_none (trk h H) hm
    rw [z] at e; cases e
def allNews (g h : Heap) (L : Addr) : List (Addr × Obj) := (List.range h.objs.size).filterMap fun a => if a = L ∨ (g.get? a).isSome = true then none else (h.get? a).map fun o => (a, o)
def rest (g h : Heap) (L d : Addr) : List (Addr × Obj) := (allNews g h L).filter fun p => decide (p.1 ≠ d)
end L2
namespace L2
open PySem PySem.Spec PyProof.Rows
structure Mod (K : PySem.W.Frag) (mg : Str → Option Value) (base : Heap) : Prop where
  kin : K.In base
  glob : base.Ns mainGlobals mg
  blt : ∃ mb, base.Ns builtinsNs mb ∧ ∀ x : Str, x ≠ "__name__" → mb x = bootBuiltins x
  nolimit : base.NoLimit
structure Cx where
  prog : Program
  w : World
  K : PySem.W.Frag
  mg : Str → Option Value
  base : Heap
  A : Around
  N : List Str
  s₀ : Shared
  H₀ : Hp
  env : Env
  outer : List Env
  stack : List Env
  ex : List Addr
  fn : Str → Bool
  calm : Bool
  pn : List (Addr × Obj)
  xe : Value → Shared → Prop
def frs (l : List Env) : List Addr := l.filterMap (·.frame)
abbrev Cx.fs (X : Cx) : List Addr := frs X.outer
def Vis (sc : Scope) (x : Str) : Prop := sc.names.lookup x = some .local ∨ sc.names.lookup x = some .cell ∨ sc.names.lookup x = some .free
def Loc (sc : Scope) (x : Str) : Prop := sc.names.lookup x = some .local ∨ sc.names.lookup x = some .cell
def Look (env : Env) (h : Heap) (m : Str → Option Value) (x : Str) (u : Value) : Prop :=
  (env.kindOf x = some .local ∧ m x = some u) ∨ ((env.kindOf x = some .cell ∨ env.kindOf x = some .free) ∧ ∃ c, env.cells.lookup x = some c ∧ h.IsCell c (some u))
structure Cx.Ok (X : Cx) : Prop where
  mod : Mod X.K X.mg X.base
  kind : X.env.scope.kind = .function
  glob : X.env.globals = mainGlobals
  blt : X.env.builtins = builtinsNs
  above : X.s₀.heap.objs.size ≤ X.env.locals
  inj : ∀ x y c, X.env.cells.lookup x = some c → X.env.cells.lookup y = some c → x = y
  has : ∀ x, (X.env.kindOf x = some .cell ∨ X.env.kindOf x = some .free) → ∃ c, X.env.cells.lookup x = some c
  cab : ∀ x c, X.fn x = true → X.env.cells.lookup x = some c → X.s₀.heap.objs.size ≤ c
  hd : X.calm = true → X.A.handled = none
  frames : X.A.frames = some X.stack
  stk : X.stack = X.outer ∨ (X.stack = X.env :: X.outer ∧ X.env.frame = some X.env.locals)
  exf : ∀ b ∈ X.ex, b ≠ X.env.locals ∧ ∀ x c, X.env.cells.lookup x = some c → c ≠ b
  bs : ∀ b o, X.base.get? b = some o → X.s₀.heap.get? b = some o ∧ X.H₀ b = none
  bsz : X.base.objs.size ≤ X.s₀.heap.objs.size
  noex : ∀ b o, X.base.get? b = some o → b ∉ X.ex
  exfs : ∀ b ∈ X.ex, b ∉ X.fs
  funs : X.s₀.heap.FunFrames X.base X.outer
  frf : ∀ b ∈ X.fs, X.H₀ b = none
structure Inv (X : Cx) (pins : List (Addr × Obj)) (σ : List (Option V)) (H : Hp) (s : Shared) : Prop where
  ok : X.Ok
  os : s.os = X.s₀.os
  bare : AllBare s.gens
  base : Un X.fs X.ex X.H₀ H X.s₀.heap s.heap
  loc : ∃ m, s.heap.Ns X.env.locals m ∧ ∀ (i : Nat) (x : Str) (v : V), X.N[i]? = some x → σ[i]? = some (some v) → Vis X.env.scope x → ∃ u, RelV v u ∧ Look X.env s.heap m x u
  cell : ∀ x c, X.env.cells.lookup x = some c → ∃ v, s.heap.IsCell c v
  free : H X.env.locals = none
  freeC : ∀ x c, X.env.cells.lookup x = some c → H c = none
  pin : ∀ p ∈ X.pn ++ pins, s.heap.get? p.1 = some p.2 ∧ H p.1 = none ∧ p.1 ≠ X.env.locals ∧ p.1 ∉ X.fs ∧ ∀ v, p.2.data ≠ .cell v
  hok : HOk X.prog X.w H s.heap
  len : σ.length = X.N.length
section
variable {X : Cx} {pins : List (Addr × Obj)} {σ : List (Option V)} {H H' : Hp} {s : Shared} {h' : Heap}
theorem Cx.Ok.nofr (ok : X.Ok) {b : Addr} {o : Obj} (e : X.base.get? b = some o) : b ∉ X.fs := fun hb => by
  have := (ok.funs.mem hb).1
  rw [e] at this; cases this
theorem Inv.bs (I : Inv X pins σ H s) : ∀ b o, X.base.get? b = some o → s.heap.get? b = some o ∧ H b = none := fun b o e =>
  ⟨I.base.keep b o (I.ok.bs b o e).1 (I.ok.bs b o e).2 (I.ok.nofr e) (I.ok.noex b o e), I.base.free b o (I.ok.bs b o e).1 (I.ok.bs b o e).2 (I.ok.noex b o e)⟩
theorem Inv.bk (I : Inv X pins σ H s) : ∀ b o, X.base.get? b = some o → s.heap.get? b = some o := fun b o e => (I.bs b o e).1
theorem Inv.mod (I : Inv X pins σ H s) : Mod X.K X.mg X.base := I.ok.mod
theorem Inv.kIn (I : Inv X pins σ H s) : X.K.In s.heap := I.ok.mod.kin.keeps I.bk
theorem Inv.lt (I : Inv X pins σ H s) : X.env.locals < s.heap.objs.size := let ⟨_, hn, _⟩ := I.loc; hn.lt
theorem Inv.sz (I : Inv X pins σ H s) : X.s₀.heap.objs.size ≤ s.heap.objs.size := Nat.le_trans I.ok.above (Nat.le_of_lt I.lt)
theorem Inv.nofs (I : Inv X pins σ H s) {a : Addr} (h : s.heap.objs.size ≤ a) : a ∉ X.fs := fun hb => by
  obtain ⟨_, o, ho, _⟩ := I.ok.funs.mem hb
  exact absurd (Nat.lt_of_lt_of_le (Heap.lt_size ho) (Nat.le_trans I.sz h)) (Nat.lt_irrefl _)
theorem Inv.cne (I : Inv X pins σ H s) : ∀ x c, X.env.cells.lookup x = some c → c ≠ X.env.locals := fun x c e z => by
  obtain ⟨v, o, ho, hd⟩ := I.cell x c e
  obtain ⟨m, ⟨o', es, ep, ho', hd', _⟩, _⟩ := I.loc
  rw [z, ho'] at ho; cases ho; rw [hd'] at hd; cases hd
theorem Inv.funs (I : Inv X pins σ H s) : s.heap.FunFrames X.base X.outer := by
  have all : ∀ (l : List Env), (∀ b ∈ frs l, b ∈ X.fs) → X.s₀.heap.FunFrames X.base l → s.heap.FunFrames X.base l := by
    intro l
    induction l with
    | nil => intro _ _; trivial
    | cons env r ih =>
      intro hs hl
      obtain ⟨hk, ⟨L, o, hf, hn, ho, hd⟩, hr⟩ := hl
      have hL : L ∈ X.fs := hs L (by unfold frs; rw [List.filterMap_cons, hf]; exact List.mem_cons_self)
      obtain ⟨sl, e⟩ := I.base.slot L o ho (I.ok.frf L hL) hL fun z => I.ok.exfs L z hL
      exact ⟨hk, ⟨L, _, hf, hn, e, hd⟩, ih (fun b hb => hs b (by unfold frs; rw [List.filterMap_cons, hf]; exact List.mem_cons_of_mem _ hb)) hr⟩
  exact all X.outer (fun _ hb => hb) I.ok.funs
theorem Inv.stack (I : Inv X pins σ H s) : s.heap.FunFrames X.base X.stack := by
  rcases I.ok.stk with e | ⟨e, hf⟩
  · rw [e]; exact I.funs
  · rw [e]
    obtain ⟨m, hn, _⟩ := I.loc
    refine .cons (by rw [I.ok.kind]; decide) hf hn ?_ I.funs
    exact Heap.get?_none_of_le (Nat.le_trans I.ok.bsz I.ok.above)
theorem Inv.stkSub (I : Inv X pins σ H s) : ∀ b ∈ frs X.stack, b ∈ X.env.locals :: X.fs := fun b hb => by
  rcases I.ok.stk with e | ⟨e, hf⟩
  · rw [e] at hb; exact List.mem_cons_of_mem _ hb
  · rw [e] at hb
    unfold frs at hb
    rw [List.filterMap_cons, hf] at hb
    exact hb
theorem Inv.stkFree (I : Inv X pins σ H s) : ∀ b ∈ frs X.stack, H b = none := fun b hb => by
  rcases List.mem_cons.mp (I.stkSub b hb) with e | hb
  · rw [e]; exact I.free
  · obtain ⟨_, o, ho, _⟩ := I.ok.funs.mem hb
    exact I.base.free b o ho (I.ok.frf b hb) fun z => I.ok.exfs b z hb
theorem Inv.step {g' : Array GenState} {t' : Nat} {d' : Drawn} {ch : List Addr} (I : Inv X pins σ H s)
    (hch : ∀ b ∈ ch, (b ∈ X.ex ∨ X.s₀.heap.objs.size ≤ b) ∧ b ≠ X.env.locals ∧ (∀ x c, X.env.cells.lookup x = some c → c ≠ b) ∧ ∀ p ∈ X.pn ++ pins, p.1 ≠ b)
    (keep : ∀ b o, b ≠ X.env.locals → b ∉ X.fs → b ∉ ch → s.heap.get? b = some o → H b = none → h'.get? b = some o)
    (slot : ∀ b o, b ≠ X.env.locals → b ∈ X.fs → b ∉ ch → s.heap.get? b = some o → H b = none → ∃ sl, h'.get? b = some { o with slots := sl }) (free : ∀ b o, b ∉ ch → s.heap.get? b = some o → H b = none → H' b = none)
    (there : ∀ b o, b ∉ ch → s.heap.get? b = some o → ∃ o', h'.get? b = some o')
    (tups : ∀ b xs, H b = some (.tup xs) → H' b = some (.tup xs)) (frzs : ∀ b o u, H b = some (.frz o u) → H' b = some (.frz o u)) (tbls : ∀ b ps, H b = some (.tbl ps) → ∃ more, H' b = some (.tbl (ps ++ more)))
    (ns : ∀ m, s.heap.Ns X.env.locals m → h'.Ns X.env.locals m) (hok : HOk X.prog X.w H' h') (hg : AllBare g') :
    Inv X pins σ H' { s with heap := h', gens := g', drawn := d', toks := t' } := by
  have neL : ∀ b o, X.s₀.heap.get? b = some o → b ≠ X.env.locals := fun b o e => Nat.ne_of_lt (Nat.lt_of_lt_of_le (Heap.lt_size e) I.ok.above)
  have neC : ∀ b o, X.s₀.heap.get? b = some o → b ∉ X.ex → b ∉ ch := fun b o e hx hb => by
    rcases (hch b hb).1 with z | z
    · exact hx z
    · exact absurd (Nat.lt_of_lt_of_le (Heap.lt_size e) z) (Nat.lt_irrefl _)
  have cellK : ∀ x c, X.env.cells.lookup x = some c → ∀ v, s.heap.IsCell c v → h'.IsCell c v := fun x c e v ⟨o, ho, hd⟩ => by
    have nch : c ∉ ch := fun z => (hch c z).2.2.1 x c e rfl
    by_cases hc : c ∈ X.fs
    · obtain ⟨sl, q⟩ := slot c o (I.cne x c e) hc nch ho (I.freeC x c e)
      exact ⟨_, q, hd⟩
    · exact ⟨o, keep c o (I.cne x c e) hc nch ho (I.freeC x c e), hd⟩
  refine ⟨I.ok, I.os, hg, ⟨fun b o e n hb hx => ?_, fun b o e n hb hx => ?_, fun b o e n hx => ?_, fun b o e hx => ?_, fun b xs e => tups b xs (I.base.tups b xs e), fun b o xs e => frzs b o xs (I.base.frzs b o xs e), fun b ps e => ?_⟩, ?_, fun x c e => ?_, ?_, fun x c e => ?_, fun p hp => ?_, hok, I.len⟩
  · exact keep b o (neL b o e) hb (neC b o e hx) (I.base.keep b o e n hb hx) (I.base.free b o e n hx)
  · obtain ⟨sl, e1⟩ := I.base.slot b o e n hb hx
    obtain ⟨sl', e2⟩ := slot b _ (neL b o e) hb (neC b o e hx) e1 (I.base.free b o e n hx)
    exact ⟨sl', e2⟩
  · obtain ⟨o', e1⟩ := I.base.there b o e hx
    exact free b o' (neC b o e hx) e1 (I.base.free b o e n hx)
  · obtain ⟨o', e1⟩ := I.base.there b o e hx
    exact there b o' (neC b o e hx) e1
  · obtain ⟨m1, e1⟩ := I.base.tbls b ps e
    obtain ⟨m2, e2⟩ := tbls b _ e1
    exact ⟨m1 ++ m2, by rw [e2, Array.append_assoc]⟩
  · obtain ⟨m, hn, hl⟩ := I.loc
    refine ⟨m, ns m hn, fun i x v e1 e2 e3 => ?_⟩
    obtain ⟨u, r, l⟩ := hl i x v e1 e2 e3
    refine ⟨u, r, ?_⟩
    rcases l with l | ⟨k, c, e, z⟩
    · exact .inl l
    · exact .inr ⟨k, c, e, cellK x c e _ z⟩
  · obtain ⟨v, z⟩ := I.cell x c e
    exact ⟨v, cellK x c e v z⟩
  · obtain ⟨m, ⟨o, _, _, ho, _⟩, _⟩ := I.loc
    exact free _ o (fun z => (hch _ z).2.1 rfl) ho I.free
  · obtain ⟨v, o, ho, hd⟩ := I.cell x c e
    exact free c o (fun z => (hch c z).2.2.1 x c e rfl) ho (I.freeC x c e)
  · obtain ⟨e, n, ne, nf, d⟩ := I.pin p hp
    have nch : p.1 ∉ ch := fun z => (hch p.1 z).2.2.2 p hp rfl
    exact ⟨keep p.1 p.2 ne nf nch e n, free p.1 p.2 nch e n, ne, nf, d⟩
theorem Inv.un {t' : Nat} (I : Inv X pins σ H s) (u : Un X.fs [] H H' s.heap h') (hok : HOk X.prog X.w H' h') : Inv X pins σ H' { s with heap := h', toks := t' } := by
  obtain ⟨m, ⟨o, es, ep, ho, r⟩, _⟩ := id I.loc
  obtain ⟨sl, hL⟩ := u.any ho I.free (by simp)
  exact I.step (g' := s.gens) (d' := s.drawn) (ch := []) (fun _ z => nomatch z) (fun b o _ hb _ e n => u.keep b o e n hb (by simp)) (fun b o _ hb _ e n => u.slot b o e n hb (by simp)) (fun b o _ e n => u.free b o e n (by simp)) (fun b o _ e => u.there b o e (by simp)) u.tups u.frzs u.tbls (fun m' hm => by
    obtain ⟨o', es', ep', ho', r'⟩ := hm
    rw [ho] at ho'; cases ho'
    exact ⟨_, es', ep', hL, r'⟩) hok I.bare
theorem Inv.call {g' : Array GenState} {t' : Nat} {d' : Drawn} {ch : List Addr} (I : Inv X pins σ H s) (u : Un (frs X.stack) ch H H' s.heap h') (hok : HOk X.prog X.w H' h') (hg : AllBare g')
    (hch : ∀ b ∈ ch, (b ∈ X.ex ∨ X.s₀.heap.objs.size ≤ b) ∧ b ≠ X.env.locals ∧ (∀ x c, X.env.cells.lookup x = some c → c ≠ b) ∧ ∀ p ∈ X.pn ++ pins, p.1 ≠ b) :
    Inv X pins σ H' { s with heap := h', gens := g', drawn := d', toks := t' } := by
  obtain ⟨m, ⟨o, es, ep, ho, r⟩, _⟩ := id I.loc
  obtain ⟨sl, hL⟩ := u.any ho I.free fun z => (hch _ z).2.1 rfl
  exact I.step (ch := ch) hch (fun b o hL hb hc e n => u.keep b o e n (fun z => (List.mem_cons.mp (I.stkSub b z)).elim hL hb) hc) (fun b o _ _ hc e n => u.any e n hc) (fun b o hc e n => u.free b o e n hc) (fun b o hc e => u.there b o e hc) u.tups u.frzs u.tbls (fun m' hm => by
    obtain ⟨o', es', ep', ho', r'⟩ := hm
    rw [ho] at ho'; cases ho'
    exact ⟨_, es', ep', hL, r'⟩) hok hg
theorem Inv.turned {t' : Nat} {it : Addr} (I : Inv X pins σ H s) (k : ∀ b o, b ≠ it → s.heap.get? b = some o → h'.get? b = some o) (hn : H it = none) (hL : it ≠ X.env.locals)
    (h1 : it ∈ X.ex ∨ X.s₀.heap.objs.size ≤ it) (h2 : ∀ x c, X.env.cells.lookup x = some c → c ≠ it) (h3 : ∀ p ∈ X.pn ++ pins, p.1 ≠ it) : Inv X pins σ H { s with heap := h', toks := t' } := by
  have nit : ∀ b u, H b = some u → b ≠ it := fun b u e z => by rw [z, hn] at e; cases e
  refine I.step (g' := s.gens) (d' := s.drawn) (ch := [it]) (fun b hb => ?_) (fun b o _ _ hc e _ => k b o (fun z => hc (by simp [z])) e) (fun b o _ _ hc e _ => ⟨o.slots, k b o (fun z => hc (by simp [z])) e⟩) (fun _ _ _ _ n => n)
    (fun b o hc e => ⟨o, k b o (fun z => hc (by simp [z])) e⟩) (fun _ _ e => e) (fun _ _ _ e => e) (fun b ps e => ⟨#[], by rw [e]; simp⟩) (fun m hm => ?_) (fun b u e => ?_) I.bare
  · have e : b = it := by simpa using hb
    subst e
    exact ⟨h1, hL, h2, h3⟩
  · obtain ⟨o, es, ep, ho, r⟩ := hm
    exact ⟨o, es, ep, k _ o (Ne.symm hL) ho, r⟩
  · refine (I.hok b u e).stay (fun c v hc q => k c v ?_ q) (fun _ q => q) fun _ _ q => q
    rcases hc with z | z
    · rw [z]; exact nit b u e
    · exact nit c _ z
theorem Inv.tok (I : Inv X pins σ H s) (t : Nat) : Inv X pins σ H { s with toks := t } := I.un (h' := s.heap) (t' := t) Un.refl I.hok
theorem Inv.kept {t' : Nat} (I : Inv X pins σ H s) (k : ∀ b u, s.heap.get? b = some u → h'.get? b = some u) : Inv X pins σ H { s with heap := h', toks := t' } := I.un (Un.kept k) (I.hok.kept k)
theorem Inv.laid {a : Addr} {o : HO} {t' : Nat} (I : Inv X pins σ H s) (k : ∀ b u, s.heap.get? b = some u → h'.get? b = some u) (hp : s.heap.objs.size ≤ a) (new : ObjOk X.prog X.w (upd H a o) h' a o) :
    Inv X pins σ (upd H a o) { s with heap := h', toks := t' } := I.un (Un.laid k hp (I.hok.fresh hp)) (I.hok.laid k hp new)
theorem Inv.write {x e : Addr} {o : HO} {t' : Nat} (I : Inv X pins σ H s) (mu : Mut (H x)) (he : e = x ∨ H e = some (.own x)) (k : ∀ b u, b ≠ e → s.heap.get? b = some u → h'.get? b = some u) (heo : ∃ u, h'.get? e = some u)
    (new : ObjOk X.prog X.w (upd H x o) h' x o) : Inv X pins σ (upd H x o) { s with heap := h', toks := t' } := I.un (Un.write mu he k heo) (I.hok.write mu he k heo new)
theorem Inv.weak {σ' : List (Option V)} (I : Inv X pins σ H s) (hl : σ'.length = σ.length) (w : ∀ (i : Nat) v, σ'[i]? = some (some v) → σ[i]? = some (some v)) : Inv X pins σ' H s :=
  ⟨I.ok, I.os, I.bare, I.base, let ⟨m, hn, hl'⟩ := I.loc; ⟨m, hn, fun i x v e1 e2 e3 => hl' i x v e1 (w i v e2) e3⟩, I.cell, I.free, I.freeC, I.pin, I.hok, hl.trans I.len⟩
theorem Inv.pins_of {pins' : List (Addr × Obj)} (I : Inv X pins σ H s) (h : ∀ p ∈ pins', s.heap.get? p.1 = some p.2 ∧ H p.1 = none ∧ p.1 ≠ X.env.locals ∧ p.1 ∉ X.fs ∧ ∀ v, p.2.data ≠ .cell v) : Inv X pins' σ H s :=
  ⟨I.ok, I.os, I.bare, I.base, I.loc, I.cell, I.free, I.freeC, fun p hp => (List.mem_append.mp hp).elim (fun z => I.pin p (List.mem_append_left _ z)) (h p), I.hok, I.len⟩
theorem nodup_ix {N : List Str} (hN : N.Nodup) {i j : Nat} {x : Str} (a : N[i]? = some x) (b : N[j]? = some x) : i = j := by
  obtain ⟨h1, e1⟩ := List.getElem?_eq_some_iff.mp a
  obtain ⟨h2, e2⟩ := List.getElem?_eq_some_iff.mp b
  exact (List.getElem_inj hN).mp (e1.trans e2.symm)
theorem store_ok2 {M : Model} {A : Around} {E : Value → Shared → Prop} {i : Nat} {x : Str} {v : V} {u : Value} {Q : Unit → Shared → Prop} (I : Inv X pins σ H s) (hN : X.N.Nodup) (hi : X.N[i]? = some x) (hx : Loc X.env.scope x) (r : RelV v u)
    (h : ∀ s', Inv X pins (σ.set i (some v)) H s' → (∃ a, Heap.SameBut a s.heap s'.heap ∧ (a = X.env.locals ∨ X.env.cells.lookup x = some a)) → Q () s') (hf : X.fn x = true ∨ X.env.scope.names.lookup x = some .local := by first | exact .inl rfl | exact .inr rfl | assumption) : wpAny M A (storeName X.env x u) Q E s := by
  obtain ⟨m, hn, hl⟩ := id I.loc
  have hcls : (X.env.scope.kind == .class || (X.env.scope.kind == .module && X.env.locals != X.env.globals)) = false := by rw [I.ok.kind]; rfl
  have hiσ : i < σ.length := by rw [I.len]; exact (List.getElem?_eq_some_iff.mp hi).1
  have cne := I.cne
  have tracked : ∀ {a : Addr} {h' : Heap}, (∃ o, s.heap.get? a = some o ∧ H a = none) → Heap.SameBut a s.heap h' → HOk X.prog X.w H h' := fun {a h'} ha hs b ob e => by
    obtain ⟨_, _, hfree⟩ := ha
    refine (I.hok b ob e).stay (fun c w' hc q => (hs.2 c ?_).trans q) (fun _ q => q) fun _ _ q => q
    rintro rfl
    rcases hc with rfl | hc
    · rw [hfree] at e; cases e
    · rw [hfree] at hc; cases hc
  rcases hx with hk | hk
  · refine wpAny_storeName_local hk hn (fun h' hn' hs => ?_) hcls
    obtain ⟨oL, _, _, hoL, _⟩ := id hn
    refine h _ ⟨I.ok, I.os, I.bare, ⟨fun b o e n hb hx => ?_, fun b o e n hb hx => ?_, I.base.free, fun b o e hx => ?_, I.base.tups, I.base.frzs, I.base.tbls⟩, ⟨_, hn', fun j y v' e1 e2 e3 => ?_⟩, fun y c e => ?_, I.free, I.freeC, fun p hp => ?_, tracked ⟨oL, hoL, I.free⟩ hs, by simpa using I.len⟩ ⟨_, hs, .inl rfl⟩
    · exact (hs.2 b (Nat.ne_of_lt (Nat.lt_of_lt_of_le (Heap.lt_size e) I.ok.above))).trans (I.base.keep b o e n hb hx)
    · obtain ⟨sl, e1⟩ := I.base.slot b o e n hb hx
      exact ⟨sl, (hs.2 b (Nat.ne_of_lt (Nat.lt_of_lt_of_le (Heap.lt_size e) I.ok.above))).trans e1⟩
    · obtain ⟨o', e1⟩ := I.base.there b o e hx
      exact ⟨o', (hs.2 b (Nat.ne_of_lt (Nat.lt_of_lt_of_le (Heap.lt_size e) I.ok.above))).trans e1⟩
    · by_cases hj : j = i
      · subst hj
        rw [hi] at e1; cases e1
        rw [List.getElem?_set_self hiσ] at e2
        cases e2
        exact ⟨u, r, .inl ⟨hk, by simp⟩⟩
      · rw [List.getElem?_set_ne (Ne.symm hj)] at e2
        obtain ⟨u', r', q⟩ := hl j y v' e1 e2 e3
        refine ⟨u', r', ?_⟩
        rcases q with ⟨k, e⟩ | ⟨k, c, e, z⟩
        · refine .inl ⟨k, ?_⟩
          have : y ≠ x := fun e => hj (nodup_ix hN e1 (e ▸ hi))
          simp [this, e]
        · exact .inr ⟨k, c, e, z.sameBut hs (cne y c e)⟩
    · obtain ⟨w', z⟩ := I.cell y c e
      exact ⟨w', z.sameBut hs (cne y c e)⟩
    · obtain ⟨e, n, ne, nf, d⟩ := I.pin p hp
      exact ⟨(hs.2 p.1 ne).trans e, n, ne, nf, d⟩
  · have hfn : X.fn x = true := by
      rcases hf with z | z
      · exact z
      · rw [z] at hk; cases hk
    obtain ⟨c, hc⟩ := I.ok.has x (.inl hk)
    obtain ⟨w', z⟩ := I.cell x c hc
    refine wpAny_storeName_cell I.ok.kind hk hc z (fun h' hc' hs => ?_)
    obtain ⟨oc, hoc, hocd⟩ := id z
    refine h { s with heap := h' } ⟨I.ok, I.os, I.bare, ⟨fun b o e n hb hx => ?_, fun b o e n hb hx => ?_, I.base.free, fun b o e hx => ?_, I.base.tups, I.base.frzs, I.base.tbls⟩, ⟨m, hn.sameBut hs (Ne.symm (cne x c hc)), fun j y v' e1 e2 e3 => ?_⟩, fun y c' e => ?_, I.free, I.freeC, fun p hp => ?_, tracked ⟨oc, hoc, I.freeC x c hc⟩ hs, by simpa using I.len⟩ ⟨c, hs, .inr hc⟩
    · exact (hs.2 b (Nat.ne_of_lt (Nat.lt_of_lt_of_le (Heap.lt_size e) (I.ok.cab x c hfn hc)))).trans (I.base.keep b o e n hb hx)
    · obtain ⟨sl, e1⟩ := I.base.slot b o e n hb hx
      exact ⟨sl, (hs.2 b (Nat.ne_of_lt (Nat.lt_of_lt_of_le (Heap.lt_size e) (I.ok.cab x c hfn hc)))).trans e1⟩
    · obtain ⟨o', e1⟩ := I.base.there b o e hx
      exact ⟨o', (hs.2 b (Nat.ne_of_lt (Nat.lt_of_lt_of_le (Heap.lt_size e) (I.ok.cab x c hfn hc)))).trans e1⟩
    · by_cases hj : j = i
      · subst hj
        rw [hi] at e1; cases e1
        rw [List.getElem?_set_self hiσ] at e2
        cases e2
        exact ⟨u, r, .inr ⟨.inl hk, c, hc, hc'⟩⟩
      · rw [List.getElem?_set_ne (Ne.symm hj)] at e2
        obtain ⟨u', r', q⟩ := hl j y v' e1 e2 e3
        refine ⟨u', r', ?_⟩
        rcases q with q | ⟨k, c', e, z'⟩
        · exact .inl q
        · refine .inr ⟨k, c', e, z'.sameBut hs ?_⟩
          rintro rfl
          exact hj (nodup_ix hN e1 (I.ok.inj _ _ _ e hc ▸ hi))
    · by_cases hcc : c' = c
      · subst hcc; exact ⟨_, hc'⟩
      · obtain ⟨w2, z2⟩ := I.cell y c' e
        exact ⟨w2, z2.sameBut hs hcc⟩
    · obtain ⟨e, n, ne, nf, d⟩ := I.pin p hp
      refine ⟨(hs.2 p.1 ?_).trans e, n, ne, nf, d⟩
      intro q
      rw [q, hoc] at e
      have q' : oc = p.2 := Option.some.inj e
      exact d w' (by rw [← q']; exact hocd)
theorem store_ok {M : Model} {A : Around} {E : Value → Shared → Prop} {i : Nat} {x : Str} {v : V} {u : Value} {Q : Unit → Shared → Prop} (I : Inv X pins σ H s) (hN : X.N.Nodup) (hi : X.N[i]? = some x) (hx : Loc X.env.scope x) (r : RelV v u)
    (h : ∀ s', Inv X pins (σ.set i (some v)) H s' → Q () s') (hf : X.fn x = true ∨ X.env.scope.names.lookup x = some .local := by first | exact .inl rfl | exact .inr rfl | assumption) : wpAny M A (storeName X.env x u) Q E s :=
  store_ok2 I hN hi hx r (fun s' I' _ => h s' I') hf
theorem Inv.call' {s' : Shared} {ch : List Addr} (I : Inv X pins σ H s) (ho : s'.os = s.os) (u : Un (frs X.stack) ch H H' s.heap s'.heap) (hok : HOk X.prog X.w H' s'.heap) (hg : AllBare s'.gens)
    (hch : ∀ b ∈ ch, (b ∈ X.ex ∨ X.s₀.heap.objs.size ≤ b) ∧ b ≠ X.env.locals ∧ (∀ x c, X.env.cells.lookup x = some c → c ≠ b) ∧ ∀ p ∈ X.pn ++ pins, p.1 ≠ b) : Inv X pins σ H' s' := by
  obtain ⟨h', g', d', t', o'⟩ := s'
  have e : o' = s.os := ho
  subst e
  exact I.call (g' := g') (t' := t') (d' := d') u hok hg hch
end
abbrev XK := Value → Option Addr → Hp → Prop
abbrev St := List (Option V)
abbrev VK := V → Hp → Prop
abbrev TE := St → Hp → VK → Prop
abbrev TT := St → Hp → (Bool → Hp → Prop) → Prop
abbrev TA := St → Hp → (List V → Hp → Prop) → Prop
structure Ends where
  nx : St → Hp → Prop
  rt : VK
  bk : St → Hp → Prop := fun _ _ => False
  ct : St → Hp → Prop := fun _ _ => False
abbrev TS := Ends → St → Hp → Prop
def EP (X : Cx) (pins : List (Addr × Obj)) (σ : St) (Q : VK) (u : Value) (s' : Shared) : Prop := ∃ v H', Inv X pins σ H' s' ∧ RelV v u ∧ Q v H'
def TP (X : Cx) (pins : List (Addr × Obj)) (σ : St) (Q : Bool → Hp → Prop) (b : Bool) (s' : Shared) : Prop := ∃ H', Inv X pins σ H' s' ∧ Q b H'
def AP (X : Cx) (pins : List (Addr × Obj)) (σ : St) (Q : List V → Hp → Prop) (us : List Value) (s' : Shared) : Prop := ∃ vs H', Inv X pins σ H' s' ∧ Vals vs us ∧ Q vs H'
def SP (X : Cx) (pins : List (Addr × Obj)) (D : Ends) (f : Flow) (s' : Shared) : Prop :=
  match f with
  | .next => ∃ σ' H', Inv X pins σ' H' s' ∧ D.nx σ' H'
  | .brk => ∃ σ' H', Inv X pins σ' H' s' ∧ D.bk σ' H'
  | .cont => ∃ σ' H', Inv X pins σ' H' s' ∧ D.ct σ' H'
  | .ret u => ∃ v σ' H', Inv X pins σ' H' s' ∧ RelV v u ∧ D.rt v H'
def PE (X : Cx) (e : Expr) (t : TE) : Prop :=
  ∀ (pins : List (Addr × Obj)) (s : Shared) (σ : St) (H : Hp) (Q : VK), Inv X pins σ H s → t σ H Q → wpAny (model X.prog X.w) X.A (eval e X.env) (EP X pins σ Q) X.xe s
def PT (X : Cx) (e : Expr) (t : TT) : Prop :=
  ∀ (pins : List (Addr × Obj)) (s : Shared) (σ : St) (H : Hp) (Q : Bool → Hp → Prop), Inv X pins σ H s → t σ H Q → wpAny (model X.prog X.w) X.A (isTrue e X.env (eval e X.env)) (TP X pins σ Q) X.xe s
def PW (X : Cx) (e : Expr) (t : TT) : Prop :=
  ∀ (whole : Sem Value) (pins : List (Addr × Obj)) (s : Shared) (σ : St) (H : Hp) (Q : Bool → Hp → Prop), Inv X pins σ H s → t σ H Q → wpAny (model X.prog X.w) X.A (isTrue e X.env whole) (TP X pins σ Q) X.xe s
theorem PW.pt {X : Cx} {e : Expr} {t : TT} (h : PW X e t) : PT X e t := h _
def PA (X : Cx) (es : List Expr) (t : TA) : Prop :=
  ∀ (pos : Pos) (pins : List (Addr × Obj)) (s : Shared) (σ : St) (H : Hp) (Q : List V → Hp → Prop), Inv X pins σ H s → t σ H Q → wpAny (model X.prog X.w) X.A (spliced (backTo pos (starEach es X.env))) (AP X pins σ Q) X.xe s
def PS (X : Cx) (st : Stmt) (t : TS) : Prop :=
  ∀ (pins : List (Addr × Obj)) (s : Shared) (σ : St) (H : Hp) (D : Ends), Inv X pins σ H s → t D σ H → wpAny (model X.prog X.w) X.A (exec st X.env) (SP X pins D) X.xe s
def PSs (X : Cx) (st : List Stmt) (t : TS) : Prop :=
  ∀ (pins : List (Addr × Obj)) (s : Shared) (σ : St) (H : Hp) (D : Ends), Inv X pins σ H s → t D σ H → wpAny (model X.prog X.w) X.A (execs st X.env) (SP X pins D) X.xe s
theorem thn {α : Type} {t : Sem α} {Q Q' : α → Shared → Prop} {M : Model} {A : Around} {E : Value → Shared → Prop} {s : Shared} (h : wpAny M A t Q E s) (hQ : ∀ a s, Q a s → Q' a s) : wpAny M A t Q' E s := wpAny_mono h hQ fun _ _ x => x
end L2
namespace L2
open PySem PySem.Spec PyProof.Rows
section
variable {X : Cx}
def tVar (i : Nat) : TE := fun σ H Q => ∃ v, σ[i]? = some (some v) ∧ Q v H
def tC (v : V) : TE := fun _ H Q => Q v H
theorem pe_var {i : Nat} {x : Str} {pos : Pos} (hN : X.N[i]? = some x) (hv : Vis X.env.scope x) (hd : (x == ("__debug__" : Str)) = false := by decide) (hcd : (x == ("__classdict__" : Str)) = false := by decide) : PE X (.Name x pos) (tVar i) := by
  intro pins s σ H Q I h
  obtain ⟨v, e, h⟩ := h
  obtain ⟨m, hn, hl⟩ := I.loc
  obtain ⟨u, r, l⟩ := hl i x v hN e hv
  have fin : EP X pins σ Q u s := ⟨v, H, I, r, h⟩
  rcases l with ⟨hk, hm⟩ | ⟨hk, c, hc, hcell⟩
  · exact wpAny_Name (wpAny_loadName_local I.ok.kind hk hn hm fin) hd
  · rcases hk with hk | hk
    · exact wpAny_Name (wpAny_loadName_cell I.ok.kind hk hc hcell fin) hd
    · exact wpAny_Name (wpAny_loadName_free I.ok.kind hk hc hcell fin hcd) hd
theorem pe_int {i j pos} : PE X (.Constant (.int i) j pos) (tC (.int i)) := fun _ _ _ H _ I h => wpAny_Constant_int ⟨.int i, H, I.tok _, ⟨_, rfl⟩, h⟩
theorem pe_bl {b j pos} : PE X (.Constant (.bool b) j pos) (tC (.bl b)) := fun _ _ _ H _ I h => Constant_bool ⟨.bl b, H, I, rfl, h⟩
theorem pe_non {j pos} : PE X (.Constant .none j pos) (tC .non) := fun _ _ _ H _ I h => Constant_none ⟨.non, H, I, rfl, h⟩
theorem pe_str {x j pos} : PE X (.Constant (.str x) j pos) (tC (.str x)) := fun _ _ _ H _ I h => Calls.Constant_str ⟨.str x, H, I.tok _, ⟨_, rfl⟩, h⟩
def Gl (X : Cx) (x : Str) : Prop := X.env.kindOf x = some .globalImplicit
theorem ld_glob {E : Value → Shared → Prop} {pins : List (Addr × Obj)} {s : Shared} {σ : St} {H : Hp} {x : Str} {u : Value} {pos : Pos} {Q : Value → Shared → Prop} (I : Inv X pins σ H s) (hg : Gl X x) (hm : X.mg x = some u) (h : Q u s)
    (hd : (x == ("__debug__" : Str)) = false := by decide) : wpAny (model X.prog X.w) X.A (eval (.Name x pos) X.env) Q E s :=
  Calls.Name_function_global I.ok.kind hg (Calls.loadGlobal_global (by rw [I.ok.glob]; exact I.mod.glob.keeps I.bk) hm h) hd
theorem ld_blt {E : Value → Shared → Prop} {pins : List (Addr × Obj)} {s : Shared} {σ : St} {H : Hp} {x : Str} {u : Value} {pos : Pos} {Q : Value → Shared → Prop} (I : Inv X pins σ H s) (hg : Gl X x) (hm : X.mg x = none) (hv : bootBuiltins x = some u) (h : Q u s)
    (hn : x ≠ "__name__" := by decide) (hd : (x == ("__debug__" : Str)) = false := by decide) : wpAny (model X.prog X.w) X.A (eval (.Name x pos) X.env) Q E s := by
  obtain ⟨mb, h1, h2⟩ := I.mod.blt
  exact Calls.Name_function_global I.ok.kind hg (Calls.loadGlobal_builtin (by rw [I.ok.glob]; exact I.mod.glob.keeps I.bk) hm (by rw [I.ok.blt]; exact h1.keeps I.bk) ((h2 x hn).trans hv) h) hd
theorem pe_glob {x : Str} {v : V} {u : Value} {pos : Pos} (hg : Gl X x) (hm : X.mg x = some u) (r : RelV v u) (hd : (x == ("__debug__" : Str)) = false := by decide) : PE X (.Name x pos) (tC v) :=
  fun _ _ _ H _ I h => ld_glob I hg hm ⟨v, H, I, r, h⟩ hd
theorem pe_bltn {x : Str} {v : V} {u : Value} {pos : Pos} (hg : Gl X x) (hm : X.mg x = none) (hv : bootBuiltins x = some u) (r : RelV v u) (hn : x ≠ "__name__" := by decide) (hd : (x == ("__debug__" : Str)) = false := by decide) : PE X (.Name x pos) (tC v) :=
  fun _ _ _ H _ I h => ld_blt I hg hm hv ⟨v, H, I, r, h⟩ hn hd
variable {a b : Expr} {ta tb : TE} {pos : Pos}
def tB (t : TE) : TT := fun σ H Q => t σ H fun x H1 => ∃ c, x = .bl c ∧ Q c H1
theorem pt_val {e : Expr} {t : TE} (h : PE X e t) (he : ∀ whole, isTrue e X.env whole = (do let v ← whole; standAt e.pos; holding [v] (truthy v)) := by intro _; rfl) : PT X e (tB t) := by
  intro pins s σ H Q I hw
  refine isTrue_plain (thn (h pins s σ H _ I hw) fun v s1 ⟨x, H1, I1, r1, q1⟩ => ?_) (he _)
  obtain ⟨d, rfl, q⟩ := q1
  cases r1
  exact wpAny_truthy_bool ⟨H1, I1, q⟩
variable {tA tB' : TT} {rest : List Expr}
def tAnd (t u : TT) : TT := fun σ H Q => t σ H fun c H1 => if c = true then u σ H1 Q else Q false H1
def tOr (t u : TT) : TT := fun σ H Q => t σ H fun c H1 => if c = true then Q true H1 else u σ H1 Q
def tNot (t : TT) : TT := fun σ H Q => t σ H fun c H1 => Q (!c) H1
theorem pw_and1 (ha : PT X a tA) : PW X (.BoolOp .And [a] pos) tA := by
  intro wh pins s σ H Q I h
  refine isTrue_and (thn (ha pins s σ H Q I h) fun c s1 e => ?_)
  cases c with
  | true => exact isTrue_and_nil e
  | false => exact e
theorem pw_or1 (ha : PT X a tA) : PW X (.BoolOp .Or [a] pos) tA := by
  intro wh pins s σ H Q I h
  refine isTrue_or (thn (ha pins s σ H Q I h) fun c s1 e => ?_)
  cases c with
  | false => exact isTrue_or_nil e
  | true => exact e
theorem pw_and (ha : PT X a tA) (hb : PW X (.BoolOp .And (b :: rest) pos) tB') : PW X (.BoolOp .And (a :: b :: rest) pos) (tAnd tA tB') := by
  intro wh pins s σ H Q I h
  refine isTrue_and (thn (ha pins s σ H _ I h) fun c s1 ⟨H1, I1, q1⟩ => ?_)
  cases c with
  | true => exact hb wh pins s1 σ H1 Q I1 q1
  | false => exact ⟨H1, I1, q1⟩
theorem pw_or (ha : PT X a tA) (hb : PW X (.BoolOp .Or (b :: rest) pos) tB') : PW X (.BoolOp .Or (a :: b :: rest) pos) (tOr tA tB') := by
  intro wh pins s σ H Q I h
  refine isTrue_or (thn (ha pins s σ H _ I h) fun c s1 ⟨H1, I1, q1⟩ => ?_)
  cases c with
  | true => exact ⟨H1, I1, q1⟩
  | false => exact hb wh pins s1 σ H1 Q I1 q1
theorem pt_not (ha : PT X a tA) : PT X (.UnaryOp .Not a pos) (tNot tA) := by
  intro pins s σ H Q I h
  exact isTrue_not (ha pins s σ H (fun c H1 => Q (!c) H1) I h)
end
end L2
namespace L2
open PySem PySem.Spec PyProof.Rows
def SqL (K : PySem.W.Frag) (H : Hp) (a : Addr) (xs : List V) : Prop :=
  Rd H a (.lst xs) ∨
    ∃ (o : Obj) (its : Array Value) (n : Nat), K.lookup a = some o ∧ o.cls = .type "list" ∧ o.dict = none ∧ o.data = .seq its n ∧ its.size ≤ sizeLine ∧ Vals xs its.toList
def SqT (K : PySem.W.Frag) (H : Hp) (a : Addr) (xs : List V) : Prop :=
  Rd H a (.tup xs) ∨
    ∃ (o : Obj) (its : Array Value) (n : Nat), K.lookup a = some o ∧ o.cls = .type "tuple" ∧ o.data = .seq its n ∧ its.size ≤ sizeLine ∧ Vals xs its.toList
def absV : Value → Option V
  | .none => some .non
  | .bool b => some (.bl b)
  | .int i _ => some (.int i)
  | .str x _ => some (.str x)
  | .bytes b _ => some (.byt b)
  | .float b _ => some (.flt b)
  | .ref a => some (.ref a)
  | .type n => some (.ty n)
  | _ => none
theorem RelV.abs {x : V} {u : Value} (r : RelV x u) : absV u = some x := by
  cases x with
  | non => cases r; rfl
  | bl _ => cases r; rfl
  | int _ => obtain ⟨t, rfl⟩ := r; rfl
  | str _ => obtain ⟨t, rfl⟩ := r; rfl
  | byt _ => obtain ⟨t, rfl⟩ := r; rfl
  | flt _ => obtain ⟨t, rfl⟩ := r; rfl
  | ref _ => cases r; rfl
  | ty _ => cases r; rfl
theorem RelV.inj {x y : V} {u : Value} (r : RelV x u) (q : RelV y u) : x = y := Option.some.inj (r.abs.symm.trans q.abs)
theorem Vals.inj : ∀ {xs ys : List V} {us : List Value}, Vals xs us → Vals ys us → xs = ys
  | _, _, _, .nil, .nil => rfl
  | _, _, _, .cons r t, .cons r' t' => by rw [r.inj r', Vals.inj t t']
section
variable {X : Cx} {pins : List (Addr × Obj)} {σ : St} {H : Hp} {s : Shared} {a : Addr} {xs ys : List V}
theorem SqL.of {K : PySem.W.Frag} (h : H a = some (.lst xs)) : SqL K H a xs := .inl (.inl h)
theorem SqT.of {K : PySem.W.Frag} (h : H a = some (.tup xs)) : SqT K H a xs := .inl (.inl h)
theorem Inv.list (I : Inv X pins σ H s) (h : SqL X.K H a xs) : ∃ its : List Value, Vals xs its ∧ PlainL s.heap a its.toArray ∧ xs.length ≤ sizeLine := by
  rcases h with h | ⟨o, its, n, hk, hc, hd, hs, hz, r⟩
  · obtain ⟨z, its, n, r, e⟩ := h.ok I.hok
    exact ⟨its, r, ⟨_, n, e, rfl, rfl, rfl⟩, z⟩
  · refine ⟨its.toList, r, ⟨o, n, I.kIn a o hk, hc, hd, by simpa using hs⟩, ?_⟩
    have e := r.length
    simp only [Array.length_toList] at e
    omega
theorem Inv.tuple (I : Inv X pins σ H s) (h : SqT X.K H a xs) : ∃ its : List Value, Vals xs its ∧ IsTup s.heap a its.toArray ∧ xs.length ≤ sizeLine := by
  rcases h with h | ⟨o, its, n, hk, hc, hs, hz, r⟩
  · obtain ⟨z, its, r, p⟩ := h.ok I.hok
    exact ⟨its, r, p, z⟩
  · refine ⟨its.toList, r, ⟨o, I.kIn a o hk, hc, n, by simpa using hs⟩, ?_⟩
    have e := r.length
    simp only [Array.length_toList] at e
    omega
theorem Inv.list_inj (I : Inv X pins σ H s) (h : SqL X.K H a xs) (h' : SqL X.K H a ys) : xs = ys := by
  obtain ⟨its, r, ⟨o, n, e, _, _, d⟩, _⟩ := I.list h
  obtain ⟨its', r', ⟨o', n', e', _, _, d'⟩, _⟩ := I.list h'
  rw [e] at e'; cases e'
  rw [d] at d'
  injection d' with d1 _
  have : its = its' := by simpa using congrArg Array.toList d1
  subst this
  exact r.inj r'
theorem Inv.tuple_inj (I : Inv X pins σ H s) (h : SqT X.K H a xs) (h' : SqT X.K H a ys) : xs = ys := by
  obtain ⟨its, r, ⟨o, e, _, n, d⟩, _⟩ := I.tuple h
  obtain ⟨its', r', ⟨o', e', _, n', d'⟩, _⟩ := I.tuple h'
  rw [e] at e'; cases e'
  rw [d] at d'
  injection d' with d1 _
  have : its = its' := by simpa using congrArg Array.toList d1
  subst this
  exact r.inj r'
end
abbrev Cx.wish (X : Cx) (E : Value → Shared → Prop) : Cx := { X with xe := E }
abbrev Cx.nox (X : Cx) : Cx := X.wish fun _ _ => False
theorem Cx.Ok.wish {X : Cx} (ok : X.Ok) (E : Value → Shared → Prop) : (X.wish E).Ok :=
  ⟨ok.mod, ok.kind, ok.glob, ok.blt, ok.above, ok.inj, ok.has, ok.cab, ok.hd, ok.frames, ok.stk, ok.exf, ok.bs, ok.bsz, ok.noex, ok.exfs, ok.funs, ok.frf⟩
theorem Cx.Ok.unwish {X : Cx} {E : Value → Shared → Prop} (ok : (X.wish E).Ok) : X.Ok :=
  ⟨ok.mod, ok.kind, ok.glob, ok.blt, ok.above, ok.inj, ok.has, ok.cab, ok.hd, ok.frames, ok.stk, ok.exf, ok.bs, ok.bsz, ok.noex, ok.exfs, ok.funs, ok.frf⟩
section
variable {X : Cx} {pins : List (Addr × Obj)} {σ : St} {H : Hp} {s : Shared} {E : Value → Shared → Prop}
theorem Inv.wish (I : Inv X pins σ H s) (E : Value → Shared → Prop) : Inv (X.wish E) pins σ H s := ⟨I.ok.wish E, I.os, I.bare, I.base, I.loc, I.cell, I.free, I.freeC, I.pin, I.hok, I.len⟩
theorem Inv.unwish (I : Inv (X.wish E) pins σ H s) : Inv X pins σ H s := ⟨I.ok.unwish, I.os, I.bare, I.base, I.loc, I.cell, I.free, I.freeC, I.pin, I.hok, I.len⟩
theorem SP.unwish {D : Ends} {f : Flow} {s' : Shared} (h : SP (X.wish E) pins D f s') : SP X pins D f s' := by
  cases f with
  | next => obtain ⟨σ', H', I, q⟩ := h; exact ⟨σ', H', I.unwish, q⟩
  | brk => obtain ⟨σ', H', I, q⟩ := h; exact ⟨σ', H', I.unwish, q⟩
  | cont => obtain ⟨σ', H', I, q⟩ := h; exact ⟨σ', H', I.unwish, q⟩
  | ret u => obtain ⟨v, σ', H', I, r, q⟩ := h; exact ⟨v, σ', H', I.unwish, r, q⟩
theorem PSs.nox {st : List Stmt} {t : TS} (h : PSs X.nox st t) : PSs X st t := fun pins s σ H D I hw =>
  wpAny_mono (h pins s σ H D (I.wish _) hw) (fun _ _ q => q.unwish) fun _ _ z => False.elim z
end
section
variable {X : Cx} {st : Stmt} {rest : List Stmt} {t u : TS} {e : Expr} {te : TE} {pos : Pos}
def tNext : TS := fun D σ H => D.nx σ H
def tSeq (t u : TS) : TS := fun D σ H => t { D with nx := u D } σ H
theorem pss_nil : PSs X [] tNext := fun _ _ σ H _ I h => wpAny_execs_nil ⟨σ, H, I, h⟩
theorem pss_cons (h1 : PS X st t) (h2 : PSs X rest u) : PSs X (st :: rest) (tSeq t u) := by
  intro pins s σ H D I h
  refine wpAny_execs_cons (thn (h1 pins s σ H { D with nx := u D } I h) fun f s1 q => ?_)
  cases f with
  | next =>
    obtain ⟨σ', H', I', q⟩ := q
    exact h2 pins s1 σ' H' D I' q
  | ret v => exact q
  | brk => exact q
  | cont => exact q
theorem pss_one (h1 : PS X st t) : PSs X [st] t := by
  intro pins s σ H D I h
  refine wpAny_execs_cons (thn (h1 pins s σ H D I h) fun f s1 q => ?_)
  cases f with
  | next => exact wpAny_execs_nil q
  | ret v => exact q
  | brk => exact q
  | cont => exact q
theorem Inv.quiet {pins : List (Addr × Obj)} {σ : St} {H : Hp} {s : Shared} (I : Inv X pins σ H s) : interactive X.env = false := by simp [interactive, I.ok.kind]
def tDrop (te : TE) : TS := fun D σ H => te σ H fun _ H1 => D.nx σ H1
theorem ps_expr (he : PE X e te) (hs : swapsWith e none pos.line X.env = pure false := by rfl) : PS X (.Expr e pos) (tDrop te) := by
  intro pins s σ H D I h
  exact wpAny_Expr_any (thn (he pins s σ H _ I h) fun v s1 ⟨x, H1, I1, r1, q1⟩ => ⟨σ, H1, I1, q1⟩) I.quiet hs
def tRet (te : TE) : TS := fun D σ H => te σ H D.rt
theorem ps_ret (he : PE X e te) : PS X (.Return (some e) pos) (tRet te) := by
  intro pins s σ H D I h
  exact wpAny_Return_some (thn (he pins s σ H _ I h) fun v s1 ⟨x, H1, I1, r1, q1⟩ => ⟨x, σ, H1, I1, r1, q1⟩)
def tIfS (c : TT) (t u : TS) : TS := fun D σ H => c σ H fun b H1 => if b = true then t D σ H1 else u D σ H1
theorem ps_if {c : Expr} {a b : List Stmt} {tc : TT} (hc : PT X c tc) (ha : PSs X a t) (hb : PSs X b u) : PS X (.If c a b pos) (tIfS tc t u) := by
  intro pins s σ H D I h
  refine wpAny_If (thn (hc pins s σ H _ I h) fun d s1 ⟨H1, I1, q1⟩ => ?_)
  cases d with
  | true => exact ha pins s1 σ H1 D I1 q1
  | false => exact hb pins s1 σ H1 D I1 q1
def tNever : TS := fun _ _ _ => False
theorem ps_never : PS X st tNever := fun _ _ _ _ _ _ h => h.elim
end
abbrev TG := V → St → Hp → (St → Hp → Prop) → Prop
def PG (X : Cx) (target : Expr) (t : TG) : Prop :=
  ∀ (pins : List (Addr × Obj)) (s : Shared) (σ : St) (H : Hp) (v : V) (u : Value) (Q : St → Hp → Prop), Inv X pins σ H s → RelV v u → t v σ H Q →
    wpAny (model X.prog X.w) X.A (assign target X.env u) (fun _ s' => ∃ σ' H', Inv X pins σ' H' s' ∧ Q σ' H') X.xe s
abbrev TIp := V → V → Hp → VK → Prop
def PIp (X : Cx) (op : Operator) (t : TIp) : Prop :=
  ∀ (pins : List (Addr × Obj)) (s : Shared) (σ : St) (H : Hp) (x y : V) (v u : Value) (Q : VK), Inv X pins σ H s → RelV x v → RelV y u → t x y H Q →
    wpAny (model X.prog X.w) X.A (inplaceOp op v u) (EP X pins σ Q) X.xe s
section
variable {X : Cx} {pos : Pos}
def gName (i : Nat) : TG := fun v σ H Q => Q (σ.set i (some v)) H
theorem pg_name {i : Nat} {x : Str} (hN : X.N.Nodup) (hi : X.N[i]? = some x) (hx : Loc X.env.scope x) (hf : X.fn x = true ∨ X.env.scope.names.lookup x = some .local := by first | exact .inl rfl | exact .inr rfl | assumption) : PG X (.Name x pos) (gName i) := by
  intro pins s σ H v u Q I r h
  exact wpAny_assign_Name (store_ok I hN hi hx r (fun s' I' => ⟨_, H, I', h⟩) hf)
def tAsg (te : TE) (g : TG) : TS := fun D σ H => te σ H fun x H1 => g x σ H1 D.nx
theorem ps_set {i : Nat} {x : Str} {e : Expr} {te : TE} {pos' : Pos} (hN : X.N.Nodup) (hi : X.N[i]? = some x) (hx : Loc X.env.scope x) (he : PE X e te) (hs : swapsWith e (some (.Name x pos')) pos.line X.env = pure false := by rfl) (hf : X.fn x = true ∨ X.env.scope.names.lookup x = some .local := by first | exact .inl rfl | exact .inr rfl | assumption) :
    PS X (.Assign [.Name x pos'] e pos) (tAsg te (gName i)) := by
  intro pins s σ H D I h
  refine wpAny_Assign_Name (thn (he pins s σ H _ I h) fun v s1 ⟨y, H1, I1, r1, q1⟩ => ?_) hs
  exact store_ok I1 hN hi hx r1 (fun s2 I2 => ⟨_, H1, I2, q1⟩) hf
def tAug (i : Nat) (te : TE) (ti : TIp) : TS := fun D σ H => ∃ x, σ[i]? = some (some x) ∧ te σ H fun y H1 => ti x y H1 fun z H2 => D.nx (σ.set i (some z)) H2
theorem ps_aug {i : Nat} {x : Str} {e : Expr} {te : TE} {op : Operator} {ti : TIp} {pos' : Pos} (hN : X.N.Nodup) (hi : X.N[i]? = some x) (hx : Loc X.env.scope x) (he : PE X e te) (ho : PIp X op ti) (hf : X.fn x = true ∨ X.env.scope.names.lookup x = some .local := by first | exact .inl rfl | exact .inr rfl | assumption) :
    PS X (.AugAssign (.Name x pos') op e pos) (tAug i te ti) := by
  intro pins s σ H D I h
  obtain ⟨v, e1, h⟩ := h
  obtain ⟨m, hn, hl⟩ := I.loc
  have vis : Vis X.env.scope x := by rcases hx with k | k; exact .inl k; exact .inr (.inl k)
  obtain ⟨u, r, l⟩ := hl i x v hi e1 vis
  refine wpAny_AugAssign_Name ?_
  have go : wpAny (model X.prog X.w) X.A (eval e X.env) (fun w s₂ => wpAny (model X.prog X.w) X.A (inplaceOp op u w) (fun r s₃ => wpAny (model X.prog X.w) X.A (storeName X.env x r) (fun _ => SP X pins D .next) X.xe s₃) X.xe s₂) X.xe s := by
    refine thn (he pins s σ H _ I h) fun w s1 ⟨y, H1, I1, r1, q1⟩ => ?_
    refine thn (ho pins s1 σ H1 v y u w _ I1 r r1 q1) fun z s2 ⟨zv, H2, I2, r2, q2⟩ => ?_
    exact store_ok I2 hN hi hx r2 (fun s3 I3 => ⟨_, H2, I3, q2⟩) hf
  rcases l with ⟨hk, hm⟩ | ⟨hk, c, hc, hcell⟩
  · exact wpAny_loadName_local I.ok.kind hk hn hm go
  · rcases hk with hk | hk
    · exact wpAny_loadName_cell I.ok.kind hk hc hcell go
    · rcases hx with k | k
      · have : X.env.scope.names.lookup x = some .free := hk
        rw [k] at this; cases this
      · have : X.env.scope.names.lookup x = some .free := hk
        rw [k] at this; cases this
def ipI (f : Int → Int → Int) : TIp := fun x y H Q => ∃ i j, x = .int i ∧ y = .int j ∧ Q (.int (f i j)) H
theorem ip_add : PIp X .Add (ipI fun i j => i + j) := by
  intro pins s σ H x y v u Q I r1 r2 h
  obtain ⟨i, j, e1, e2, q⟩ := h
  subst e1; subst e2
  obtain ⟨t, rfl⟩ := r1
  obtain ⟨t', rfl⟩ := r2
  exact iadd_int ⟨.int _, H, I.tok _, ⟨_, rfl⟩, q⟩
end
section
variable {X : Cx} {pos : Pos}
def tWhile (c : TT) (tb : TS) : TS := fun D σ H => ∃ W : Nat → St → Hp → Prop, (∃ m, W m σ H) ∧ ∀ m σ H, W m σ H →
  c σ H fun b H1 => if b = true then ∃ N : St → Hp → Prop, (∀ σ' H', N σ' H' → ∃ m', m' < m ∧ W m' σ' H') ∧ tb { D with nx := N, ct := N, bk := D.nx } σ H1 else D.nx σ H1
theorem ps_while {c : Expr} {body : List Stmt} {tc : TT} {tb : TS} (hp : PassesOwn (model X.prog X.w) X.A X.env X.xe) (hc : PT X c tc) (hb : PSs X body tb) : PS X (.While c body [] pos) (tWhile tc tb) := by
  intro pins s σ H D I h
  obtain ⟨W, ⟨m0, w0⟩, turn⟩ := h
  refine wpAny_While (codeAny_whileLoop (fun n s' => ∃ σ' H', Inv X pins σ' H' s' ∧ W n σ' H') ?_ m0 ⟨σ, H, I, w0⟩)
  rintro n s1 ⟨σ1, H1, I1, w1⟩
  refine wpAny_passesOwn hp (thn (hc pins s1 σ1 H1 _ I1 (turn n σ1 H1 w1)) fun b s2 ⟨H2, I2, q2⟩ => ?_)
  cases b with
  | true =>
    obtain ⟨N, hN, q2⟩ := q2
    rw [if_pos rfl]
    refine wpAny_passesOwn hp (thn (hb pins s2 σ1 H2 _ I2 q2) fun f s3 q3 => ?_)
    cases f with
    | next =>
      obtain ⟨σ3, H3, I3, n3⟩ := q3
      obtain ⟨m', hm, w3⟩ := hN σ3 H3 n3
      exact ⟨m', hm, σ3, H3, I3, w3⟩
    | cont =>
      obtain ⟨σ3, H3, I3, n3⟩ := q3
      obtain ⟨m', hm, w3⟩ := hN σ3 H3 n3
      exact ⟨m', hm, σ3, H3, I3, w3⟩
    | brk => exact q3
    | ret v => exact q3
  | false =>
    rw [if_neg Bool.false_ne_true]
    exact wpAny_execs_nil ⟨σ1, H2, I2, q2⟩
end
structure It where
  go : Nat → Hp → Prop
  yld : Nat → Hp → V → Hp → Prop
  stop : Nat → Hp → Prop
def FpOk (X : Cx) (pins : List (Addr × Obj)) (H : Hp) (b : Addr) : Prop :=
  H b = none ∧ b ≠ X.env.locals ∧ b ∉ X.fs ∧ (b ∈ X.ex ∨ X.s₀.heap.objs.size ≤ b) ∧ (∀ x c, X.env.cells.lookup x = some c → c ≠ b) ∧ ∀ p ∈ X.pn ++ pins, p.1 ≠ b
theorem Inv.fpOk {X : Cx} {pins : List (Addr × Obj)} {σ : St} {H H' : Hp} {s : Shared} {b : Addr} (I : Inv X pins σ H s) (hb : s.heap.objs.size ≤ b) (hn : H' b = none) : FpOk X pins H' b := by
  refine ⟨hn, Nat.ne_of_gt (Nat.lt_of_lt_of_le I.lt hb), I.nofs hb, .inr (Nat.le_trans I.sz hb), fun x c e z => ?_, fun p hp z => ?_⟩
  · obtain ⟨v, q⟩ := I.cell x c e
    exact absurd (Nat.lt_of_lt_of_le q.lt (by rw [z]; exact hb)) (Nat.lt_irrefl _)
  · exact absurd (Nat.lt_of_lt_of_le (Heap.lt_size (I.pin p hp).1) (by rw [z]; exact hb)) (Nat.lt_irrefl _)
structure Turn (P : Program) (w : World) (K : PySem.W.Frag) (tg : Expr) (J : It) (fp : List Addr) (it : Addr) (tn : Nat → Heap → Prop) : Prop where
  mem : it ∈ fp
  obj : ∀ i h, tn i h → ∀ b ∈ fp, ∃ o, h.get? b = some o ∧ ∀ v, o.data ≠ .cell v
  keep : ∀ i h h', tn i h → (∀ b ∈ fp, ∀ o, h.get? b = some o → h'.get? b = some o) → tn i h'
  item : ∀ (X : Cx), X.prog = P → X.w = w → X.K = K → X.calm = true → ∀ (i : Nat) (pins : List (Addr × Obj)) (s : Shared) (σ : St) (H : Hp) (E : Value → Shared → Prop), Inv X pins σ H s → (∀ b ∈ fp, FpOk X pins H b) → tn i s.heap → J.go i H →
    wpAny (model P w) X.A (pyNext (.ref it)) (fun r s1 => ∃ u, r = some u ∧
      wpAny (model P w) X.A (letOwnedTupleGo tg (.ref it) u) (fun _ s2 => ∃ x H', Inv X pins σ H' s2 ∧ RelV x u ∧ J.yld i H x H' ∧ tn (i + 1) s2.heap ∧ ∀ b ∈ fp, H' b = none) E s1) E s
  done : ∀ (X : Cx), X.prog = P → X.w = w → X.K = K → X.calm = true → ∀ (i : Nat) (pins : List (Addr × Obj)) (s : Shared) (σ : St) (H : Hp) (E : Value → Shared → Prop), Inv X pins σ H s → (∀ b ∈ fp, FpOk X pins H b) → tn i s.heap → J.stop i H →
    wpAny (model P w) X.A (pyNext (.ref it)) (fun r s1 => r = none ∧ Inv X pins σ H s1) E s
  self : ∀ (A : Around) (i : Nat) (s : Shared) (Q : Value → Shared → Prop) (E : Value → Shared → Prop), tn i s.heap → Q (.ref it) s → wpAny (model P w) A (pyIter (.ref it)) Q E s
abbrev TI := St → Hp → (It → Hp → Prop) → Prop
def PIE (X : Cx) (pins : List (Addr × Obj)) (σ : St) (tg : Expr) (R : It → Hp → Prop) (itv : Value) (s2 : Shared) : Prop :=
  ∃ (it : Addr) (fp : List Addr) (tn : Nat → Heap → Prop) (J : It) (H' : Hp), itv = .ref it ∧ Inv X pins σ H' s2 ∧ Turn X.prog X.w X.K tg J fp it tn ∧ tn 0 s2.heap ∧ (∀ b ∈ fp, FpOk X pins H' b) ∧ R J H'
def PI (X : Cx) (tg iter : Expr) (wi : TI) : Prop :=
  ∀ (pins : List (Addr × Obj)) (s : Shared) (σ : St) (H : Hp) (R : It → Hp → Prop), Inv X pins σ H s → wi σ H R →
    wpAny (model X.prog X.w) X.A (eval iter X.env) (fun v s1 => wpAny (model X.prog X.w) X.A (pyIter v) (PIE X pins σ tg R) X.xe s1) X.xe s
theorem go_of {M : Model} {A : Around} {E : Value → Shared → Prop} {s : Shared} {tg : Expr} {it : Addr} {u : Value} {o : Obj} {n : String} {vs : Array Value} {Q : Unit → Shared → Prop} (ho : s.heap.get? it = some o) (hc : o.cls = .type n) (hd : o.data = .fields vs)
    (hn : ["enumerate", "zip", "dict_itemiterator", "dict_reverseitemiterator", "odict_iterator", "itertools.zip_longest", "itertools.pairwise"].contains n = false) (hQ : Q () s) : wpAny M A (letOwnedTupleGo tg (.ref it) u) Q E s := by
  unfold letOwnedTupleGo
  cases tg <;> first
    | exact wpAny_pure hQ
    | (cases u <;> first
        | exact wpAny_pure hQ
        | (refine wpAny_bind (wpAny_load ho ?_)
           rw [hc, hd]
           show wpAny M A (if (["enumerate", "zip", "dict_itemiterator", "dict_reverseitemiterator", "odict_iterator", "itertools.zip_longest", "itertools.pairwise"].contains n && vs[0]? == some (rawInt _)) = true then _ else _) Q E s
           rw [if_neg (by intro h; rw [hn, Bool.false_and] at h; cases h)]
           exact wpAny_pure hQ))
def Itl (K : PySem.W.Frag) (a : Addr) : It :=
  ⟨fun i H => ∃ xs x, SqL K H a xs ∧ xs[i]? = some x, fun i H x H' => H' = H ∧ ∀ xs, SqL K H a xs → xs[i]? = some x, fun i H => ∃ xs, SqL K H a xs ∧ xs.length ≤ i⟩
def Itt (K : PySem.W.Frag) (a : Addr) : It :=
  ⟨fun i H => ∃ xs x, SqT K H a xs ∧ xs[i]? = some x, fun i H x H' => H' = H ∧ ∀ xs, SqT K H a xs → xs[i]? = some x, fun i H => ∃ xs, SqT K H a xs ∧ xs.length ≤ i⟩
def Itr (lo : Int) (n : Nat) : It := ⟨fun i _ => i < n, fun i H x H' => H' = H ∧ x = .int (lo + i), fun i _ => n ≤ i⟩
theorem turn_list {P : Program} {w : World} {K : PySem.W.Frag} {tg : Expr} (a it : Addr) : Turn P w K tg (Itl K a) [it] it (fun i h => h.IsListIter it a i) where
  mem := by simp
  obj := fun i h st b hb => by
    have e : b = it := by simpa using hb
    subst e
    obtain ⟨o, e, c, d⟩ := st
    exact ⟨o, e, fun v z => by rw [d] at z; cases z⟩
  keep := fun i h h' st k => st.at fun o e => k it (by simp) o e
  item := by
    intro X hP hw hK hc i pins s σ H E I hf st hg
    subst hP hw hK
    obtain ⟨xs, x, hq, hx⟩ := hg
    obtain ⟨its, rv, p, hz⟩ := I.list hq
    obtain ⟨u, hu, ru⟩ := rv.get hx
    obtain ⟨f0, f1, f2, f3, f4, f5⟩ := hf it (by simp)
    refine wpAny_pyNext_list_item st p.isList (x := u) (by simpa using hu) fun h' st' sb => ?_
    have I1 : Inv X pins σ H { s with heap := h' } := I.turned (t' := s.toks) (fun b o hb e => (sb.2 b hb).trans e) f0 f1 f3 f4 f5
    obtain ⟨o, e, c, d⟩ := id st'
    exact ⟨u, rfl, go_of (s := { s with heap := h' }) e c d (by decide) ⟨x, H, I1, ru, ⟨rfl, fun ys hy => by rw [I.list_inj hy hq]; exact hx⟩, st', fun b hb => (hf b hb).1⟩⟩
  done := by
    intro X hP hw hK hc i pins s σ H E I hf st hg
    subst hP hw hK
    obtain ⟨xs, hq, hx⟩ := hg
    obtain ⟨its, rv, p, hz⟩ := I.list hq
    obtain ⟨f0, f1, f2, f3, f4, f5⟩ := hf it (by simp)
    have hl := rv.length
    exact wpAny_pyNext_list_end (I.ok.hd hc) st p.isList (by simp; omega) fun h' eb => ⟨rfl, I.turned (t' := s.toks) (fun b o hb e => eb b o hb e) f0 f1 f3 f4 f5⟩
  self := fun _ _ _ _ _ st h => wpAny_pyIter_listiter st h
theorem turn_tuple {P : Program} {w : World} {K : PySem.W.Frag} {tg : Expr} (a it : Addr) : Turn P w K tg (Itt K a) [it] it (fun i h => h.IsTupleIter it a i) where
  mem := by simp
  obj := fun i h st b hb => by
    have e : b = it := by simpa using hb
    subst e
    obtain ⟨o, e, c, d⟩ := st
    exact ⟨o, e, fun v z => by rw [d] at z; cases z⟩
  keep := fun i h h' st k => st.at fun o e => k it (by simp) o e
  item := by
    intro X hP hw hK hc i pins s σ H E I hf st hg
    subst hP hw hK
    obtain ⟨xs, x, hq, hx⟩ := hg
    obtain ⟨its, rv, p, hz⟩ := I.tuple hq
    obtain ⟨u, hu, ru⟩ := rv.get hx
    obtain ⟨f0, f1, f2, f3, f4, f5⟩ := hf it (by simp)
    refine wpAny_pyNext_tuple_item st (show s.heap.IsTuple a its.toArray from p) (x := u) (by simpa using hu) fun h' st' sb => ?_
    have I1 : Inv X pins σ H { s with heap := h' } := I.turned (t' := s.toks) (fun b o hb e => (sb.2 b hb).trans e) f0 f1 f3 f4 f5
    obtain ⟨o, e, c, d⟩ := id st'
    exact ⟨u, rfl, go_of (s := { s with heap := h' }) e c d (by decide) ⟨x, H, I1, ru, ⟨rfl, fun ys hy => by rw [I.tuple_inj hy hq]; exact hx⟩, st', fun b hb => (hf b hb).1⟩⟩
  done := by
    intro X hP hw hK hc i pins s σ H E I hf st hg
    subst hP hw hK
    obtain ⟨xs, hq, hx⟩ := hg
    obtain ⟨its, rv, p, hz⟩ := I.tuple hq
    obtain ⟨f0, f1, f2, f3, f4, f5⟩ := hf it (by simp)
    have hl := rv.length
    exact wpAny_pyNext_tuple_end (I.ok.hd hc) st (show s.heap.IsTuple a its.toArray from p) (by simp; omega) fun h' eb => ⟨rfl, I.turned (t' := s.toks) (fun b o hb e => eb b o hb e) f0 f1 f3 f4 f5⟩
  self := fun _ _ _ _ _ st h => wpAny_pyIter_tupleiter st h
theorem turn_range {P : Program} {w : World} {K : PySem.W.Frag} {tg : Expr} (it : Addr) (lo : Int) (n : Nat) : Turn P w K tg (Itr lo n) [it] it (fun i h => IsRangeIter h it (lo + (i : Nat) * 1) ((n : Int) - (i : Nat)) 1) where
  mem := by simp
  obj := fun i h st b hb => by
    have e : b = it := by simpa using hb
    subst e
    exact ⟨_, st, fun v z => by
      have z' : Data.fields _ = Data.cell v := z
      cases z'⟩
  keep := fun i h h' st k => k it (by simp) _ st
  item := by
    intro X hP hw hK hc i pins s σ H E I hf st hg
    subst hP hw hK
    obtain ⟨f0, f1, f2, f3, f4, f5⟩ := hf it (by simp)
    have W := Walks.range (prog := X.prog) (w := X.w) (I.ok.hd hc) it lo 1 n
    refine W.item i s _ _ hg st fun v h' tk hv st' kk => ?_
    obtain ⟨t, rfl⟩ := hv
    have I1 : Inv X pins σ H { s with heap := h', toks := tk } := I.turned (fun b o hb e => kk b o (by simpa using hb) e) f0 f1 f3 f4 f5
    refine ⟨_, rfl, go_of (s := { s with heap := h', toks := tk }) (n := "range_iterator") st' rfl rfl (by decide) ⟨.int (lo + i), H, I1, ⟨t, ?_⟩, ⟨rfl, rfl⟩, st', fun b hb => (hf b hb).1⟩⟩
    rw [Int.mul_one]
  done := by
    intro X hP hw hK hc i pins s σ H E I hf st hg
    subst hP hw hK
    obtain ⟨f0, f1, f2, f3, f4, f5⟩ := hf it (by simp)
    exact wpAny_pyNext_range_end (I.ok.hd hc) st (by have : n ≤ i := hg; omega) fun h' eb => ⟨rfl, I.turned (t' := s.toks) (fun b o hb e => eb b o hb e) f0 f1 f3 f4 f5⟩
  self := fun _ _ _ _ _ st h => wpAny_pyIter_rangeiter st h
end L2
namespace L2
open PySem PySem.Spec PyProof.Rows
section
variable {X : Cx} {tg : Expr}
def iList (K : PySem.W.Frag) (tl : TE) : TI := fun σ H R => tl σ H fun x H1 => ∃ a, x = .ref a ∧ (∃ xs, SqL K H1 a xs) ∧ R (Itl K a) H1
def iTup (K : PySem.W.Frag) (tl : TE) : TI := fun σ H R => tl σ H fun x H1 => ∃ a, x = .ref a ∧ (∃ xs, SqT K H1 a xs) ∧ R (Itt K a) H1
theorem pi_list {l : Expr} {tl : TE} (hl : PE X l tl) : PI X tg l (iList X.K tl) := by
  intro pins s σ H R I h
  refine thn (hl pins s σ H _ I h) fun v s1 ⟨x, H1, I1, r1, q1⟩ => ?_
  obtain ⟨a, e, ⟨xs, hq⟩, q⟩ := q1
  subst e
  cases r1
  obtain ⟨its, rv, p, hz⟩ := I1.list hq
  refine wpAny_pyIter_list p.isList ?_
  refine ⟨s1.heap.objs.size, [s1.heap.objs.size], _, _, H1, rfl, I1.kept (t' := s1.toks) fun b o e => Heap.get?_push_of_some _ e, turn_list a _, ⟨_, Heap.get?_push_size _ rfl, rfl, rfl⟩, fun b hb => ?_, q⟩
  have e : b = s1.heap.objs.size := by simpa using hb
  subst e
  exact I1.fpOk (Nat.le_refl _) (I1.hok.fresh (Nat.le_refl _))
theorem pi_tup {l : Expr} {tl : TE} (hl : PE X l tl) : PI X tg l (iTup X.K tl) := by
  intro pins s σ H R I h
  refine thn (hl pins s σ H _ I h) fun v s1 ⟨x, H1, I1, r1, q1⟩ => ?_
  obtain ⟨a, e, ⟨xs, hq⟩, q⟩ := q1
  subst e
  cases r1
  obtain ⟨its, rv, p, hz⟩ := I1.tuple hq
  refine wpAny_pyIter_tuple (show s1.heap.IsTuple a its.toArray from p) ?_
  refine ⟨s1.heap.objs.size, [s1.heap.objs.size], _, _, H1, rfl, I1.kept (t' := s1.toks) fun b o e => Heap.get?_push_of_some _ e, turn_tuple a _, ⟨_, Heap.get?_push_size _ rfl, rfl, rfl⟩, fun b hb => ?_, q⟩
  have e : b = s1.heap.objs.size := by simpa using hb
  subst e
  exact I1.fpOk (Nat.le_refl _) (I1.hok.fresh (Nat.le_refl _))
theorem range_it {pins : List (Addr × Obj)} {σ : St} {H : Hp} {s : Shared} {R : It → Hp → Prop} {E : Value → Shared → Prop} {lo hi : Int} {t u v : Tok} {tk : Nat} (I : Inv X pins σ H s) (h1 : -(2 ^ 62) ≤ lo) (h2 : lo < 2 ^ 62) (h3 : -(2 ^ 62) ≤ hi) (h4 : hi < 2 ^ 62)
    (q : R (Itr lo (hi - lo).toNat) H) : wpAny (model X.prog X.w) X.A (pyIter (.ref s.heap.objs.size)) (PIE X pins σ tg R) E { s with heap := s.heap.push { cls := .type "range", data := .fields #[.int lo t, .int hi u, .int 1 v] }, toks := tk } := by
  refine wpAny_pyIter_range (IsRange.new ..) (small_one h1 h2 h3 h4) ?_
  have I1 : Inv X pins σ H { s with heap := s.heap.push { cls := .type "range", data := .fields #[.int lo t, .int hi u, .int 1 v] }, toks := tk } := I.kept fun b o e => Heap.get?_push_of_some _ e
  refine ⟨(s.heap.push { cls := .type "range", data := .fields #[.int lo t, .int hi u, .int 1 v] }).objs.size, [(s.heap.push { cls := .type "range", data := .fields #[.int lo t, .int hi u, .int 1 v] }).objs.size], _, _, H, rfl,
    I1.kept (t' := tk) fun b o e => Heap.get?_push_of_some _ e, turn_range _ lo (hi - lo).toNat, ?_, fun b hb => ?_, q⟩
  · have e1 : lo + ((0 : Nat) : Int) * 1 = lo := by simp
    have e2 : (((hi - lo).toNat : Nat) : Int) - ((0 : Nat) : Int) = Builtin.Range.rangeSize lo hi 1 := by rw [rangeSize_one]; split <;> omega
    show IsRangeIter _ _ (lo + ((0 : Nat) : Int) * 1) ((((hi - lo).toNat : Nat) : Int) - ((0 : Nat) : Int)) 1
    rw [e1, e2]
    exact Heap.get?_push_size _ rfl
  · have e : b = (s.heap.push { cls := .type "range", data := .fields #[.int lo t, .int hi u, .int 1 v] }).objs.size := by simpa using hb
    subst e
    exact I1.fpOk (Nat.le_refl _) (I1.hok.fresh (Nat.le_refl _))
def iRng1 (ta : TA) : TI := fun σ H R => ta σ H fun vs H1 => ∃ j : Int, vs = [.int j] ∧ -(2 ^ 62) ≤ j ∧ j < 2 ^ 62 ∧ R (Itr 0 j.toNat) H1
theorem pi_range1 {a : Expr} {ta : TA} {p pos : Pos} (hg : Gl X "range") (hm : X.mg "range" = none) (ha : PA X [a] ta) (hs : starEach [a] X.env = [(false, eval a X.env)] := by rfl) : PI X tg (.Call (.Name "range" p) [a] [] pos) (iRng1 ta) := by
  intro pins s σ H R I h
  refine Call_ (ld_blt I hg hm boot_range (PyProof.Rows.callWith_type1 (thn (ha pos pins s σ H _ I h) fun us s1 ⟨vs, H1, I1, r1, q1⟩ => ?_) hs rfl))
  obtain ⟨j, e, q1, q2, q⟩ := q1
  subst e
  cases r1 with
  | cons r rr =>
    cases rr
    obtain ⟨t, rfl⟩ := r
    exact call_range_1 (range_it I1 (by omega) (by omega) q1 q2 (by simpa using q))
def tFor (wi : TI) (g : TG) (tb : TS) : TS := fun D σ H => wi σ H fun J H1 => ∃ W : Nat → Nat → St → Hp → Prop, (∃ m, W 0 m σ H1) ∧ ∀ i m σ H, W i m σ H →
  (J.stop i H ∧ D.nx σ H) ∨ (J.go i H ∧ ∃ N : St → Hp → Prop, (∀ σ' H', N σ' H' → ∃ m', m' < m ∧ W (i + 1) m' σ' H') ∧ ∀ x H', J.yld i H x H' → g x σ H' fun σ2 H2 => tb { D with nx := N, ct := N, bk := D.nx } σ2 H2)
def pinsAt (fp : List Addr) (h : Heap) : List (Addr × Obj) := fp.filterMap fun b => (h.get? b).map fun o => (b, o)
theorem mem_pinsAt {fp : List Addr} {h : Heap} {b : Addr} {o : Obj} (hb : b ∈ fp) (e : h.get? b = some o) : (b, o) ∈ pinsAt fp h := List.mem_filterMap.mpr ⟨b, hb, by rw [e]; rfl⟩
theorem of_pinsAt {fp : List Addr} {h : Heap} {p : Addr × Obj} (hp : p ∈ pinsAt fp h) : p.1 ∈ fp ∧ h.get? p.1 = some p.2 := by
  obtain ⟨b, hb, e⟩ := List.mem_filterMap.mp hp
  cases q : h.get? b with
  | none => rw [q] at e; cases e
  | some o =>
    rw [q] at e
    have e' : (b, o) = p := Option.some.inj e
    subst e'
    exact ⟨hb, q⟩
theorem Inv.pinned {pins : List (Addr × Obj)} {σ : St} {H : Hp} {s : Shared} {fp : List Addr} (I : Inv X pins σ H s) (hf : ∀ b ∈ fp, FpOk X pins H b) (ho : ∀ b ∈ fp, ∃ o, s.heap.get? b = some o ∧ ∀ v, o.data ≠ .cell v) : Inv X (pins ++ pinsAt fp s.heap) σ H s :=
  I.pins_of fun p hp => (List.mem_append.mp hp).elim (fun z => I.pin p (List.mem_append_right _ z)) fun z => by
    obtain ⟨hb, e⟩ := of_pinsAt z
    obtain ⟨f0, f1, f2, _⟩ := hf p.1 hb
    obtain ⟨o, e', d⟩ := ho p.1 hb
    rw [e] at e'; cases e'
    exact ⟨e, f0, f1, f2, d⟩
theorem Inv.unpinned {pins pl : List (Addr × Obj)} {σ : St} {H : Hp} {s : Shared} (I : Inv X (pins ++ pl) σ H s) : Inv X pins σ H s := I.pins_of fun p hp => I.pin p (List.mem_append_right _ (List.mem_append_left _ hp))
theorem ps_for {iter : Expr} {body : List Stmt} {wi : TI} {g : TG} {tb : TS} {pos : Pos} (hp : PassesOwn (model X.prog X.w) X.A X.env X.xe) (hc : X.calm = true) (hi : PI X tg iter wi) (hg : PG X tg g) (hb : PSs X body tb)
    (hs : ∀ x, foldedSetIterable iter X.env x = pure x := by intro _; rfl) : PS X (.For tg iter body [] pos) (tFor wi g tb) := by
  intro pins s σ H D I h
  refine wpAny_For (thn (hi pins s σ H _ I h) fun v s1 h1 => thn h1 fun itv s2 h2 => ?_) hs
  obtain ⟨it, fp, tn, J, H2, e, I2, T, st2, f2, W, ⟨m0, w0⟩, turn⟩ := h2
  subst e
  have stat : ∀ {H' : Hp}, (∀ b ∈ fp, H' b = none) → ∀ b ∈ fp, FpOk X pins H' b := fun hn b hb => ⟨hn b hb, (f2 b hb).2⟩
  refine codeAny_forLoop_any (fun n s' => ∃ i σ' H', Inv X pins σ' H' s' ∧ tn i s'.heap ∧ (∀ b ∈ fp, H' b = none) ∧ W i n σ' H') ?_ m0 ⟨0, σ, H2, I2, st2, fun b hb => (f2 b hb).1, w0⟩
  rintro n s3 ⟨i, σ3, H3, I3, st3, fr3, w3⟩
  rcases turn i n σ3 H3 w3 with ⟨stop, qn⟩ | ⟨go, N, hN, step⟩
  · refine wpAny_passesOwn hp (thn (T.done X rfl rfl rfl hc i pins s3 σ3 H3 X.xe I3 (stat fr3) st3 stop) fun r s4 ⟨hr, I4⟩ => ?_)
    subst hr
    exact wpAny_execs_nil ⟨σ3, H3, I4, qn⟩
  · refine wpAny_passesOwn hp (thn (T.item X rfl rfl rfl hc i pins s3 σ3 H3 X.xe I3 (stat fr3) st3 go) fun r s4 ⟨u, hr, h4⟩ => ?_)
    subst hr
    refine wpAny_passesOwn hp (thn h4 fun _ s5 ⟨x, H5, I5, r5, y5, st5, fr5⟩ => ?_)
    have I5' := I5.pinned (stat fr5) (T.obj _ _ st5)
    refine wpAny_passesOwn hp (thn (hg _ s5 σ3 H5 x u _ I5' r5 (step x H5 y5)) fun _ s6 ⟨σ6, H6, I6, q6⟩ => ?_)
    refine wpAny_passesOwn hp (thn (hb _ s6 σ6 H6 _ I6 q6) fun f s7 q7 => ?_)
    have again : ∀ {σ7 : St} {H7 : Hp}, Inv X (pins ++ pinsAt fp s5.heap) σ7 H7 s7 → N σ7 H7 → ∃ m, m < n ∧ ∃ i σ' H', Inv X pins σ' H' s7 ∧ tn i s7.heap ∧ (∀ b ∈ fp, H' b = none) ∧ W i m σ' H' := fun {σ7 H7} I7 n7 => by
      obtain ⟨m', hm, w7⟩ := hN σ7 H7 n7
      refine ⟨m', hm, i + 1, σ7, H7, I7.unpinned, T.keep _ _ _ st5 fun b hb o e => (I7.pin (b, o) (List.mem_append_right _ (List.mem_append_right _ (mem_pinsAt hb e)))).1, fun b hb => ?_, w7⟩
      obtain ⟨o, e, d⟩ := T.obj _ _ st5 b hb
      exact (I7.pin (b, o) (List.mem_append_right _ (List.mem_append_right _ (mem_pinsAt hb e)))).2.1
    cases f with
    | next => obtain ⟨σ7, H7, I7, n7⟩ := q7; exact again I7 n7
    | cont => obtain ⟨σ7, H7, I7, n7⟩ := q7; exact again I7 n7
    | brk => obtain ⟨σ7, H7, I7, q7⟩ := q7; exact ⟨σ7, H7, I7.unpinned, q7⟩
    | ret v => obtain ⟨x7, σ7, H7, I7, r7, q7⟩ := q7; exact ⟨x7, σ7, H7, I7.unpinned, r7, q7⟩
end
theorem for_list {K : PySem.W.Frag} {a : Addr} {xs : List V} {g : TG} {tb : TS} {D : Ends} {σ : St} {H : Hp} (Pv : Nat → St → Hp → Prop) (h0 : Pv 0 σ H) (hl : ∀ i σ H, i ≤ xs.length → Pv i σ H → SqL K H a xs)
    (hs : ∀ i x σ H, xs[i]? = some x → Pv i σ H → g x σ H fun σ2 H2 => tb { D with nx := Pv (i + 1), ct := Pv (i + 1), bk := D.nx } σ2 H2) (hd : ∀ σ H, Pv xs.length σ H → D.nx σ H) :
    ∃ W : Nat → Nat → St → Hp → Prop, (∃ m, W 0 m σ H) ∧ ∀ i m σ H, W i m σ H →
      ((Itl K a).stop i H ∧ D.nx σ H) ∨ ((Itl K a).go i H ∧ ∃ N : St → Hp → Prop, (∀ σ' H', N σ' H' → ∃ m', m' < m ∧ W (i + 1) m' σ' H') ∧ ∀ x H', (Itl K a).yld i H x H' → g x σ H' fun σ2 H2 => tb { D with nx := N, ct := N, bk := D.nx } σ2 H2) := by
  refine ⟨fun i m σ H => m = xs.length - i ∧ i ≤ xs.length ∧ Pv i σ H, ⟨xs.length, by simp, Nat.zero_le _, h0⟩, ?_⟩
  rintro i m σ H ⟨rfl, hi, p⟩
  have q := hl i σ H hi p
  by_cases hlt : i < xs.length
  · refine .inr ⟨⟨xs, xs[i], q, by simp [hlt]⟩, Pv (i + 1), fun σ' H' p' => ⟨xs.length - (i + 1), by omega, rfl, hlt, p'⟩, fun x H' y => ?_⟩
    obtain ⟨e, y⟩ := y
    subst e
    exact hs i x σ _ (y xs q) p
  · have e : i = xs.length := by omega
    subst e
    exact .inl ⟨⟨xs, q, Nat.le_refl _⟩, hd σ H p⟩
theorem for_tup {K : PySem.W.Frag} {a : Addr} {xs : List V} {g : TG} {tb : TS} {D : Ends} {σ : St} {H : Hp} (Pv : Nat → St → Hp → Prop) (h0 : Pv 0 σ H) (hl : ∀ i σ H, i ≤ xs.length → Pv i σ H → SqT K H a xs)
    (hs : ∀ i x σ H, xs[i]? = some x → Pv i σ H → g x σ H fun σ2 H2 => tb { D with nx := Pv (i + 1), ct := Pv (i + 1), bk := D.nx } σ2 H2) (hd : ∀ σ H, Pv xs.length σ H → D.nx σ H) :
    ∃ W : Nat → Nat → St → Hp → Prop, (∃ m, W 0 m σ H) ∧ ∀ i m σ H, W i m σ H →
      ((Itt K a).stop i H ∧ D.nx σ H) ∨ ((Itt K a).go i H ∧ ∃ N : St → Hp → Prop, (∀ σ' H', N σ' H' → ∃ m', m' < m ∧ W (i + 1) m' σ' H') ∧ ∀ x H', (Itt K a).yld i H x H' → g x σ H' fun σ2 H2 => tb { D with nx := N, ct := N, bk := D.nx } σ2 H2) := by
  refine ⟨fun i m σ H => m = xs.length - i ∧ i ≤ xs.length ∧ Pv i σ H, ⟨xs.length, by simp, Nat.zero_le _, h0⟩, ?_⟩
  rintro i m σ H ⟨rfl, hi, p⟩
  have q := hl i σ H hi p
  by_cases hlt : i < xs.length
  · refine .inr ⟨⟨xs, xs[i], q, by simp [hlt]⟩, Pv (i + 1), fun σ' H' p' => ⟨xs.length - (i + 1), by omega, rfl, hlt, p'⟩, fun x H' y => ?_⟩
    obtain ⟨e, y⟩ := y
    subst e
    exact hs i x σ _ (y xs q) p
  · have e : i = xs.length := by omega
    subst e
    exact .inl ⟨⟨xs, q, Nat.le_refl _⟩, hd σ H p⟩
theorem for_range {lo : Int} {n : Nat} {g : TG} {tb : TS} {D : Ends} {σ : St} {H : Hp} (Pv : Nat → St → Hp → Prop) (h0 : Pv 0 σ H)
    (hs : ∀ i σ H, i < n → Pv i σ H → g (.int (lo + i)) σ H fun σ2 H2 => tb { D with nx := Pv (i + 1), ct := Pv (i + 1), bk := D.nx } σ2 H2) (hd : ∀ σ H, Pv n σ H → D.nx σ H) :
    ∃ W : Nat → Nat → St → Hp → Prop, (∃ m, W 0 m σ H) ∧ ∀ i m σ H, W i m σ H →
      ((Itr lo n).stop i H ∧ D.nx σ H) ∨ ((Itr lo n).go i H ∧ ∃ N : St → Hp → Prop, (∀ σ' H', N σ' H' → ∃ m', m' < m ∧ W (i + 1) m' σ' H') ∧ ∀ x H', (Itr lo n).yld i H x H' → g x σ H' fun σ2 H2 => tb { D with nx := N, ct := N, bk := D.nx } σ2 H2) := by
  refine ⟨fun i m σ H => m = n - i ∧ i ≤ n ∧ Pv i σ H, ⟨n, by simp, Nat.zero_le _, h0⟩, ?_⟩
  rintro i m σ H ⟨rfl, hi, p⟩
  by_cases hlt : i < n
  · refine .inr ⟨hlt, Pv (i + 1), fun σ' H' p' => ⟨n - (i + 1), by omega, rfl, hlt, p'⟩, fun x H' y => ?_⟩
    obtain ⟨e, y⟩ := y
    subst e y
    exact hs i σ _ hlt p
  · have e : i = n := by omega
    subst e
    exact .inl ⟨Nat.le_refl _, hd σ H p⟩
end L2
namespace L2
open PySem PySem.Spec PyProof.Rows
abbrev R2 := V → V → Hp → VK → Prop
def OpR (X : Cx) (f : Value → Value → Sem Value) (r : R2) : Prop :=
  ∀ (pins : List (Addr × Obj)) (s : Shared) (σ : St) (H : Hp) (x y : V) (v u : Value) (Q : VK), Inv X pins σ H s → RelV x v → RelV y u → r x y H Q →
    wpAny (model X.prog X.w) X.A (f v u) (EP X pins σ Q) X.xe s
def UnR (X : Cx) (f : Value → Sem Value) (r : V → Hp → VK → Prop) : Prop :=
  ∀ (pins : List (Addr × Obj)) (s : Shared) (σ : St) (H : Hp) (x : V) (v : Value) (Q : VK), Inv X pins σ H s → RelV x v → r x H Q →
    wpAny (model X.prog X.w) X.A (f v) (EP X pins σ Q) X.xe s
def CallR (X : Cx) (f : Value) (r : List V → Hp → VK → Prop) : Prop :=
  ∀ (pins : List (Addr × Obj)) (s : Shared) (σ : St) (H : Hp) (xs : List V) (us : List Value) (Q : VK), Inv X pins σ H s → Vals xs us → r xs H Q →
    wpAny (model X.prog X.w) X.A (call f us) (EP X pins σ Q) X.xe s
def TruR (X : Cx) (r : V → Hp → (Bool → Hp → Prop) → Prop) : Prop :=
  ∀ (pins : List (Addr × Obj)) (s : Shared) (σ : St) (H : Hp) (x : V) (v : Value) (Q : Bool → Hp → Prop), Inv X pins σ H s → RelV x v → r x H Q →
    wpAny (model X.prog X.w) X.A (truthy v) (TP X pins σ Q) X.xe s
def tOp (r : R2) (ta tb : TE) : TE := fun σ H Q => ta σ H fun x H1 => tb σ H1 fun y H2 => r x y H2 Q
def tUn (r : V → Hp → VK → Prop) (ta : TE) : TE := fun σ H Q => ta σ H fun x H1 => r x H1 Q
def rI (C : Int → Int → Prop) (g : Int → Int → V) : R2 := fun x y H Q => ∃ i j, x = .int i ∧ y = .int j ∧ C i j ∧ Q (g i j) H
def rI0 (g : Int → Int → V) : R2 := fun x y H Q => ∃ i j, x = .int i ∧ y = .int j ∧ Q (g i j) H
def rU (g : Int → V) : V → Hp → VK → Prop := fun x H Q => ∃ i, x = .int i ∧ Q (g i) H
section
variable {X : Cx} {a b c : Expr} {ta tb tc : TE} {pos : Pos}
theorem binT (ha : PE X a ta) (hb : PE X b tb) {pins : List (Addr × Obj)} {s : Shared} {σ : St} {H : Hp} {R : V → V → Hp → Prop} (I : Inv X pins σ H s)
    (h : ta σ H fun x H1 => tb σ H1 fun y H2 => R x y H2) {Q : Value → Shared → Prop} {f : Value → Value → Sem Value}
    (hf : ∀ v u s2 x y H2, Inv X pins σ H2 s2 → RelV x v → RelV y u → R x y H2 → wpAny (model X.prog X.w) X.A (f v u) Q X.xe s2) :
    wpAny (model X.prog X.w) X.A (eval a X.env) (fun v s₁ => wpAny (model X.prog X.w) X.A (eval b X.env) (fun u s₂ => wpAny (model X.prog X.w) X.A (f v u) Q X.xe s₂) X.xe s₁) X.xe s := by
  refine thn (ha pins s σ H _ I h) fun v s1 ⟨x, H1, I1, r1, q1⟩ => ?_
  refine thn (hb pins s1 σ H1 _ I1 q1) fun u s2 ⟨y, H2, I2, r2, q2⟩ => ?_
  exact hf v u s2 x y H2 I2 r1 r2 q2
theorem pe_op {op : Operator} {r : R2} (ho : OpR X (binaryOp op) r) (ha : PE X a ta) (hb : PE X b tb) : PE X (.BinOp a op b pos) (tOp r ta tb) := by
  intro pins s σ H Q I h
  exact wpAny_BinOp (binT ha hb I h fun v u s2 x y H2 I2 rx ry q => ho pins s2 σ H2 x y v u Q I2 rx ry q)
theorem pe_un {op : UnaryOp} {r : V → Hp → VK → Prop} (ho : UnR X (unaryOp op) r) (ha : PE X a ta) : PE X (.UnaryOp op a pos) (tUn r ta) := by
  intro pins s σ H Q I h
  exact UnaryOp_ (thn (ha pins s σ H _ I h) fun v s1 ⟨x, H1, I1, r1, q1⟩ => ho pins s1 σ H1 x v Q I1 r1 q1)
theorem opI {f : Value → Value → Sem Value} {C : Int → Int → Prop} {g : Int → Int → Int}
    (rule : ∀ (i j : Int) (t u : Tok) (s : Shared) (Q : Value → Shared → Prop) (E : Value → Shared → Prop), C i j → Q (.int (g i j) s.toks) { s with toks := s.toks + 1 } → wpAny (model X.prog X.w) X.A (f (.int i t) (.int j u)) Q E s) :
    OpR X f (rI C fun i j => .int (g i j)) := by
  intro pins s σ H x y v u Q I rx ry h
  obtain ⟨i, j, rfl, rfl, hc, q⟩ := h
  obtain ⟨t, rfl⟩ := rx
  obtain ⟨t', rfl⟩ := ry
  exact rule i j t t' s _ _ hc ⟨.int (g i j), H, I.tok _, ⟨_, rfl⟩, q⟩
theorem opI0 {f : Value → Value → Sem Value} {g : Int → Int → Int}
    (rule : ∀ (i j : Int) (t u : Tok) (s : Shared) (Q : Value → Shared → Prop) (E : Value → Shared → Prop), Q (.int (g i j) s.toks) { s with toks := s.toks + 1 } → wpAny (model X.prog X.w) X.A (f (.int i t) (.int j u)) Q E s) :
    OpR X f (rI0 fun i j => .int (g i j)) := by
  intro pins s σ H x y v u Q I rx ry h
  obtain ⟨i, j, rfl, rfl, q⟩ := h
  obtain ⟨t, rfl⟩ := rx
  obtain ⟨t', rfl⟩ := ry
  exact rule i j t t' s _ _ ⟨.int (g i j), H, I.tok _, ⟨_, rfl⟩, q⟩
theorem opB0 {f : Value → Value → Sem Value} {g : Int → Int → Bool}
    (rule : ∀ (i j : Int) (t u : Tok) (s : Shared) (Q : Value → Shared → Prop) (E : Value → Shared → Prop), Q (.bool (g i j)) s → wpAny (model X.prog X.w) X.A (f (.int i t) (.int j u)) Q E s) :
    OpR X f (rI0 fun i j => .bl (g i j)) := by
  intro pins s σ H x y v u Q I rx ry h
  obtain ⟨i, j, rfl, rfl, q⟩ := h
  obtain ⟨t, rfl⟩ := rx
  obtain ⟨t', rfl⟩ := ry
  exact rule i j t t' s _ _ ⟨.bl (g i j), H, I, rfl, q⟩
def CDiv (i j : Int) : Prop := 0 < j ∧ j < 1073741824
def CPow (i j : Int) : Prop := 0 ≤ j ∧ j ≤ 1000000 ∧ i.natAbs < 2 ^ 64
def CMul (i j : Int) : Prop := (-(2 ^ 64) < i ∧ i < 2 ^ 64) ∨ (-(2 ^ 64) < j ∧ j < 2 ^ 64)
theorem CMul.ok {i j : Int} (h : CMul i j) : IntMulOk i j := by
  rcases h with ⟨h1, h2⟩ | ⟨h1, h2⟩
  · exact .of_left (intBits_le_64 h1 h2)
  · exact .of_right (intBits_le_64 h1 h2)
theorem op_add : OpR X (binaryOp .Add) (rI0 fun i j => .int (i + j)) := opI0 fun _ _ _ _ _ _ _ q => add_int q
theorem op_sub : OpR X (binaryOp .Sub) (rI0 fun i j => .int (i - j)) := opI0 fun _ _ _ _ _ _ _ q => sub_int q
theorem op_mul : OpR X (binaryOp .Mult) (rI CMul fun i j => .int (i * j)) := opI fun _ _ _ _ _ _ _ hc q => mul_int q hc.ok
theorem op_fdiv : OpR X (binaryOp .FloorDiv) (rI CDiv fun i j => .int (i / j)) := opI fun i j _ _ _ _ _ hc q => by
  have h1 : (0 : Int) < j := hc.1
  have h2 : j < 1073741824 := hc.2
  exact floordiv_int (by omega) (by rw [Int.fdiv_eq_ediv_of_nonneg i (by omega)]; exact q) (.inl (PyProof.noPylong_small (by omega)))
theorem op_mod : OpR X (binaryOp .Mod) (rI (fun _ j => 0 < j) fun i j => .int (i % j)) := opI fun i j _ _ _ _ _ hc q => by
  have h1 : (0 : Int) < j := hc
  exact mod_int' (by omega) (by rw [Int.fmod_eq_emod_of_nonneg i (by omega)]; exact q)
theorem op_pow : OpR X (binaryOp .Pow) (rI CPow fun i j => .int (i ^ j.toNat)) := opI fun _ _ _ _ _ _ _ hc q => pow_int_small hc.1 hc.2.1 hc.2.2 q
theorem unI {f : Value → Sem Value} {g : Int → Int}
    (rule : ∀ (i : Int) (t : Tok) (s : Shared) (Q : Value → Shared → Prop) (E : Value → Shared → Prop), Q (.int (g i) s.toks) { s with toks := s.toks + 1 } → wpAny (model X.prog X.w) X.A (f (.int i t)) Q E s) :
    UnR X f (rU fun i => .int (g i)) := by
  intro pins s σ H x v Q I rx h
  obtain ⟨i, rfl, q⟩ := h
  obtain ⟨t, rfl⟩ := rx
  exact rule i t s _ _ ⟨.int (g i), H, I.tok _, ⟨_, rfl⟩, q⟩
theorem un_neg : UnR X (unaryOp .USub) (rU fun i => .int (-i)) := unI fun _ _ _ _ _ q => neg_int q
end
def scal : V → V → Bool
  | .non, .non => true | .non, .int _ => true | .int _, .non => true | .non, .bl _ => true | .bl _, .non => true | .non, .str _ => true | .str _, .non => true
  | .int _, .int _ => true | .bl _, .bl _ => true | .str _, .str _ => true | .byt _, .byt _ => true
  | .int _, .str _ => true | .str _, .int _ => true | .bl _, .str _ => true | .str _, .bl _ => true
  | _, _ => false
def rEq : R2 := fun x y H Q => scal x y = true ∧ Q (.bl (decide (x = y))) H
def rNe : R2 := fun x y H Q => scal x y = true ∧ Q (.bl (!decide (x = y))) H
theorem dec_int {i j : Int} : decide (V.int i = V.int j) = (i == j) := by
  rw [Bool.eq_iff_iff]
  simp
theorem dec_bl {i j : Bool} : decide (V.bl i = V.bl j) = (i == j) := by
  rw [Bool.eq_iff_iff]
  simp
theorem dec_str {i j : Str} : decide (V.str i = V.str j) = (i == j) := by
  rw [Bool.eq_iff_iff]
  simp
theorem dec_byt {i j : Array UInt8} : decide (V.byt i = V.byt j) = (i.toList == j.toList) := by
  rw [Bool.eq_iff_iff]
  cases i
  cases j
  simp
section
variable {X : Cx} {a b c : Expr} {ta tb tc : TE} {pos : Pos}
theorem fin_bl {pins : List (Addr × Obj)} {σ : St} {H : Hp} {s : Shared} {Q : VK} {k k' : Bool} (I : Inv X pins σ H s) (q : Q (.bl k) H) (e : k = k') : EP X pins σ Q (.bool k') s := by
  subst e
  exact ⟨.bl k, H, I, rfl, q⟩
theorem op_eq : OpR X (compareOp .Eq) rEq := by
  intro pins s σ H x y v u Q I rx ry h
  obtain ⟨hs, q⟩ := h
  cases x with
  | non =>
    cases rx
    cases y with
    | non => cases ry; exact PySem.EqNone.eq_none_none (fin_bl I q (by simp))
    | bl j => cases ry; exact PySem.EqNone.eq_none_bool (fin_bl I q (by simp))
    | int j => obtain ⟨t', rfl⟩ := ry; exact PySem.EqNone.eq_none_int (fin_bl I q (by simp))
    | str j => obtain ⟨t', rfl⟩ := ry; exact PySem.EqNone.eq_none_str (fin_bl I q (by simp))
    | _ => exact absurd (show false = true from hs) Bool.false_ne_true
  | bl i =>
    cases rx
    cases y with
    | non => cases ry; exact PySem.EqNone.eq_bool_none (fin_bl I q (by simp))
    | bl j => cases ry; exact eq_bool (fin_bl I q dec_bl)
    | str j => obtain ⟨t', rfl⟩ := ry; exact PySem.EqMixed.eq_bool_str (fin_bl I q (by simp))
    | _ => exact absurd (show false = true from hs) Bool.false_ne_true
  | int i =>
    obtain ⟨t, rfl⟩ := rx
    cases y with
    | non => cases ry; exact PySem.EqNone.eq_int_none (fin_bl I q (by simp))
    | int j => obtain ⟨t', rfl⟩ := ry; exact eq_int (fin_bl I q dec_int)
    | str j => obtain ⟨t', rfl⟩ := ry; exact PySem.EqMixed.eq_int_str (fin_bl I q (by simp))
    | _ => exact absurd (show false = true from hs) Bool.false_ne_true
  | str i =>
    obtain ⟨t, rfl⟩ := rx
    cases y with
    | non => cases ry; exact PySem.EqNone.eq_str_none (fin_bl I q (by simp))
    | bl j => cases ry; exact PySem.EqMixed.eq_str_bool (fin_bl I q (by simp))
    | int j => obtain ⟨t', rfl⟩ := ry; exact PySem.EqMixed.eq_str_int (fin_bl I q (by simp))
    | str j => obtain ⟨t', rfl⟩ := ry; exact eq_str (fin_bl I q dec_str)
    | _ => exact absurd (show false = true from hs) Bool.false_ne_true
  | byt i =>
    obtain ⟨t, rfl⟩ := rx
    cases y with
    | byt j => obtain ⟨t', rfl⟩ := ry; exact PySem.W.eq_bytes (fin_bl I q dec_byt)
    | _ => exact absurd (show false = true from hs) Bool.false_ne_true
  | _ => cases y <;> exact absurd (show false = true from hs) Bool.false_ne_true
theorem op_ne : OpR X (compareOp .NotEq) rNe := by
  intro pins s σ H x y v u Q I rx ry h
  obtain ⟨hs, q⟩ := h
  cases x with
  | non =>
    cases rx
    cases y with
    | non => cases ry; exact PySem.EqNone.ne_none_none (fin_bl I q (by simp))
    | bl j => cases ry; exact PySem.EqNone.ne_none_bool (fin_bl I q (by simp))
    | int j => obtain ⟨t', rfl⟩ := ry; exact PySem.EqNone.ne_none_int (fin_bl I q (by simp))
    | str j => obtain ⟨t', rfl⟩ := ry; exact PySem.EqNone.ne_none_str (fin_bl I q (by simp))
    | _ => exact absurd (show false = true from hs) Bool.false_ne_true
  | bl i =>
    cases rx
    cases y with
    | non => cases ry; exact PySem.EqNone.ne_bool_none (fin_bl I q (by simp))
    | bl j => cases ry; exact ne_bool (fin_bl I q (congrArg not dec_bl))
    | str j => obtain ⟨t', rfl⟩ := ry; exact PySem.EqMixed.ne_bool_str (fin_bl I q (by simp))
    | _ => exact absurd (show false = true from hs) Bool.false_ne_true
  | int i =>
    obtain ⟨t, rfl⟩ := rx
    cases y with
    | non => cases ry; exact PySem.EqNone.ne_int_none (fin_bl I q (by simp))
    | int j => obtain ⟨t', rfl⟩ := ry; exact ne_int (fin_bl I q (congrArg not dec_int))
    | str j => obtain ⟨t', rfl⟩ := ry; exact PySem.EqMixed.ne_int_str (fin_bl I q (by simp))
    | _ => exact absurd (show false = true from hs) Bool.false_ne_true
  | str i =>
    obtain ⟨t, rfl⟩ := rx
    cases y with
    | non => cases ry; exact PySem.EqNone.ne_str_none (fin_bl I q (by simp))
    | bl j => cases ry; exact PySem.EqMixed.ne_str_bool (fin_bl I q (by simp))
    | int j => obtain ⟨t', rfl⟩ := ry; exact PySem.EqMixed.ne_str_int (fin_bl I q (by simp))
    | str j => obtain ⟨t', rfl⟩ := ry; exact ne_str (fin_bl I q (congrArg not dec_str))
    | _ => exact absurd (show false = true from hs) Bool.false_ne_true
  | byt i =>
    obtain ⟨t, rfl⟩ := rx
    cases y with
    | byt j => obtain ⟨t', rfl⟩ := ry; exact PySem.W.ne_bytes (fin_bl I q (congrArg not dec_byt))
    | _ => exact absurd (show false = true from hs) Bool.false_ne_true
  | _ => cases y <;> exact absurd (show false = true from hs) Bool.false_ne_true
theorem op_lt : OpR X (compareOp .Lt) (rI0 fun i j => .bl (decide (i < j))) := opB0 fun _ _ _ _ _ _ _ q => lt_int q
theorem op_le : OpR X (compareOp .LtE) (rI0 fun i j => .bl (decide (i ≤ j))) := opB0 fun _ _ _ _ _ _ _ q => le_int q
theorem op_gt : OpR X (compareOp .Gt) (rI0 fun i j => .bl (decide (j < i))) := opB0 fun _ _ _ _ _ _ _ q => gt_int q
theorem op_in_str : OpR X (compareOp .In) (fun x y H Q => ∃ i j, x = .str i ∧ y = .str j ∧ Q (.bl (!(Builtin.Str.occurrences j i 0 j.length 1).isEmpty)) H) := by
  intro pins s σ H x y v u Q I rx ry h
  obtain ⟨i, j, rfl, rfl, q⟩ := h
  obtain ⟨t, rfl⟩ := rx
  obtain ⟨t', rfl⟩ := ry
  exact in_str (fin_bl I q rfl)
theorem nomark (b : Expr) {op : CmpOp} (h : op ≠ .In := by decide) (h2 : op ≠ .NotIn := by decide) : behindInMarks op b = false := by
  have e1 : (op == CmpOp.In) = false := by cases op <;> first | rfl | exact absurd rfl h
  have e2 : (op == CmpOp.NotIn) = false := by cases op <;> first | rfl | exact absurd rfl h2
  cases b <;> simp [behindInMarks, e1, e2]
theorem pe_cmpR {op : CmpOp} {r : R2} (ho : OpR X (compareOp op) r) (ha : PE X a ta) (hb : PE X b tb) (hm : behindInMarks op b = false) : PE X (.Compare a [op] [b] pos) (tOp r ta tb) := by
  intro pins s σ H Q I h
  exact wpAny_Compare1 (binT ha hb I h fun v u s2 x y H2 I2 rx ry q => ho pins s2 σ H2 x y v u Q I2 rx ry q) hm
def tTest (t : TE) : TT := fun σ H Q => t σ H fun x H' => ∃ k, x = .bl k ∧ Q k H'
theorem pt_cmpR {op : CmpOp} {r : R2} (ho : OpR X (compareOp op) r) (ha : PE X a ta) (hb : PE X b tb) (hm : behindInMarks op b = false) : PT X (.Compare a [op] [b] pos) (tTest (tOp r ta tb)) := by
  intro pins s σ H Q I h
  refine wpAny_isTrue_Compare1 (thn (ha pins s σ H _ I h) fun v s1 ⟨x, H1, I1, r1, q1⟩ => thn (hb pins s1 σ H1 _ I1 q1) fun u s2 ⟨y, H2, I2, r2, q2⟩ =>
    thn (ho pins s2 σ H2 x y v u _ I2 r1 r2 q2) fun c s3 ⟨z, H3, I3, r3, k, e, q3⟩ => ?_) hm
  subst e
  cases r3
  exact wpAny_truthy_bool ⟨H3, I3, q3⟩
def tChain (r r' : R2) (ta tb tc : TE) : TE := fun σ H Q => ta σ H fun x H1 => tb σ H1 fun y H2 => r x y H2 fun z H3 => ∃ k, z = .bl k ∧
  (if k = true then tc σ H3 fun w' H4 => r' y w' H4 Q else Q (.bl false) H3)
theorem pt_chain {op op' : CmpOp} {r r' : R2} (ho : OpR X (compareOp op) r) (ho' : OpR X (compareOp op') r') (ha : PE X a ta) (hb : PE X b tb) (hc : PE X c tc)
    (hm : lastMarks [op, op'] [b, c] = false := by with_unfolding_all rfl) : PT X (.Compare a [op, op'] [b, c] pos) (tTest (tChain r r' ta tb tc)) := by
  intro pins s σ H Q I h
  refine isTrue_chain (thn (ha pins s σ H _ I h) fun v s1 ⟨x, H1, I1, r1, q1⟩ => test_link (thn (hb pins s1 σ H1 _ I1 q1) fun u s2 ⟨y, H2, I2, r2, q2⟩ =>
    thn (ho pins s2 σ H2 x y v u _ I2 r1 r2 q2) fun d s3 ⟨z, H3, I3, r3, k, e, q3⟩ => ?_)) hm
  subst e
  cases r3
  refine wpAny_truthy_bool ?_
  cases k with
  | false =>
    obtain ⟨k', e', q'⟩ := q3
    cases e'
    exact ite_ff ⟨H3, I3, q'⟩
  | true =>
    refine ite_tt (test_last (thn (hc pins s3 σ H3 _ I3 q3) fun w' s4 ⟨z', H4, I4, r4, q4⟩ => thn (ho' pins s4 σ H4 y z' u w' _ I4 r2 r4 q4) fun d' s5 ⟨z2, H5, I5, r5, k2, e2, q5⟩ => ?_))
    subst e2
    cases r5
    exact wpAny_truthy_bool ⟨H5, I5, q5⟩
def TruV (K : PySem.W.Frag) (x : V) (H : Hp) (k : Bool) : Prop :=
  match x with
  | .non => k = false
  | .bl b => k = b
  | .int i => k = (i != 0)
  | .str y => y.length ≤ sizeLine ∧ k = ((y.length : Int) != 0)
  | .byt y => y.size ≤ sizeLine ∧ k = ((y.size : Int) != 0)
  | .ref p => (∃ xs, SqL K H p xs ∧ k = !xs.isEmpty) ∨ (∃ xs, SqT K H p xs ∧ k = !xs.isEmpty) ∨ ∃ kvs, H p = some (.dK kvs) ∧ k = !kvs.isEmpty
  | _ => False
theorem isEmpty_kv {κ : Type} {kvs : List (κ × V)} {vs : List (κ × Value)} (r : KV kvs vs) : (!vs.isEmpty) = !kvs.isEmpty := by
  cases r <;> rfl
theorem isEmpty_of {xs : List V} {its : List Value} (r : Vals xs its) : (!its.toArray.isEmpty) = !xs.isEmpty := by
  cases r <;> simp
theorem line63 : (sizeLine : Nat) < 2 ^ 63 := by rw [sizeLine_eq]; decide
theorem tru_ok : TruR X (fun x H Q => ∃ k, TruV X.K x H k ∧ Q k H) := by
  intro pins s σ H x v Q I rx h
  obtain ⟨k, e, q⟩ := h
  have hl := line63
  have hs : sizeLine = 16777216 := sizeLine_eq
  cases x with
  | non =>
    cases rx
    have e' : k = false := e
    subst e'
    exact truthy_none ⟨H, I, q⟩
  | bl b =>
    cases rx
    have e' : k = b := e
    subst e'
    exact wpAny_truthy_bool ⟨H, I, q⟩
  | int i =>
    obtain ⟨t, rfl⟩ := rx
    have e' : k = (i != 0) := e
    subst e'
    exact PySem.P.truthy_int ⟨H, I, q⟩
  | str y =>
    obtain ⟨t, rfl⟩ := rx
    obtain ⟨hy, e'⟩ : y.length ≤ sizeLine ∧ k = ((y.length : Int) != 0) := e
    subst e'
    exact PySem.P.truthy_str (by omega) ⟨H, I.tok _, q⟩
  | byt y =>
    obtain ⟨t, rfl⟩ := rx
    obtain ⟨hy, e'⟩ : y.size ≤ sizeLine ∧ k = ((y.size : Int) != 0) := e
    subst e'
    exact PySem.W.truthy_bytes (by omega) ⟨H, I.tok _, q⟩
  | ref p =>
    cases rx
    have e' : (∃ xs, SqL X.K H p xs ∧ k = !xs.isEmpty) ∨ (∃ xs, SqT X.K H p xs ∧ k = !xs.isEmpty) ∨ ∃ kvs, H p = some (.dK kvs) ∧ k = !kvs.isEmpty := e
    rcases e' with ⟨xs, hx, e'⟩ | ⟨xs, hx, e'⟩ | ⟨kvs, hx, e'⟩
    · subst e'
      obtain ⟨its, r, pl, hz⟩ := I.list hx
      have hlen := r.length
      exact wpAny_truthy_list pl.isList (by simp only [List.size_toArray]; omega) ⟨H, I.tok _, by rw [isEmpty_of r]; exact q⟩
    · subst e'
      obtain ⟨its, r, pl, hz⟩ := I.tuple hx
      have hlen := r.length
      exact truthy_tuple pl (by simp only [List.size_toArray]; omega) ⟨H, I.tok _, by rw [isEmpty_of r]; exact q⟩
    · subst e'
      obtain ⟨hz, hS, vs, r, m⟩ : kvs.length ≤ sizeLine ∧ (p == sysModules) = false ∧ ∃ vs, KV kvs vs ∧ s.heap.DictOf (mixKind X.prog X.w) p vs := I.hok p _ hx
      have hlen : kvs.length = vs.length := Paired.length r
      exact wpAny_truthy_dict hS m (by omega) ⟨H, I.tok _, by rw [isEmpty_kv r]; exact q⟩
  | _ => exact (show False from e).elim
theorem pt_truth (ha : PE X a ta) (he : ∀ whole, isTrue a X.env whole = (do let v ← whole; standAt a.pos; holding [v] (truthy v))) :
    PT X a (fun σ H Q => ta σ H fun x H' => ∃ k, TruV X.K x H' k ∧ Q k H') := by
  intro pins s σ H Q I h
  exact isTrue_plain (thn (ha pins s σ H _ I h) fun v s1 ⟨x, H1, I1, r1, q1⟩ => tru_ok pins s1 σ H1 x v Q I1 r1 q1) (he _)
theorem op_add_str : OpR X (binaryOp .Add) (fun x y H Q => ∃ i j, x = .str i ∧ y = .str j ∧ i.length + j.length ≤ sizeLine ∧ Q (.str (i ++ j)) H) := by
  intro pins s σ H x y v u Q I rx ry h
  obtain ⟨i, j, rfl, rfl, hz, q⟩ := h
  obtain ⟨t, rfl⟩ := rx
  obtain ⟨t', rfl⟩ := ry
  exact add_str (fun t' tk => ⟨.str (i ++ j), H, I.tok _, ⟨_, rfl⟩, q⟩) hz
theorem vals1 {x : V} {us : List Value} (r : Vals [x] us) : ∃ u, us = [u] ∧ RelV x u := by
  cases r with
  | cons r1 r2 => cases r2; exact ⟨_, rfl, r1⟩
theorem vals2 {x y : V} {us : List Value} (r : Vals [x, y] us) : ∃ u w', us = [u, w'] ∧ RelV x u ∧ RelV y w' := by
  cases r with
  | cons r1 r2 =>
    cases r2 with
    | cons r3 r4 => cases r4; exact ⟨_, _, rfl, r1, r3⟩
theorem call_max2 (hc : X.calm = true) : CallR X (.builtin "max") (fun xs H Q => ∃ i j, xs = [.int i, .int j] ∧ Q (.int (if j > i then j else i)) H) := by
  intro pins s σ H xs us Q I r h
  obtain ⟨i, j, rfl, q⟩ := h
  obtain ⟨u, w', rfl, ⟨t, rfl⟩, ⟨t', rfl⟩⟩ := vals2 r
  refine max_two_ints (I.ok.hd hc) fun h' tk k => ⟨_, H, I.kept k, ?_, q⟩
  by_cases hj : j > i
  · rw [if_pos hj, if_pos hj]; exact ⟨_, rfl⟩
  · rw [if_neg hj, if_neg hj]; exact ⟨_, rfl⟩
theorem call_min2 (hc : X.calm = true) : CallR X (.builtin "min") (fun xs H Q => ∃ i j, xs = [.int i, .int j] ∧ Q (.int (if j < i then j else i)) H) := by
  intro pins s σ H xs us Q I r h
  obtain ⟨i, j, rfl, q⟩ := h
  obtain ⟨u, w', rfl, ⟨t, rfl⟩, ⟨t', rfl⟩⟩ := vals2 r
  refine min_two_ints (I.ok.hd hc) fun h' tk k => ⟨_, H, I.kept k, ?_, q⟩
  by_cases hj : j < i
  · rw [if_pos hj, if_pos hj]; exact ⟨_, rfl⟩
  · rw [if_neg hj, if_neg hj]; exact ⟨_, rfl⟩
end
end L2
namespace L2
open PySem PySem.Spec PyProof.Rows
structure ObjM (h : Heap) (x dx C : Addr) (mA : Str → Option Value) : Prop where
  obj : h.get? x = some (PySem.W.instObj C dx)
  ns : h.Ns1 dx mA
  ne : dx ≠ x
theorem lookIn_ns {h : Heap} {dx : Addr} {mA : Str → Option Value} (n : h.Ns1 dx mA) : ∃ od, h.get? dx = some od ∧ ∀ name, PySem.W.lookIn name od = some (mA name) := by
  obtain ⟨o, es, ep, ho, hd, hk, _, hm⟩ := n
  refine ⟨o, ho, fun name => ?_⟩
  have e := hm name
  unfold nsFind findBy at e
  rw [← Array.find?_toList] at e
  unfold PySem.W.lookIn
  rw [hd]
  dsimp only
  split
  · rename_i y q
    rw [q] at e
    exact congrArg some e
  · rename_i q
    rw [q] at e
    have a : es.toList.any (·.refKey) = false := by
      rw [List.any_eq_false]
      intro y hy
      obtain ⟨z, t, hkey⟩ := hk y (Array.mem_toList_iff.mp hy)
      simp [DictEntry.refKey, hkey]
    have a' : ¬ es.toList.any (·.refKey) = true := by rw [a]; exact Bool.false_ne_true
    rw [if_neg a']
    exact congrArg some e
theorem ObjM.look {h : Heap} {x dx C : Addr} {mA : Str → Option Value} (I : ObjM h x dx C mA) : ∃ od, PySem.W.InstAt h x (PySem.W.instObj C dx) C (some od) ∧ ∀ name, PySem.W.lookIn name od = some (mA name) :=
  let ⟨od, ho, hl⟩ := lookIn_ns I.ns
  ⟨od, ⟨I.obj, rfl, rfl, ho⟩, hl⟩
section
variable {prog : Program} {w : World} {A : Around} {E : Value → Shared → Prop} {s : Shared} {K : PySem.W.Frag} {x dx C f : Addr} {mA : Str → Option Value} {name : Str} {v : Value}
theorem get_map {expr : Bool} {Q : Value → Shared → Prop} (X : K.In s.heap) (I : ObjM s.heap x dx C mA) (hg : PySem.W.plainGet K C name = true) (hh : PySem.W.hasDictIn K C = true)
    (ha : PySem.W.findIn K (.ref C) name = some none) (hv : mA name = some v) (hv' : PySem.W.handedIn v = true) (h : Q v { s with toks := s.toks + 1 }) :
    wpAny (model prog w) A (getAttr (.ref x) name expr) Q E s := by
  obtain ⟨od, J, hl⟩ := I.look
  exact PySem.W.get_value X J (PySem.W.plainGet_of hg).1 (PySem.W.findObj_own hh ha rfl (by rw [hl, hv])) hv' h
theorem get_meth {pl : Sem Bool} {Q : Value × List Value → Shared → Prop} (X : K.In s.heap) (I : ObjM s.heap x dx C mA) (hg : PySem.W.plainGet K C name = true)
    (hf : PySem.W.findIn K (.ref C) name = some (some (.ref f))) (ht : PySem.W.isFn K (.ref f) = true) (hv : mA name = none) (h : Q (.ref f, [.ref x]) s) :
    wpAny (model prog w) A (getMethod (.ref x) name pl) Q E s := by
  obtain ⟨od, J, hl⟩ := I.look
  exact PySem.W.method_fn X J (PySem.W.plainGet_of hg).1 (PySem.W.plainGet_of hg).2 hf (beq_iff_eq.mp ht) (by show (PySem.W.lookIn name od).map (·.isSome) = some false; rw [hl, hv]; rfl) h
theorem set_map {ns : List Str} {Q : Unit → Shared → Prop} (X : K.In s.heap) (I : ObjM s.heap x dx C mA)
    (hs : PySem.W.findIn K (.ref C) "__setattr__" = some (some (.builtin "object.__setattr__"))) (hp : PySem.W.plainOver K C = true) (ht : PySem.W.takerIn K C name = some none) (hh : PySem.W.hasDictIn K C = true)
    (hw : PySem.Within mA ns) (hsz : ns.length ≤ sizeLine)
    (h : ∀ h', ObjM h' x dx C (fun y => if y = name then some v else mA y) → Heap.SameBut dx s.heap h' → Q () { s with heap := h', toks := s.toks + 2 }) :
    wpAny (model prog w) A (setAttr (.ref x) name v) Q E s := by
  obtain ⟨od, J, hl⟩ := I.look
  refine PySem.W.set_plain X J hs (PySem.W.osa_open (s := { s with toks := s.toks + 1 }) (r := none) X J hp ht fun b => ?_)
  obtain ⟨cd, hc, hd'⟩ := PySem.W.any_some hh
  have hx : s.heap.get? x = some ⟨.ref C, some dx, .plain, #[]⟩ := I.obj
  refine wpAny_bind (wpAny_pure (wpAny_bind (wpAny_bind (wpAny_loadPart hx (wpAny_bind (PySem.W.Looks.here (s := { s with toks := s.toks + 1 }) (PySem.W.looks_clsIn X hc) ?_))))))
  rw [hd']
  refine wpAny_pure (a := some dx) (wpAny_bind (wpAny_pure (wpAny_bind ?_)))
  refine wpAny_nsSet1 (s := { s with toks := s.toks + 1 }) I.ns fun h' hn2 hs2 => ?_
  obtain ⟨oD, esD, epD, hoD, hdD, hcD⟩ := hn2.count (PySem.Within.cons name v hw)
  refine wpAny_bind (wpAny_lookBehind hoD (by rw [hdD]; exact pastItsLine_dict (Nat.le_trans hcD (by rw [List.length_cons]; omega))) ?_)
  exact wpAny_pure (h _ ⟨(hs2.2 _ (Ne.symm I.ne)).trans I.obj, hn2, I.ne⟩ hs2)
theorem make_map {R : Result → Shared → Prop} {vs : List Value} {kw : List (Str × Value)} (X : K.In s.heap) (hm : PySem.W.makesIn K C = true)
    (hi : PySem.W.findIn K (.ref C) "__init__" = some (some (.ref f))) (hf : PySem.W.typeIn K (.ref f) = some (.type "function"))
    (h : codeAny (model prog w) (A.under (.builtin "type.__call__" ⟨.ref C :: vs, kw⟩)) (.call (.ref f) ⟨.ref (s.heap.objs.size + 1) :: vs, kw⟩) (PySem.W.InitBack (s.heap.objs.size + 1) R)
      { s with heap := (s.heap.push PySem.W.emptyDict).push (PySem.W.instObj C s.heap.objs.size) }) :
    codeAny (model prog w) A (.call (.ref C) ⟨vs, kw⟩) R s := by
  obtain ⟨hh, g, d, t, os⟩ := s
  exact PySem.W.make_core (PySem.W.makes_of X hm) (PySem.W.looks_findIn X hi) (fun self => PySem.W.bind_fn X self hf) (.inl rfl) h
end
def putF (f : Str) (v : V) : List (Str × V) → List (Str × V)
  | [] => [(f, v)]
  | (g, x) :: r => if g = f then (g, v) :: r else (g, x) :: putF f v r
theorem lookup_putF (f g : Str) (v : V) : ∀ fs : List (Str × V), (putF f v fs).lookup g = if g = f then some v else fs.lookup g
  | [] => by
    show List.lookup g [(f, v)] = _
    by_cases h : g = f
    · have hb : (g == f) = true := beq_iff_eq.mpr h
      simp only [List.lookup, hb, if_pos h]
    · have hb : (g == f) = false := beq_eq_false_iff_ne.mpr h
      simp only [List.lookup, hb, if_neg h]
  | (k, x) :: r => by
    have ih := lookup_putF f g v r
    rw [show putF f v ((k, x) :: r) = (if k = f then (k, v) :: r else (k, x) :: putF f v r) from rfl]
    by_cases hk : k = f
    · rw [if_pos hk]
      by_cases h : g = k
      · have hb : (g == k) = true := beq_iff_eq.mpr h
        simp only [List.lookup, hb, if_pos (h.trans hk)]
      · have hb : (g == k) = false := beq_eq_false_iff_ne.mpr h
        simp only [List.lookup, hb, if_neg (fun e : g = f => h (e.trans hk.symm))]
    · rw [if_neg hk]
      by_cases h : g = k
      · have hb : (g == k) = true := beq_iff_eq.mpr h
        simp only [List.lookup, hb, if_neg (fun e : g = f => hk (h.symm.trans e))]
      · have hb : (g == k) = false := beq_eq_false_iff_ne.mpr h
        simp only [List.lookup, hb]
        exact ih
theorem keys_putF (f : Str) (v : V) : ∀ fs : List (Str × V), f ∈ (putF f v fs).map (·.1) ∧ ∀ g, g ∈ fs.map (·.1) → g ∈ (putF f v fs).map (·.1)
  | [] => ⟨by simp [putF], fun g h => by simp at h⟩
  | (k, x) :: r => by
    obtain ⟨i1, i2⟩ := keys_putF f v r
    rw [show putF f v ((k, x) :: r) = (if k = f then (k, v) :: r else (k, x) :: putF f v r) from rfl]
    by_cases hk : k = f
    · rw [if_pos hk]
      subst hk
      exact ⟨by simp, fun g h => by simpa using h⟩
    · rw [if_neg hk]
      refine ⟨?_, fun g h => ?_⟩
      · rw [List.map_cons]
        exact List.mem_cons_of_mem _ i1
      · rw [List.map_cons] at h ⊢
        rcases List.mem_cons.mp h with e | e
        · exact List.mem_cons.mpr (.inl e)
        · exact List.mem_cons_of_mem _ (i2 g e)
theorem length_putF (f : Str) (v : V) : ∀ fs : List (Str × V), (putF f v fs).length ≤ fs.length + 1
  | [] => by simp [putF]
  | (k, x) :: r => by
    have ih := length_putF f v r
    rw [show putF f v ((k, x) :: r) = (if k = f then (k, v) :: r else (k, x) :: putF f v r) from rfl]
    by_cases hk : k = f
    · rw [if_pos hk, List.length_cons, List.length_cons]; omega
    · rw [if_neg hk, List.length_cons, List.length_cons]; omega
theorem RelO.some_of {v : V} {o : Option Value} (r : RelO (some v) o) : ∃ u, o = some u ∧ RelV v u := by
  cases o with
  | none => exact (show False from r).elim
  | some u => exact ⟨u, rfl, r⟩
theorem RelO.none_of {o : Option Value} (r : RelO none o) : o = none := by
  cases o with
  | none => rfl
  | some u => exact (show False from r).elim
theorem handed_of {v : V} {u : Value} (r : RelV v u) : PySem.W.handedIn u = true := by
  cases v with
  | non => cases (show u = Value.none from r); rfl
  | bl b => cases (show u = Value.bool b from r); rfl
  | int i => obtain ⟨t, e⟩ := (show ∃ t, u = Value.int i t from r); cases e; rfl
  | str x => obtain ⟨t, e⟩ := (show ∃ t, u = Value.str x t from r); cases e; rfl
  | byt b => obtain ⟨t, e⟩ := (show ∃ t, u = Value.bytes b t from r); cases e; rfl
  | flt b => obtain ⟨t, e⟩ := (show ∃ t, u = Value.float b t from r); cases e; rfl
  | ref a => cases (show u = Value.ref a from r); rfl
  | ty n => cases (show u = Value.type n from r); rfl
section
variable {P : Program} {w : World} {H H' : Hp} {h h' : Heap} {a C dx : Addr} {fs fs' : List (Str × V)}
theorem ins_get (hok : HOk P w H h) (e : H a = some (.ins C dx fs)) : ∃ mA, ObjM h a dx C mA ∧ (∀ f, RelO (fs.lookup f) (mA f)) ∧ PySem.Within mA (fs.map (·.1)) ∧ fs.length ≤ 1000 ∧ H dx = some (.own a) := by
  obtain ⟨d, z, ne, ob, mA, n, r, q⟩ := (show ObjOk P w H h a (.ins C dx fs) from hok a _ e)
  exact ⟨mA, ⟨ob, n, ne⟩, r, q, z, d⟩
end
structure Cls (K : PySem.W.Frag) (C : Addr) : Prop where
  pg : PySem.W.plainGet K C Str.empty = true
  hd : PySem.W.hasDictIn K C = true
  po : PySem.W.plainOver K C = true
  sa : PySem.W.findIn K (.ref C) "__setattr__" = some (some (.builtin "object.__setattr__"))
theorem Cls.get {K : PySem.W.Frag} {C : Addr} (c : Cls K C) (f : Str) : PySem.W.plainGet K C f = true := c.pg
def NoAttr (K : PySem.W.Frag) (C : Addr) (f : Str) : Prop := PySem.W.findIn K (.ref C) f = some none
theorem NoAttr.taker {K : PySem.W.Frag} {C : Addr} {f : Str} (n : NoAttr K C f) : PySem.W.takerIn K C f = some none := by
  unfold PySem.W.takerIn
  rw [show PySem.W.findIn K (.ref C) f = some none from n]
  rfl
structure Meth (K : PySem.W.Frag) (C : Addr) (m : Str) (f : Addr) : Prop where
  at_ : PySem.W.findIn K (.ref C) m = some (some (.ref f))
  fn : PySem.W.isFn K (.ref f) = true
  kp : PySem.W.keepIn K (.ref f) = true
section
variable {X : Cx} {pins : List (Addr × Obj)} {σ : St} {H : Hp} {s : Shared} {a C dx : Addr} {fs : List (Str × V)} {f : Str} {v : V} {A : Around} {E : Value → Shared → Prop}
theorem getattr_ok {b : Bool} {Q : Value → Shared → Prop} (I : Inv X pins σ H s) (e : H a = some (.ins C dx fs)) (c : Cls X.K C) (n : NoAttr X.K C f) (l : fs.lookup f = some v)
    (h : ∀ u s', Inv X pins σ H s' → RelV v u → Q u s') : wpAny (model X.prog X.w) A (getAttr (.ref a) f b) Q E s := by
  obtain ⟨mA, O, r, _, _, _⟩ := ins_get I.hok e
  obtain ⟨u, hu, ru⟩ := RelO.some_of (v := v) (o := mA f) (by rw [← l]; exact r f)
  exact get_map I.kIn O (c.get f) c.hd n hu (handed_of ru) (h u _ (I.tok _) ru)
theorem getmeth_ok {m : Str} {g : Addr} {pl : Sem Bool} {Q : Value × List Value → Shared → Prop} (I : Inv X pins σ H s) (e : H a = some (.ins C dx fs)) (c : Cls X.K C) (k : Meth X.K C m g) (l : fs.lookup m = none)
    (h : Q (.ref g, [.ref a]) s) : wpAny (model X.prog X.w) A (getMethod (.ref a) m pl) Q E s := by
  obtain ⟨mA, O, r, _, _, _⟩ := ins_get I.hok e
  have hn : mA m = none := RelO.none_of (by rw [← l]; exact r m)
  exact get_meth I.kIn O (c.get m) k.at_ k.fn hn h
theorem setattr_ok {y : V} {u : Value} {Q : Unit → Shared → Prop} (I : Inv X pins σ H s) (e : H a = some (.ins C dx fs)) (c : Cls X.K C) (n : NoAttr X.K C f) (hl : fs.length < 1000) (ry : RelV y u)
    (h : ∀ s', Inv X pins σ (upd H a (.ins C dx (putF f y fs))) s' → Q () s') : wpAny (model X.prog X.w) A (setAttr (.ref a) f u) Q E s := by
  obtain ⟨mA, O, r, wi, _, ho⟩ := ins_get I.hok e
  have hz : (fs.map (·.1)).length ≤ sizeLine := by rw [List.length_map, sizeLine_eq]; omega
  refine set_map I.kIn O c.sa c.po n.taker c.hd wi hz fun h' O' sb => h _ ?_
  have hd : ∃ o, h'.get? dx = some o := let ⟨o, _, _, e', _⟩ := O'.ns; ⟨o, e'⟩
  refine I.write (x := a) (e := dx) (by rw [e]; exact True.intro) (.inr ho) (fun b q hb z => (sb.2 b hb).trans z) hd ?_
  refine ⟨by rw [upd_ne O.ne]; exact ho, ?_, O.ne, O'.obj, _, O'.ns, fun g => ?_, fun g hg => ?_⟩
  · have := length_putF f y fs; omega
  · show RelO ((putF f y fs).lookup g) (if g = f then some u else mA g)
    rw [lookup_putF]
    by_cases q : g = f
    · rw [if_pos q, if_pos q]; exact ry
    · rw [if_neg q, if_neg q]; exact r g
  · by_cases q : g = f
    · rw [q]; exact (keys_putF f y fs).1
    · refine (keys_putF f y fs).2 g (wi g fun z => hg ?_)
      show (if g = f then some u else mA g) = none
      rw [if_neg q]; exact z
theorem Inv.made (I : Inv X pins σ H s) : Inv X pins σ (upd (upd H s.heap.objs.size (.own (s.heap.objs.size + 1))) (s.heap.objs.size + 1) (.ins C s.heap.objs.size []))
    { s with heap := (s.heap.push PySem.W.emptyDict).push (PySem.W.instObj C s.heap.objs.size) } := by
  have e1 : (s.heap.push PySem.W.emptyDict).get? s.heap.objs.size = some PySem.W.emptyDict := Heap.get?_push_size s.heap rfl
  have e2 : ((s.heap.push PySem.W.emptyDict).push (PySem.W.instObj C s.heap.objs.size)).get? (s.heap.objs.size + 1) = some (PySem.W.instObj C s.heap.objs.size) := by
    have := Heap.get?_push_size (s.heap.push PySem.W.emptyDict) (o := PySem.W.instObj C s.heap.objs.size) rfl
    rwa [Heap.size_push] at this
  have e3 : (s.heap.push PySem.W.emptyDict).Ns s.heap.objs.size (fun _ => none) := ⟨PySem.W.emptyDict, #[], _, e1, rfl, (fun e he => absurd he (by simp)), fun _ => rfl⟩
  have I1 := I.laid (a := s.heap.objs.size) (o := .own (s.heap.objs.size + 1)) (h' := s.heap.push PySem.W.emptyDict) (t' := s.toks) (fun b u q => Heap.get?_push_of_some _ q) (Nat.le_refl _) ⟨_, e1⟩
  refine I1.laid (a := s.heap.objs.size + 1) (o := .ins C s.heap.objs.size []) (t' := s.toks) (fun b u q => Heap.get?_push_of_some _ q) (Nat.le_of_eq (Heap.size_push _ _)) ?_
  have ne : s.heap.objs.size ≠ s.heap.objs.size + 1 := Nat.ne_of_lt (Nat.lt_succ_self _)
  refine ⟨by rw [upd_ne ne, upd_same], Nat.zero_le _, ne, e2, fun _ => none, (Heap.Ns1.of_empty e3).at fun o q => Heap.get?_push_of_some _ q, fun _ => True.intro, fun y hy => absurd rfl hy⟩
theorem attr_of {prog : Program} {w : World} {env : Env} {e : Expr} {f : Str} {pos : Pos} {s : Shared} {Q : Value → Shared → Prop} (hb : attributeBase e f env (eval e env) = eval e env)
    (h : wpAny (model prog w) A (eval e env) (fun o s₁ => wpAny (model prog w) A (getAttr o f true) Q E s₁) E s) : wpAny (model prog w) A (eval (.Attribute e f pos) env) Q E s :=
  Attribute_any_ h (by rw [arm_eval_Attribute, hb])
end
def tFld (K : PySem.W.Frag) (ta : TE) (f : Str) : TE := fun σ H Q => ta σ H fun x H1 => ∃ a C dx fs v, x = .ref a ∧ H1 a = some (.ins C dx fs) ∧ Cls K C ∧ NoAttr K C f ∧ fs.lookup f = some v ∧ Q v H1
def sFld (K : PySem.W.Frag) (ta tv : TE) (f : Str) : TS := fun D σ H => tv σ H fun y H1 => ta σ H1 fun x H2 => ∃ a C dx fs, x = .ref a ∧ H2 a = some (.ins C dx fs) ∧ Cls K C ∧ NoAttr K C f ∧ fs.length < 1000 ∧
  D.nx σ (upd H2 a (.ins C dx (putF f y fs)))
def InOp (X : Cx) (op : Operator) (rd : V → V → Hp → VK → Prop) : Prop :=
  ∀ (pins : List (Addr × Obj)) (s : Shared) (σ : St) (H : Hp) (x y : V) (u v : Value) (Q : VK), Inv X pins σ H s → RelV x u → RelV y v → rd x y H Q → wpAny (model X.prog X.w) X.A (inplaceOp op u v) (EP X pins σ Q) X.xe s
def sFldAug (K : PySem.W.Frag) (ta tv : TE) (rd : V → V → Hp → VK → Prop) (f : Str) : TS := fun D σ H => ta σ H fun x H1 => ∃ a C dx fs v, x = .ref a ∧ H1 a = some (.ins C dx fs) ∧ Cls K C ∧ NoAttr K C f ∧ fs.lookup f = some v ∧
  tv σ H1 fun y H2 => rd v y H2 fun z H3 => ∃ dx' fs', H3 a = some (.ins C dx' fs') ∧ fs'.length < 1000 ∧ D.nx σ (upd H3 a (.ins C dx' (putF f z fs')))
section
variable {X : Cx} {o e value : Expr} {f : Str} {pos pos' tpos : Pos} {ta tv : TE}
theorem pe_fld (he : PE X e ta) (hb : attributeBase e f X.env (eval e X.env) = eval e X.env) : PE X (.Attribute e f pos) (tFld X.K ta f) := by
  intro pins s σ H Q I h
  refine attr_of hb (thn (he pins s σ H _ I h) fun u s1 ⟨x, H1, I1, rx, a, C, dx, fs, v, ex, ea, c, n, l, q⟩ => ?_)
  subst ex
  obtain rfl : u = Value.ref a := rx
  exact getattr_ok I1 ea c n l fun u' s2 I2 ru => ⟨v, H1, I2, ru, q⟩
theorem ps_fld (ha : PE X o ta) (hv : PE X value tv) (hs : swapsWith value (some (.Attribute o f pos')) pos.line X.env = pure false) : PS X (.Assign [.Attribute o f pos'] value pos) (sFld X.K ta tv f) := by
  intro pins s σ H D I h
  refine plainObj_wpAny_Assign_Attribute (thn (hv pins s σ H _ I h) fun u s1 ⟨y, H1, I1, ry, q⟩ => thn (ha pins s1 σ H1 _ I1 q) fun ov s2 ⟨x, H2, I2, rx, a, C, dx, fs, ex, ea, c, n, l, q2⟩ => ?_) hs
  subst ex
  obtain rfl : ov = Value.ref a := rx
  exact setattr_ok I2 ea c n l ry fun s3 I3 => ⟨σ, _, I3, q2⟩
theorem ps_fldaug {op : Operator} {rd : V → V → Hp → VK → Prop} (ha : PE X o ta) (hv : PE X value tv) (hop : InOp X op rd) : PS X (.AugAssign (.Attribute o f tpos) op value pos) (sFldAug X.K ta tv rd f) := by
  intro pins s σ H D I h
  refine wpAny_AugAssign_AttributeAny (thn (ha pins s σ H _ I h) fun ov s1 ⟨x, H1, I1, rx, a, C, dx, fs, v, ex, ea, c, n, l, q⟩ => ?_)
  subst ex
  obtain rfl : ov = Value.ref a := rx
  refine getattr_ok I1 ea c n l fun u s2 I2 ru => thn (hv pins s2 σ H1 _ I2 q) fun w3 s3 ⟨y, H2, I3, ry, q3⟩ => thn (hop pins s3 σ H2 v y u w3 _ I3 ru ry q3) fun w4 s4 ⟨z, H3, I4, rz, dx', fs', ea', l', q4⟩ => ?_
  exact setattr_ok I4 ea' c n l' rz fun s5 I5 => ⟨σ, _, I5, q4⟩
def rAdd : V → V → Hp → VK → Prop := fun x y H Q => ∃ i j, x = .int i ∧ y = .int j ∧ Q (.int (i + j)) H
theorem in_add : InOp X .Add rAdd := by
  rintro pins s σ H x y u v Q I rx ry ⟨i, j, rfl, rfl, q⟩
  obtain ⟨t, rfl⟩ := (show ∃ t, u = Value.int i t from rx)
  obtain ⟨t', rfl⟩ := (show ∃ t', v = Value.int j t' from ry)
  exact PyProof.Rows.iadd_int ⟨.int (i + j), H, I.tok _, ⟨_, rfl⟩, q⟩
end
section
variable {X : Cx} {pins : List (Addr × Obj)} {σ : St} {H : Hp} {s : Shared} {A : Around} {E : Value → Shared → Prop} {Q : Value → Shared → Prop} {c : Value} {b : Bool}
inductive TyOf (K : PySem.W.Frag) (H : Hp) : V → Value → Prop where
  | non : TyOf K H .non (.type "NoneType")
  | bl (x : Bool) : TyOf K H (.bl x) (.type "bool")
  | int (i : Int) : TyOf K H (.int i) (.type "int")
  | str (x : Str) : TyOf K H (.str x) (.type "str")
  | flt (x : UInt64) : TyOf K H (.flt x) (.type "float")
  | lst {a : Addr} {xs : List V} (e : H a = some (.lst xs)) : TyOf K H (.ref a) (.type "list")
  | frz {a : Addr} {o : Obj} {xs : List V} (e : H a = some (.frz o (.lst xs))) : TyOf K H (.ref a) (.type "list")
  | tup {a : Addr} {xs : List V} (e : H a = some (.tup xs)) : TyOf K H (.ref a) (.type "tuple")
  | dK {a : Addr} {kvs : List (Key × V)} (e : H a = some (.dK kvs)) : TyOf K H (.ref a) (.type "dict")
  | dT {a : Addr} {kvs : List (List Key × V)} (e : H a = some (.dT kvs)) : TyOf K H (.ref a) (.type "dict")
  | ins {a C dx : Addr} {fs : List (Str × V)} (e : H a = some (.ins C dx fs)) (cl : Cls K C) (ha : PySem.W.findIn K (.ref C) "__class__" = some (some (.builtin "object.__class__")))
      (hn : PySem.W.specialIn K (.builtin "object.__class__") "__get__" = some (some (.builtin "getset_descriptor.__get__"))) (htk : PySem.W.takesIn K (.builtin "object.__class__") = some true)
      (hm : PySem.W.mroIn K C (.type "object") = some true) : TyOf K H (.ref a) (.ref C)
theorem isinst_ok {x : V} {u t : Value} (I : Inv X pins σ H s) (rx : RelV x u) (ty : TyOf X.K H x t) (e : PySem.W.kitOne X.K t c = some b) (h : ∀ tk, Q (.bool b) { s with toks := tk }) :
    wpAny (model X.prog X.w) A (call (.builtin "isinstance") [u, c]) Q E s := by
  cases ty with
  | non => cases (show u = Value.none from rx); exact PySem.W.kia_one PySem.W.kitx_none I.kIn True.intro e (fun z => nomatch z) h
  | bl y => cases (show u = Value.bool y from rx); exact PySem.W.kia_one PySem.W.kitx_bool I.kIn True.intro e (fun z => nomatch z) h
  | int i => obtain ⟨t, q⟩ := (show ∃ t, u = Value.int i t from rx); cases q; exact PySem.W.kia_one PySem.W.kitx_int I.kIn True.intro e (fun z => nomatch z) h
  | str y => obtain ⟨t, q⟩ := (show ∃ t, u = Value.str y t from rx); cases q; exact PySem.W.kia_one PySem.W.kitx_str I.kIn True.intro e (fun z => nomatch z) h
  | flt y => obtain ⟨t, q⟩ := (show ∃ t, u = Value.float y t from rx); cases q; exact PySem.W.kia_one PySem.W.kitx_float I.kIn True.intro e (fun z => nomatch z) h
  | @lst a xs ea =>
    cases (show u = Value.ref a from rx)
    obtain ⟨_, _, n, _, h1⟩ := (show ObjOk X.prog X.w H s.heap a (.lst xs) from I.hok a _ ea)
    exact PySem.W.kia_one PySem.W.kitx_list I.kIn ⟨_, h1, rfl⟩ e (fun z => nomatch z) h
  | @frz a ob xs ea =>
    cases (show u = Value.ref a from rx)
    obtain ⟨_, _, _, n, _, h1⟩ := (show ObjOk X.prog X.w H s.heap a (.frz ob (.lst xs)) from I.hok a _ ea)
    exact PySem.W.kia_one PySem.W.kitx_list I.kIn ⟨_, h1, rfl⟩ e (fun z => nomatch z) h
  | @tup a xs ea =>
    cases (show u = Value.ref a from rx)
    obtain ⟨_, _, _, p⟩ := (show ObjOk X.prog X.w H s.heap a (.tup xs) from I.hok a _ ea)
    obtain ⟨o, h1, h2, _⟩ := p
    exact PySem.W.kia_one PySem.W.kitx_tuple I.kIn ⟨o, h1, h2⟩ e (fun z => nomatch z) h
  | @dK a kvs ea =>
    cases (show u = Value.ref a from rx)
    obtain ⟨_, _, vs, _, p⟩ := (show ObjOk X.prog X.w H s.heap a (.dK kvs) from I.hok a _ ea)
    obtain ⟨o, es, ep, h1, h2, _⟩ := p
    exact PySem.W.kia_one PySem.W.kitx_dict I.kIn ⟨o, h1, h2.1⟩ e (fun z => nomatch z) h
  | @dT a kvs ea =>
    cases (show u = Value.ref a from rx)
    obtain ⟨_, _, xs, _, o, es, ep, h1, h2, _⟩ := (show ObjOk X.prog X.w H s.heap a (.dT kvs) from I.hok a _ ea)
    exact PySem.W.kia_one PySem.W.kitx_dict I.kIn ⟨o, h1, h2.1⟩ e (fun z => nomatch z) h
  | @ins a C dx fs ea cl ha hn htk hm =>
    cases (show u = Value.ref a from rx)
    obtain ⟨mA, O, _⟩ := ins_get I.hok ea
    obtain ⟨od, J, _⟩ := O.look
    exact PySem.W.kia_one (PySem.W.kitx_own (cl.get _) cl.hd ha hn htk hm) I.kIn J e (fun z => nomatch z) h
end
end L2
namespace L2
open PySem PySem.Spec PyProof.Rows
structure Room (k : Nat) (A : Around) : Prop where
  hd : A.handled = none
  dp : A.depth + 3 * k + 5 < recursionLimit
  un : A.units + 16 * k + 200 < cLine
theorem Room.mono {j k : Nat} {A : Around} (r : Room k A) (h : j ≤ k) : Room j A := ⟨r.hd, by have := r.dp; omega, by have := r.un; omega⟩
theorem Room.deeper {k : Nat} {A : Around} (r : Room (k + 1) A) (env : Env) : Room k (A.deeper env) :=
  ⟨r.hd, by have := r.dp; show A.depth + 1 + 3 * k + 5 < _; omega, by have := r.un; show A.units + 3 + 16 * k + 200 < _; omega⟩
theorem make_depth {A : Around} {C : Addr} {us : List Value} {kw : List (Str × Value)} : (A.under (.builtin "type.__call__" ⟨.ref C :: us, kw⟩)).depth = A.depth + 1 := by
  first | rfl | simp [Around.under, Code.weight, Code.isCreation, Code.isGuard, Code.isCaller, Code.frames, Code.isFrame, guardIds]
theorem make_units {A : Around} {C : Addr} {us : List Value} {kw : List (Str × Value)} : (A.under (.builtin "type.__call__" ⟨.ref C :: us, kw⟩)).units = A.units + 1 := by
  first | rfl | simp [Around.under, Code.cUnits, Code.frames, Code.isFrame]
theorem Room.make {k : Nat} {A : Around} (r : Room (k + 1) A) (C : Addr) (us : List Value) (kw : List (Str × Value)) : Room k (A.under (.builtin "type.__call__" ⟨.ref C :: us, kw⟩)) :=
  ⟨r.hd, by have := r.dp; rw [make_depth]; omega, by have := r.un; rw [make_units]; omega⟩
theorem Room.depth {k : Nat} {A : Around} (r : Room k A) : A.depth < recursionLimit := by have := r.dp; omega
theorem Room.units {k : Nat} {A : Around} (r : Room k A) : A.units + 64 < cLine := by have := r.un; omega
def tNil : TA := fun _ H Q => Q [] H
def tCons (ta : TE) (tr : TA) : TA := fun σ H Q => ta σ H fun x H1 => tr σ H1 fun xs H2 => Q (x :: xs) H2
section
variable {X : Cx} {e : Expr} {es : List Expr} {te : TE} {t : TA} {pos : Pos}
theorem pa_nil : PA X [] tNil := fun _ _ _ _ H Q I h => Calls.spliced_nil ⟨[], H, I, .nil, h⟩
theorem pa_cons (ha : PE X e te) (hr : PA X es t) (hs : starEach (e :: es) X.env = (false, eval e X.env) :: starEach es X.env := by rfl) : PA X (e :: es) (tCons te t) := by
  intro pos pins s σ H Q I h
  rw [hs]
  show wpAny _ _ (spliced ((false, eval e X.env) :: backTo pos (starEach es X.env))) _ _ s
  refine Calls.spliced_cons (thn (ha pins s σ H _ I h) fun u s1 ⟨x, H1, I1, r1, q1⟩ => ?_)
  exact thn (hr pos pins s1 σ H1 _ I1 q1) fun us s2 ⟨xs, H2, I2, r2, q2⟩ => ⟨x :: xs, H2, I2, .cons r1 r2, q2⟩
def tTup (t : TA) : TE := fun σ H Q => t σ H fun xs H1 => xs.length ≤ sizeLine ∧ ∀ p, H1 p = none → Q (.ref p) (upd H1 p (.tup xs))
def tLst (t : TA) : TE := fun σ H Q => t σ H fun xs H1 => xs.length ≤ sizeLine ∧ ∀ p, H1 p = none → Q (.ref p) (upd H1 p (.lst xs))
theorem pe_tup {x1} (h : PA X es t) : PE X (.Tuple es x1 pos) (tTup t) := by
  intro pins s σ H Q I hq
  refine wpAny_Tuple_spliced (thn (h pos pins s σ H _ I hq) fun us s1 ⟨xs, H1, I1, r, z, q⟩ => ⟨by rw [← r.length]; exact z, ?_⟩)
  have hf : H1 s1.heap.objs.size = none := I1.hok.fresh (Nat.le_refl _)
  refine ⟨.ref s1.heap.objs.size, upd H1 s1.heap.objs.size (.tup xs), I1.laid (t' := s1.toks) (fun b u e => Heap.get?_push_of_some _ e) (Nat.le_refl _) ?_, rfl, q _ hf⟩
  exact ⟨z, us, r, ⟨_, Heap.get?_push_size _ rfl, rfl, _, rfl⟩⟩
theorem pe_lst (h : PA X es t) : PE X (.List es pos) (tLst t) := by
  intro pins s σ H Q I hq
  refine wpAny_List_spliced (thn (h pos pins s σ H _ I hq) fun us s1 ⟨xs, H1, I1, r, z, q⟩ => ⟨by rw [← r.length]; exact z, ?_⟩)
  have hf : H1 s1.heap.objs.size = none := I1.hok.fresh (Nat.le_refl _)
  refine ⟨.ref s1.heap.objs.size, upd H1 s1.heap.objs.size (.lst xs), I1.laid (t' := s1.toks) (fun b u e => Heap.get?_push_of_some _ e) (Nat.le_refl _) ?_, rfl, q _ hf⟩
  exact ⟨z, us, 0, r, Heap.get?_push_size _ rfl⟩
end
abbrev Sp := List V → Hp → VK → XK → Prop
abbrev CXT := List Env → Hp → Shared → XK → Value → Shared → Prop
structure Env0 (P : Program) (w : World) (K : PySem.W.Frag) (mg : Str → Option Value) (base : Heap) (A : Around) (outer : List Env) (s : Shared) (H : Hp) : Prop where
  frames : A.frames = some outer
  mod : Mod K mg base
  bs : ∀ b o, base.get? b = some o → s.heap.get? b = some o ∧ H b = none
  bsz : base.objs.size ≤ s.heap.objs.size
  funs : s.heap.FunFrames base outer
  frf : ∀ b ∈ frs outer, H b = none
  hok : HOk P w H s.heap
  bare : AllBare s.gens
def CE (outer : List Env) (P : Program) (w : World) (H : Hp) (s : Shared) (Q : VK) (u : Value) (s' : Shared) : Prop :=
  ∃ v H', s'.os = s.os ∧ AllBare s'.gens ∧ Un (frs outer) [] H H' s.heap s'.heap ∧ HOk P w H' s'.heap ∧ RelV v u ∧ Q v H'
def CR (CX : CXT) (outer : List Env) (P : Program) (w : World) (H : Hp) (s : Shared) (Q : VK) (E : XK) (r : Result) (s' : Shared) : Prop :=
  match r with
  | .ok (.ret u) => CE outer P w H s Q u s'
  | .ok _ => False
  | .error e => CX outer H s E e s'
structure FnOk (P : Program) (w : World) (K : PySem.W.Frag) (mg : Str → Option Value) (base : Heap) (CX : CXT) (k : Nat) (f : Addr) (fd : FuncData) (ps : List Str) (sp : Sp) : Prop where
  len : ∀ vs H Q E, sp vs H Q E → vs.length = ps.length
  run : ∀ (A : Around) (outer : List Env) (s : Shared) (H : Hp) (args : Args) (us : List Value) (vs : List V) (Q : VK) (E : XK), Room k A → Env0 P w K mg base A outer s H → BindsTo s fd args (ps.zip us) → Vals vs us → sp vs H Q E →
    codeAny (model P w) A (.call (.ref f) args) (CR CX outer P w H s Q E) s
theorem FnOk.mono {P : Program} {w : World} {K : PySem.W.Frag} {mg : Str → Option Value} {base : Heap} {CX : CXT} {j k : Nat} {f : Addr} {fd : FuncData} {ps : List Str} {sp : Sp} (F : FnOk P w K mg base CX j f fd ps sp) (h : j ≤ k) :
    FnOk P w K mg base CX k f fd ps sp := ⟨F.len, fun A outer s H args us vs Q E hr => F.run A outer s H args us vs Q E (hr.mono h)⟩
theorem Env0.make {P : Program} {w : World} {K : PySem.W.Frag} {mg : Str → Option Value} {base : Heap} {A : Around} {outer : List Env} {s : Shared} {H : Hp} (e : Env0 P w K mg base A outer s H) (C : Addr) (us : List Value) (kw : List (Str × Value)) :
    Env0 P w K mg base (A.under (.builtin "type.__call__" ⟨.ref C :: us, kw⟩)) outer s H := ⟨by first | exact e.frames | (simpa [Around.under, Code.envs, Code.isFrame, pushEnvs] using e.frames), e.mod, e.bs, e.bsz, e.funs, e.frf, e.hok, e.bare⟩
section
variable {X : Cx} {pins : List (Addr × Obj)} {σ : St} {H : Hp} {s s' : Shared}
theorem Inv.env0 (I : Inv X pins σ H s) : Env0 X.prog X.w X.K X.mg X.base X.A X.stack s H :=
  ⟨I.ok.frames, I.ok.mod, I.bs, Nat.le_trans I.ok.bsz I.sz, I.stack, I.stkFree, I.hok, I.bare⟩
theorem Inv.after {Q : VK} {u : Value} (I : Inv X pins σ H s) (h : CE X.stack X.prog X.w H s Q u s') : EP X pins σ Q u s' := by
  obtain ⟨v, H', os, bare, un, hok, r, q⟩ := h
  obtain ⟨hh, g, d, t, os'⟩ := s'
  obtain rfl : os' = s.os := os
  exact ⟨v, H', I.call (h' := hh) (g' := g) (d' := d) (t' := t) (ch := []) un hok bare (fun b z => absurd z (by simp)), r, q⟩
end
def tCall (sp : Sp) (dvs : List V) (E : XK) (t : TA) : TE := fun σ H Q => t σ H fun vs H1 => sp (vs ++ dvs) H1 Q E
def tMeth (C : Addr) (m : Str) (sp : Sp) (dvs : List V) (E : XK) (ta : TE) (t : TA) : TE := fun σ H Q => ta σ H fun x H1 => ∃ a dx fs, x = .ref a ∧ H1 a = some (.ins C dx fs) ∧ fs.lookup m = none ∧
  t σ H1 fun vs H2 => sp (x :: (vs ++ dvs)) H2 Q E
def tMake (C : Addr) (sp : Sp) (dvs : List V) (E : XK) (t : TA) : TE := fun σ H Q => t σ H fun vs H1 => ∀ x dx, H1 x = none → H1 dx = none → dx ≠ x →
  sp (.ref x :: (vs ++ dvs)) (upd (upd H1 dx (.own x)) x (.ins C dx [])) (fun v H2 => v = .non ∧ Q (.ref x) H2) E
def Binds (K : PySem.W.Frag) (fd : FuncData) (ps : List Str) (ds : List Value) : Prop :=
  ∀ (s : Shared) (us : List Value), K.In s.heap → (us ++ ds).length = ps.length → BindsTo s fd ⟨us, []⟩ (ps.zip (us ++ ds))
theorem Binds.all {K : PySem.W.Frag} {fd : FuncData} {ps : List Str} (h : ∀ us : List Value, us.length = ps.length → bindArgs fd ⟨us, []⟩ = pure (ps.zip us)) : Binds K fd ps [] := fun s us _ hl => by
  rw [List.append_nil] at hl ⊢
  exact .of_eq (h us hl)
def Passes (CX : CXT) (X : Cx) (E : XK) : Prop := ∀ (pins : List (Addr × Obj)) (σ : St) (H : Hp) (s : Shared) (e : Value) (s' : Shared), Inv X pins σ H s → CX X.stack H s E e s' → X.xe e s'
section
variable {X : Cx} {CX : CXT} {k : Nat} {f C : Addr} {fd : FuncData} {ps : List Str} {sp : Sp} {dvs : List V} {ds : List Value} {E : XK} {x m : Str} {p pos apos : Pos} {e o : Expr} {es : List Expr} {ta : TE} {t : TA}
theorem run_fn {pins : List (Addr × Obj)} {σ : St} {H : Hp} {s : Shared} {Q : VK} {us : List Value} {vs : List V} (F : FnOk X.prog X.w X.K X.mg X.base CX k f fd ps sp) (hr : Room k X.A) (hb : Binds X.K fd ps ds) (hd : Vals dvs ds) (hx : Passes CX X E)
    (I : Inv X pins σ H s) (r : Vals vs us) (h : sp (vs ++ dvs) H Q E) : wpAny (model X.prog X.w) X.A (call (.ref f) us) (EP X pins σ Q) X.xe s := by
  have r2 : Vals (vs ++ dvs) (us ++ ds) := r.append hd
  have hl : (us ++ ds).length = ps.length := by rw [← r2.length]; exact F.len _ _ _ _ h
  refine wpAny_call (codeAny_mono (F.run X.A X.stack s H ⟨us, []⟩ (us ++ ds) (vs ++ dvs) Q E hr I.env0 (hb s us I.kIn hl) r2 h) fun r s' hq => ?_)
  cases r with
  | error e => exact hx pins σ H s e s' I hq
  | ok fl =>
    cases fl with
    | ret u => exact I.after hq
    | next => exact False.elim hq
    | brk => exact False.elim hq
    | cont => exact False.elim hq
theorem pe_call (F : FnOk X.prog X.w X.K X.mg X.base CX k f fd ps sp) (hr : Room k X.A) (hg : Gl X x) (hm : X.mg x = some (.ref f)) (hk : PySem.W.keepIn X.K (.ref f) = true) (hb : Binds X.K fd ps ds) (hd : Vals dvs ds) (hx : Passes CX X E)
    (ha : PA X (e :: es) t) (hdb : (x == ("__debug__" : Str)) = false := by decide) (he : starEach (e :: es) X.env = (false, eval e X.env) :: starEach es X.env := by rfl) (hpl : (backTo pos (starEach es X.env)).any (·.1) = false := by rfl) :
    PE X (.Call (.Name x p) (e :: es) [] pos) (tCall sp dvs E t) := by
  intro pins s σ H Q I h
  refine wpAny_Call_Name_kw (ld_glob I hg hm ?_ hdb)
  refine PySem.W.callWith_K (h₀ := X.base) I.ok.mod.kin hk (thn (ha pos pins s σ H _ I h) fun us s1 ⟨vs, H1, I1, r, q⟩ => ⟨I1.kIn, ?_⟩) he hpl
  exact run_fn F hr hb hd hx I1 r q
theorem pe_meth {pl : Sem Bool} (he : PE X o ta) (c : Cls X.K C) (hm : Meth X.K C m f) (F : FnOk X.prog X.w X.K X.mg X.base CX k f fd ps sp) (hr : Room k X.A) (hb : Binds X.K fd ps ds) (hd : Vals dvs ds) (hx : Passes CX X E) (ha : PA X (e :: es) t)
    (hst : starEach (e :: es) X.env = (false, eval e X.env) :: starEach es X.env := by rfl) (hpl : (backTo pos (starEach es X.env)).any (·.1) = false := by rfl)
    (ht : eval (.Call (.Attribute o m apos) (e :: es) [] pos) X.env = (do
      let ov ← eval o X.env
      standAt apos.atName
      let (f, first) ← holding [ov] (getMethod ov m pl)
      callWith pos f first (backTo pos (starEach (e :: es) X.env)) (backToKw pos (keywordEach [] X.env))) := by rfl) :
    PE X (.Call (.Attribute o m apos) (e :: es) [] pos) (tMeth C m sp dvs E ta t) := by
  intro pins s σ H Q I h
  refine PySem.W.methodCall_KW (pl := pl) (thn (he pins s σ H _ I h) fun u s1 ⟨x, H1, I1, rx, a, dx, fs, ex, ea, l, q⟩ => ?_) ht
  subst ex
  obtain rfl : u = Value.ref a := rx
  refine getmeth_ok I1 ea c hm l ?_
  refine PySem.W.callWith_K (first := [.ref a]) (h₀ := X.base) I.ok.mod.kin hm.kp (thn (ha pos pins s1 σ H1 _ I1 q) fun us s2 ⟨vs, H2, I2, r, q2⟩ => ⟨I2.kIn, ?_⟩) hst hpl
  exact run_fn (us := .ref a :: us) (vs := .ref a :: vs) F hr hb hd hx I2 (.cons rfl r) q2
theorem pe_meth0 {pl : Sem Bool} (he : PE X o ta) (c : Cls X.K C) (hm : Meth X.K C m f) (F : FnOk X.prog X.w X.K X.mg X.base CX k f fd ps sp) (hr : Room k X.A) (hb : Binds X.K fd ps ds) (hd : Vals dvs ds) (hx : Passes CX X E)
    (ht : eval (.Call (.Attribute o m apos) [] [] pos) X.env = (do
      let ov ← eval o X.env
      standAt apos.atName
      let (f, first) ← holding [ov] (getMethod ov m pl)
      callWith pos f first (backTo pos (starEach [] X.env)) (backToKw pos (keywordEach [] X.env))) := by rfl) :
    PE X (.Call (.Attribute o m apos) [] [] pos) (tMeth C m sp dvs E ta tNil) := by
  intro pins s σ H Q I h
  refine PySem.W.methodCall_KW (pl := pl) (thn (he pins s σ H _ I h) fun u s1 ⟨x, H1, I1, rx, a, dx, fs, ex, ea, l, q⟩ => ?_) ht
  subst ex
  obtain rfl : u = Value.ref a := rx
  refine getmeth_ok I1 ea c hm l ?_
  exact PySem.W.callWith_K0 (first := [.ref a]) I1.kIn hm.kp (run_fn (us := [.ref a]) (vs := [.ref a]) F hr hb hd hx I1 (.cons rfl .nil) q)
structure Mk (K : PySem.W.Frag) (C f : Addr) : Prop where
  makes : PySem.W.makesIn K C = true
  init : PySem.W.findIn K (.ref C) "__init__" = some (some (.ref f))
  fn : PySem.W.isFn K (.ref f) = true
  kp : PySem.W.keepIn K (.ref C) = true
theorem run_make {pins : List (Addr × Obj)} {σ : St} {H : Hp} {s : Shared} {Q : VK} {us : List Value} {vs : List V} (M : Mk X.K C f) (F : FnOk X.prog X.w X.K X.mg X.base CX k f fd ps sp) (hr : Room (k + 1) X.A) (hb : Binds X.K fd ps ds) (hd : Vals dvs ds)
    (hx : Passes CX X E) (I : Inv X pins σ H s) (r : Vals vs us)
    (h : ∀ x dx, H x = none → H dx = none → dx ≠ x → sp (.ref x :: (vs ++ dvs)) (upd (upd H dx (.own x)) x (.ins C dx [])) (fun v H2 => v = .non ∧ Q (.ref x) H2) E) :
    wpAny (model X.prog X.w) X.A (call (.ref C) us) (EP X pins σ Q) X.xe s := by
  have hq := h (s.heap.objs.size + 1) s.heap.objs.size (I.hok.fresh (Nat.le_succ _)) (I.hok.fresh (Nat.le_refl _)) (Nat.ne_of_lt (Nat.lt_succ_self _))
  have I2 := Inv.made (C := C) I
  have r2 : Vals (V.ref (s.heap.objs.size + 1) :: (vs ++ dvs)) (Value.ref (s.heap.objs.size + 1) :: (us ++ ds)) := .cons rfl (r.append hd)
  have hl : (Value.ref (s.heap.objs.size + 1) :: us ++ ds).length = ps.length := by
    have e := r2.length
    rw [F.len _ _ _ _ hq] at e
    exact e.symm
  refine wpAny_call (make_map (f := f) I.kIn M.makes M.init (beq_iff_eq.mp M.fn) (codeAny_mono (F.run _ X.stack _ _ ⟨Value.ref (s.heap.objs.size + 1) :: us, []⟩ (Value.ref (s.heap.objs.size + 1) :: (us ++ ds)) _ _ E (hr.make C us [])
    (I2.env0.make C us []) (hb _ (Value.ref (s.heap.objs.size + 1) :: us) I2.kIn hl) r2 hq) fun r s' hq' => ?_))
  cases r with
  | error e => exact hx pins σ _ _ e s' I2 hq'
  | ok fl =>
    cases fl with
    | ret u =>
      obtain ⟨v, H', I3, rv, ev, q3⟩ := I2.after hq'
      subst ev
      exact ⟨rv, ⟨V.ref (s.heap.objs.size + 1), H', I3, rfl, q3⟩⟩
    | next => exact False.elim hq'
    | brk => exact False.elim hq'
    | cont => exact False.elim hq'
theorem pe_make (M : Mk X.K C f) (F : FnOk X.prog X.w X.K X.mg X.base CX k f fd ps sp) (hr : Room (k + 1) X.A) (hg : Gl X x) (hm : X.mg x = some (.ref C)) (hb : Binds X.K fd ps ds) (hd : Vals dvs ds) (hx : Passes CX X E)
    (ha : PA X (e :: es) t) (hdb : (x == ("__debug__" : Str)) = false := by decide) (he : starEach (e :: es) X.env = (false, eval e X.env) :: starEach es X.env := by rfl) (hpl : (backTo pos (starEach es X.env)).any (·.1) = false := by rfl) :
    PE X (.Call (.Name x p) (e :: es) [] pos) (tMake C sp dvs E t) := by
  intro pins s σ H Q I h
  refine wpAny_Call_Name_kw (ld_glob I hg hm ?_ hdb)
  refine PySem.W.callWith_K (h₀ := X.base) I.ok.mod.kin M.kp (thn (ha pos pins s σ H _ I h) fun us s1 ⟨vs, H1, I1, r, q⟩ => ⟨I1.kIn, ?_⟩) he hpl
  exact run_make M F hr hb hd hx I1 r q
end
section
variable {X : Cx} {CX : CXT} {k : Nat} {f C : Addr} {fd : FuncData} {ps ks : List Str} {sp : Sp} {E : XK} {x m : Str} {p pos apos kpos : Pos} {e o : Expr} {es : List Expr} {kws : List Keyword} {te ta : TE} {t tk : TA} {nm : Option Str}
variable {g : List Value → List Value → List Value} {gV : List V → List V → List V}
end
structure FnScope (N P : List Str) (sc : Scope) : Prop where
  kind : sc.kind = .function
  co : sc.isCoroutine = false
  gen : sc.isGenerator = false
  nd : N.Nodup
  pre : N.take P.length = P
  par : ∀ x ∈ P, sc.names.lookup x = some .local ∨ sc.names.lookup x = some .cell
  nofree : ∀ y ∈ sc.names, y.2 ≠ .free
theorem bindL_out {kindOf : Str → Option NameKind} {x : Str} : ∀ {binds : List (Str × Value)} {m : Str → Option Value}, (∀ v, (x, v) ∉ binds) → bindL kindOf binds m x = m x
  | [], _, _ => rfl
  | (n, v) :: r, m, h => by
    unfold bindL
    rw [bindL_out fun w hw => h w (List.mem_cons_of_mem _ hw)]
    split
    · have : x ≠ n := by rintro rfl; exact h v List.mem_cons_self
      simp [this]
    · rfl
theorem bindC_out {kindOf : Str → Option NameKind} {x : Str} : ∀ {binds : List (Str × Value)} {m : Str → Option Value}, (∀ v, (x, v) ∉ binds) → bindC kindOf binds m x = m x
  | [], _, _ => rfl
  | (n, v) :: r, m, h => by
    unfold bindC
    rw [bindC_out fun w hw => h w (List.mem_cons_of_mem _ hw)]
    split
    · rfl
    · have : x ≠ n := by rintro rfl; exact h v List.mem_cons_self
      simp [this]
theorem bindL_get {kindOf : Str → Option NameKind} {x : Str} {v : Value} : ∀ {P : List Str} {vs : List Value} {i : Nat} {m : Str → Option Value}, P.Nodup → P[i]? = some x → vs[i]? = some v → kindOf x = some .local →
    bindL kindOf (P.zip vs) m x = some v
  | [], _, _, _, _, h, _, _ => by simp at h
  | _ :: _, [], _, _, _, _, h, _ => by simp at h
  | p :: P, w :: vs, 0, m, nd, h1, h2, hk => by
    simp at h1 h2; subst h1; subst h2
    show bindL kindOf ((p, w) :: P.zip vs) m p = _
    unfold bindL
    rw [bindL_out fun v hv => (List.nodup_cons.mp nd).1 (List.of_mem_zip hv).1, if_pos hk]
    simp
  | p :: P, w :: vs, i + 1, m, nd, h1, h2, hk => by
    show bindL kindOf ((p, w) :: P.zip vs) m x = _
    unfold bindL
    exact bindL_get (i := i) (List.nodup_cons.mp nd).2 (by simpa using h1) (by simpa using h2) hk
theorem bindC_get {kindOf : Str → Option NameKind} {x : Str} {v : Value} : ∀ {P : List Str} {vs : List Value} {i : Nat} {m : Str → Option Value}, P.Nodup → P[i]? = some x → vs[i]? = some v → kindOf x ≠ some .local →
    bindC kindOf (P.zip vs) m x = some v
  | [], _, _, _, _, h, _, _ => by simp at h
  | _ :: _, [], _, _, _, _, h, _ => by simp at h
  | p :: P, w :: vs, 0, m, nd, h1, h2, hk => by
    simp at h1 h2; subst h1; subst h2
    show bindC kindOf ((p, w) :: P.zip vs) m p = _
    unfold bindC
    rw [bindC_out fun v hv => (List.nodup_cons.mp nd).1 (List.of_mem_zip hv).1, if_neg hk]
    simp
  | p :: P, w :: vs, i + 1, m, nd, h1, h2, hk => by
    show bindC kindOf ((p, w) :: P.zip vs) m x = _
    unfold bindC
    exact bindC_get (i := i) (List.nodup_cons.mp nd).2 (by simpa using h1) (by simpa using h2) hk
def start (N : List Str) (vs : List V) : St := vs.map some ++ List.replicate (N.length - vs.length) none
def cxOf (CX : CXT) (P : Program) (w : World) (K : PySem.W.Frag) (mg : Str → Option Value) (base : Heap) (N : List Str) (qual : Str) (scope : Scope) (f : Addr) (cd : Value) (A : Around) (outer : List Env) (s : Shared) (H : Hp) (E : XK) : Cx where
  prog := P
  w := w
  K := K
  mg := mg
  base := base
  A := A.deeper (envOfC qual scope s.heap.objs.size f cd)
  N := N
  s₀ := s
  H₀ := H
  env := envOfC qual scope s.heap.objs.size f cd
  outer := outer
  stack := envOfC qual scope s.heap.objs.size f cd :: outer
  ex := []
  calm := true
  fn := fun _ => true
  pn := []
  xe := fun e s' => wpAny (model P w) (A.deeper (envOfC qual scope s.heap.objs.size f cd)) (leaving (envOfC qual scope s.heap.objs.size f cd) e) (fun _ s'' => CX outer H s E e s'') (fun e' s'' => CX outer H s E e' s'') s'
theorem cell_has {sc : Scope} {n : Nat} {x : Str} (h : sc.names.lookup x = some .cell) : ∃ c, (cellsFrom n sc.names []).lookup x = some c := by
  have q := PySem.W.cellsFrom_some sc.names n [] (.inl h)
  exact Option.isSome_iff_exists.mp q
theorem inv_start {CX : CXT} {P : Program} {w : World} {K : PySem.W.Frag} {mg : Str → Option Value} {base : Heap} {N ps : List Str} {qual : Str} {scope : Scope} {f : Addr} {cd : Value} {A : Around} {outer : List Env} {s s1 : Shared} {H : Hp} {E : XK} {us : List Value} {vs : List V}
    (S : FnScope N ps scope) (hd : A.handled = none) (e0 : Env0 P w K mg base A outer s H) (hl : vs.length = ps.length) (r : Vals vs us)
    (x : InCallC s s.heap.objs.size (bindL (envOfC qual scope s.heap.objs.size f cd).kindOf (ps.zip us) fun _ => none) (cellsFrom (s.heap.objs.size + 1) scope.names []) (bindC (envOfC qual scope s.heap.objs.size f cd).kindOf (ps.zip us) fun _ => none) s1) :
    Inv (cxOf CX P w K mg base N qual scope f cd A outer s H E) [] (start N vs) H s1 := by
  have hpl : ps.length ≤ N.length := by have := congrArg List.length S.pre; rw [List.length_take] at this; omega
  obtain ⟨h1, tk, rfl, hk⟩ := x.done
  have noA : ∀ b : Addr, b ∉ (cxOf CX P w K mg base N qual scope f cd A outer s H E).ex := fun b z => absurd (show b ∈ ([] : List Addr) from z) (by simp)
  refine ⟨⟨e0.mod, S.kind, rfl, rfl, Nat.le_refl _, fun y z c h1 h2 => ?_, fun y hy => ?_, fun y c _ h => ?_, fun _ => hd, Around.frames_deeper e0.frames, .inr ⟨rfl, rfl⟩, fun b z => absurd z (noA b), e0.bs, e0.bsz, fun b _ _ => noA b, fun b z => absurd z (noA b), e0.funs, e0.frf⟩,
    rfl, e0.bare, Un.kept hk, ⟨_, x.toInCall.ns, fun i y v h1 h2 h3 => ?_⟩, fun y c h => ⟨_, x.cell y c h⟩, e0.hok.fresh (Nat.le_refl _), fun y c h => ?_, fun p hp => absurd (show p ∈ ([] : List (Addr × Obj)) from hp) (by simp), e0.hok.kept hk, ?_⟩
  · exact name_of_addr x.apart (PySem.mem_of_lookup h1) (PySem.mem_of_lookup h2)
  · have hy : scope.names.lookup y = some .cell ∨ scope.names.lookup y = some .free := hy
    rcases hy with hy | hy
    · exact cell_has hy
    · exact absurd rfl (S.nofree _ (PySem.mem_of_lookup hy))
  · exact Nat.le_of_lt (x.above y c (PySem.mem_of_lookup h))
  · have hi : i < vs.length := by
      unfold start at h2
      by_cases hi : i < vs.length
      · exact hi
      · rw [List.getElem?_append_right (by simpa using hi)] at h2
        rw [List.getElem?_replicate] at h2
        split at h2 <;> cases h2
    have ha : vs[i]? = some v := by
      unfold start at h2
      rw [List.getElem?_append_left (by simpa using hi), List.getElem?_map] at h2
      cases e : vs[i]? with
      | none => rw [e] at h2; cases h2
      | some a => rw [e] at h2; cases h2; rfl
    obtain ⟨u, hu, rv⟩ := r.get ha
    have hp : ps[i]? = some y := by
      rw [← S.pre, List.getElem?_take_of_lt (by omega)]; exact h1
    have ndP : ps.Nodup := by rw [← S.pre]; exact S.nd.sublist (List.take_sublist _ _)
    refine ⟨u, rv, ?_⟩
    rcases S.par y (List.mem_of_getElem? hp) with k | k
    · exact .inl ⟨k, bindL_get ndP hp hu k⟩
    · obtain ⟨c, e⟩ := cell_has (n := s.heap.objs.size + 1) k
      refine .inr ⟨.inl k, c, e, ?_⟩
      have q := x.cell y c e
      rw [bindC_get ndP hp hu (by show scope.names.lookup y ≠ _; rw [k]; decide)] at q
      exact q
  · exact e0.hok.fresh (Nat.le_of_lt (x.above y c (PySem.mem_of_lookup h)))
  · unfold start
    show _ = N.length
    rw [List.length_append, List.length_map, List.length_replicate]
    omega
theorem fn_of {CX : CXT} {P : Program} {w : World} {K : PySem.W.Frag} {mg : Str → Option Value} {base : Heap} {k : Nat} {f : Addr} {name qual : Str} {params : Arguments} {body : List Stmt} {scope : Scope} {dV kV doc pm cdv ct oc : Value} {an od : Option Addr}
    {osl : Array (Option Value)} {N ps : List Str} {sp : Sp} (lk : K.lookup f = some ⟨oc, od, .func (PySem.W.fnOf name qual params body scope dV kV doc pm an cdv ct), osl⟩) (hcd : PySem.W.codeIn K cdv qual = true) (S : FnScope N ps scope)
    (len : ∀ vs H Q E, sp vs H Q E → vs.length = ps.length)
    (hbody : ∀ (A : Around) (outer : List Env) (s : Shared) (H : Hp) (vs : List V) (Q : VK) (E : XK), Room k (A.deeper (envOfC qual scope s.heap.objs.size f cdv)) → sp vs H Q E →
      ∃ t, PSs (cxOf CX P w K mg base N qual scope f cdv A outer s H E) body t ∧ t { nx := fun _ H' => Q .non H', rt := Q } (start N vs) H) :
    FnOk P w K mg base CX (k + 1) f (PySem.W.fnOf name qual params body scope dV kV doc pm an cdv ct) ps sp := by
  refine ⟨len, fun A outer s H args us vs Q E hr e0 hb r hsp => ?_⟩
  have hl := len _ _ _ _ hsp
  have KX : K.In s.heap := e0.mod.kin.keeps fun b o e => (e0.bs b o e).1
  have lim : s.heap.NoLimit := e0.mod.nolimit.keeps fun b o e => (e0.bs b o e).1
  have hkind : ∀ y ∈ ps.zip us, scope.names.lookup y.1 = some .local ∨ (scope.names.lookup y.1 = some .cell ∧ ((cellsFrom (s.heap.objs.size + 1) scope.names []).lookup y.1).isSome = true) := fun ⟨n, v⟩ hy => by
    rcases S.par n (List.of_mem_zip hy).1 with q | q
    · exact .inl q
    · exact .inr ⟨q, PySem.W.cellsFrom_some _ _ _ (.inl q)⟩
  refine codeAny_call_function hr.depth (KX _ _ lk) rfl S.co S.gen rfl (PySem.W.codeRec_of KX hcd) (hb _ _ _ _ ?_)
  refine wpAny_newFunctionEnv_cells S.kind hkind fun env he s1 x => ?_
  subst he
  refine ⟨lim.keeps x.toInCall.keep, codeAny_func ?_⟩
  obtain ⟨t, ht, hq⟩ := hbody A outer s H vs Q E (hr.deeper _) hsp
  have I : Inv (cxOf CX P w K mg base N qual scope f cdv A outer s H E) [] (start N vs) H s1 := inv_start S hr.hd e0 hl r x
  refine wpAny_mono (ht [] s1 (start N vs) H _ I hq) (fun fl s' hs => ?_) fun e s' hs => hs
  have fin : ∀ {σ' : St} {H' : Hp} {v : V} {u : Value}, Inv (cxOf CX P w K mg base N qual scope f cdv A outer s H E) [] σ' H' s' → RelV v u → Q v H' → CE outer P w H s Q u s' :=
    fun {σ' H' v u} J rv q => ⟨v, H', J.os, J.bare, J.base, J.hok, rv, q⟩
  cases fl with
  | ret u =>
    obtain ⟨v, σ', H', J, rv, q⟩ := hs
    exact fin J rv q
  | next =>
    obtain ⟨σ', H', J, q⟩ := hs
    exact fin (v := V.non) (u := Value.none) J rfl q
  | brk =>
    obtain ⟨_, _, _, q⟩ := hs
    exact False.elim q
  | cont =>
    obtain ⟨_, _, _, q⟩ := hs
    exact False.elim q
end L2
namespace L2
open PySem PySem.Spec PyProof.Rows
section
variable {X : Cx} {x : Str} {p pos : Pos} {e : Expr} {es : List Expr} {t : TA} {id T : String} {r : List V → Hp → VK → Prop}
def tCB (r : List V → Hp → VK → Prop) (t : TA) : TE := fun σ H Q => t σ H fun vs H1 => r vs H1 Q
theorem pe_callB (hc : CallR X (.builtin id) r) (hg : Gl X x) (hm : X.mg x = none) (hv : bootBuiltins x = some (.builtin id)) (ha : PA X (e :: es) t) (hn : x ≠ "__name__" := by decide) (hdb : (x == ("__debug__" : Str)) = false := by decide)
    (he : starEach (e :: es) X.env = (false, eval e X.env) :: starEach es X.env := by rfl) (hpl : (backTo pos (starEach es X.env)).any (·.1) = false := by rfl) : PE X (.Call (.Name x p) (e :: es) [] pos) (tCB r t) := by
  intro pins s σ H Q I h
  refine wpAny_Call_Name_kw (ld_blt I hg hm hv ?_ hn hdb)
  exact PyProof.Rows.callWith_builtin1 (thn (ha pos pins s σ H _ I h) fun us s1 ⟨vs, H1, I1, r1, q1⟩ => hc pins s1 σ H1 vs us Q I1 r1 q1) he hpl
theorem pe_callTy (hc : CallR X (.type T) r) (hg : Gl X x) (hm : X.mg x = none) (hv : bootBuiltins x = some (.type T)) (ha : PA X (e :: es) t) (hn : x ≠ "__name__" := by decide) (hdb : (x == ("__debug__" : Str)) = false := by decide)
    (he : starEach (e :: es) X.env = (false, eval e X.env) :: starEach es X.env := by rfl) (hpl : (backTo pos (starEach es X.env)).any (·.1) = false := by rfl) : PE X (.Call (.Name x p) (e :: es) [] pos) (tCB r t) := by
  intro pins s σ H Q I h
  refine wpAny_Call_Name_kw (ld_blt I hg hm hv ?_ hn hdb)
  exact PyProof.Rows.callWith_type1 (thn (ha pos pins s σ H _ I h) fun us s1 ⟨vs, H1, I1, r1, q1⟩ => hc pins s1 σ H1 vs us Q I1 r1 q1) he hpl
end
end L2
namespace HT
open PySem PyProof.Rows
section
open PySem.SeqAt
open PySem.AutoSeq1 (wpAny_loadPart')
open PySem.MeetsSeq PySem.MeetsSeq2 PySem.MeetsSeq3
end
section
variable {prog : Program} {w : World} {A : Around} {E : Value → Shared → Prop} {s : Shared}
def sIx (n d : Nat) : Option Int → Nat
  | none => d
  | some v => if v < 0 then (v + (n : Int)).toNat else min v.toNat n
theorem sIx_nat (n d k : Nat) : sIx n d (some (k : Int)) = min k n := by
  show (if (k : Int) < 0 then ((k : Int) + (n : Int)).toNat else min (k : Int).toNat n) = min k n
  rw [if_neg (by omega), Int.toNat_natCast]
end
end HT
namespace L2
open PySem PySem.Spec PyProof.Rows
abbrev TO := St → Hp → (Option Int → Hp → Prop) → Prop
def PO (X : Cx) (e : Option Expr) (t : TO) : Prop :=
  ∀ (pins : List (Addr × Obj)) (s : Shared) (σ : St) (H : Hp) (Q : Option Int → Hp → Prop), Inv X pins σ H s → t σ H Q →
    wpAny (model X.prog X.w) X.A (evalPart e X.env) (fun u s' => ∃ o H', Inv X pins σ H' s' ∧ IsPart u o ∧ Q o H') X.xe s
def tNoPart : TO := fun _ H Q => Q none H
def tPart (t : TE) : TO := fun σ H Q => t σ H fun x H1 => ∃ i, x = .int i ∧ Q (some i) H1
section
variable {X : Cx} {e : Expr} {te : TE} {lo hi : Option Expr} {tl th : TO} {pos p2 : Pos}
theorem po_none : PO X none tNoPart := by
  intro pins s σ H Q I h
  rw [evalPart_none]
  exact wpAny_pure ⟨none, H, I, .none, h⟩
theorem po_some (h : PE X e te) : PO X (some e) (tPart te) := by
  intro pins s σ H Q I hw
  rw [evalPart_some]
  refine thn (h pins s σ H _ I hw) fun u s1 ⟨x, H1, I1, r1, q1⟩ => ?_
  obtain ⟨i, rfl, q⟩ := q1
  obtain ⟨t, rfl⟩ := r1
  exact ⟨some i, H1, I1, .int i t, q⟩
def SlR (X : Cx) (r : V → Option Int → Option Int → Hp → VK → Prop) : Prop :=
  ∀ (pins : List (Addr × Obj)) (s : Shared) (σ : St) (H : Hp) (x : V) (v vl vu : Value) (lo hi : Option Int) (sl : Addr) (Q : VK), Inv X pins σ H s → RelV x v → s.heap.IsSliceOf sl vl vu .none → IsPart vl lo → IsPart vu hi → r x lo hi H Q →
    ∃ T id, typeLookup (.type T) "__getitem__" = pure (some (.builtin id)) ∧ s.TypeIs v T ∧ wpAny (model X.prog X.w) X.A (getItem v (.ref sl)) (EP X pins σ Q) X.xe s
def tSl (r : V → Option Int → Option Int → Hp → VK → Prop) (te : TE) (tl th : TO) : TE := fun σ H Q => te σ H fun x H1 => tl σ H1 fun l H2 => th σ H2 fun u H3 => r x l u H3 Q
theorem pe_slice {r : V → Option Int → Option Int → Hp → VK → Prop} (hr : SlR X r) (he : PE X e te) (hl : PO X lo tl) (hu : PO X hi th) : PE X (.Subscript e (.Slice lo hi none p2) pos) (tSl r te tl th) := by
  intro pins s σ H Q I h
  refine Subscript_ (thn (he pins s σ H _ I h) fun v s1 ⟨x, H1, I1, r1, q1⟩ => ?_)
  refine wpAny_Slice (thn (hl pins s1 σ H1 _ I1 q1) fun vl s2 ⟨l, H2, I2, pl, q2⟩ => thn (hu pins s2 σ H2 _ I2 q2) fun vu s3 ⟨u, H3, I3, pu, q3⟩ => ?_)
  rw [evalPart_none]
  refine wpAny_pure ?_
  have I4 : Inv X pins σ H3 { s3 with heap := s3.heap.push { cls := .type "slice", data := .fields #[vl, vu, .none] } } := I3.kept (t' := s3.toks) fun b ob q => Heap.get?_push_of_some _ q
  obtain ⟨T, id, hT, ht, hg⟩ := hr pins { s3 with heap := s3.heap.push { cls := .type "slice", data := .fields #[vl, vu, .none] } } σ H3 x v vl vu l u s3.heap.objs.size Q I4 r1 (Heap.IsSliceOf.new ..) pl pu q3
  show wpAny (model X.prog X.w) X.A (subscriptTail e (.Slice lo hi none p2) v (.ref s3.heap.objs.size)) (EP X pins σ Q) X.xe { s3 with heap := s3.heap.push { cls := .type "slice", data := .fields #[vl, vu, .none] } }
  exact tail_any (ops := [.ref s3.heap.objs.size, v]) ht hT hg (by with_unfolding_all rfl)
def cutV (xs : List V) (lo hi : Option Int) : List V := (xs.drop (HT.sIx xs.length 0 lo)).take (HT.sIx xs.length xs.length hi - HT.sIx xs.length 0 lo)
theorem cutV_length (xs : List V) (lo hi : Option Int) : (cutV xs lo hi).length ≤ xs.length := by
  unfold cutV
  rw [List.length_take, List.length_drop]
  omega
end
end L2
namespace L2
open PySem PySem.Spec PyProof.Rows
def ixN (n : Nat) (i : Int) : Option Nat := if 0 ≤ i then (if i < n then some i.toNat else none) else if -(n : Int) ≤ i then some (i + n).toNat else none
def atI {α : Type} (xs : List α) (i : Int) : Option α := (ixN xs.length i).bind fun j => xs[j]?
theorem ixN_seq {n : Nat} {i : Int} {j : Nat} (h : ixN n i = some j) : seqIndex? i n = some j ∧ j < n ∧ -(n : Int) ≤ i ∧ i < n := by
  unfold ixN at h
  by_cases h0 : 0 ≤ i
  · rw [if_pos h0] at h
    by_cases h1 : i < n
    · rw [if_pos h1] at h
      have e : i.toNat = j := Option.some.inj h
      exact ⟨by rw [seqIndex_of h0 h1, e], by omega, by omega, h1⟩
    · rw [if_neg h1] at h; cases h
  · rw [if_neg h0] at h
    by_cases h1 : -(n : Int) ≤ i
    · rw [if_pos h1] at h
      have e : (i + n).toNat = j := Option.some.inj h
      exact ⟨by rw [seqIndex_neg (by omega) h1, e], by omega, h1, by omega⟩
    · rw [if_neg h1] at h; cases h
theorem atI_get {α : Type} {xs : List α} {i : Int} {v : α} (h : atI xs i = some v) : ∃ j, seqIndex? i xs.length = some j ∧ xs[j]? = some v ∧ j < xs.length ∧ -(xs.length : Int) ≤ i ∧ i < xs.length := by
  unfold atI at h
  cases e : ixN xs.length i with
  | none => rw [e] at h; cases h
  | some j =>
    rw [e] at h
    obtain ⟨h1, h2, h3, h4⟩ := ixN_seq e
    exact ⟨j, h1, h, h2, h3, h4⟩
theorem atI_nat {α : Type} {xs : List α} {j : Nat} {v : α} (h : xs[j]? = some v) : atI xs (j : Int) = some v := by
  have hj : j < xs.length := (List.getElem?_eq_some_iff.mp h).1
  have e : ixN xs.length (j : Int) = some j := by
    unfold ixN
    rw [if_pos (by omega), if_pos (by omega)]; simp
  unfold atI; rw [e]; exact h
def PlainIx (b : Expr) : Prop := ∀ o i, subscripted b false o i = operate [o, i] (getItem o i)
def IxR (X : Cx) (r : R2) : Prop :=
  ∀ (value slice : Expr) (pins : List (Addr × Obj)) (s : Shared) (σ : St) (H : Hp) (x y : V) (v u : Value) (Q : VK), Inv X pins σ H s → RelV x v → RelV y u → r x y H Q →
    subscripted slice false v u = operate [v, u] (getItem v u) → wpAny (model X.prog X.w) X.A (subscriptTail value slice v u) (EP X pins σ Q) X.xe s
def MtR (X : Cx) (id : String) (r : V → List V → Hp → VK → Prop) : Prop :=
  ∀ (pins : List (Addr × Obj)) (s : Shared) (σ : St) (H : Hp) (x : V) (xs : List V) (v : Value) (us : List Value) (Q : VK), Inv X pins σ H s → RelV x v → Vals xs us → r x xs H Q →
    wpAny (model X.prog X.w) X.A (call (.builtin id) (v :: us)) (EP X pins σ Q) X.xe s
section
variable {X : Cx} {a b : Expr} {ta tb : TE} {pos : Pos}
theorem pe_ix {r : R2} (hr : IxR X r) (ha : PE X a ta) (hb : PE X b tb) (hs : PlainIx b) : PE X (.Subscript a b pos) (tOp r ta tb) := by
  intro pins s σ H Q I h
  exact Subscript_ (binT ha hb I h fun v u s2 x y H2 I2 rx ry q => hr a b pins s2 σ H2 x y v u Q I2 rx ry q (hs _ _))
def rIxL (K : PySem.W.Frag) : R2 := fun x y H Q => ∃ p xs i v, x = .ref p ∧ y = .int i ∧ SqL K H p xs ∧ atI xs i = some v ∧ Q v H
def rIxS : R2 := fun x y H Q => ∃ z i c, x = .str z ∧ y = .int i ∧ z.length ≤ sizeLine ∧ atI z.cps.toList i = some c ∧ Q (.str ⟨#[c]⟩) H
theorem ix_list : IxR X (rIxL X.K) := by
  intro value slice pins s σ H x y v u Q I rx ry h hs
  obtain ⟨p, xs, i, z, rfl, rfl, hq, he, q⟩ := h
  cases rx
  obtain ⟨t, rfl⟩ := ry
  obtain ⟨its, r, pl, hz⟩ := I.list hq
  obtain ⟨j, h1, h2, h3, h4, h5⟩ := atI_get he
  obtain ⟨w, ew, rw'⟩ := r.get h2
  have hl := r.length
  have hn := line63
  have fin : EP X pins σ Q w s := ⟨z, H, I, rw', q⟩
  by_cases h0 : 0 ≤ i
  · have hj : i.toNat = j := by
      rw [seqIndex_of h0 h5] at h1
      exact Option.some.inj h1
    exact item_listR pl.isList h0 (by omega) (by rw [hj]; simpa using ew) fin hs
  · have hj : (i + (its.toArray.size : Int)).toNat = j := by
      rw [seqIndex_neg (by omega) h4] at h1
      rw [List.size_toArray, ← hl]
      exact Option.some.inj h1
    exact subscriptTail_builtinR (x := w) pl.isList.typeIs slot_list_getitem.lookup
      (wpAny_getItem_list_neg (Q := fun r s' => r = w ∧ EP X pins σ Q r s') pl.isList (by omega) (by rw [List.size_toArray] <;> omega) (by omega) (by rw [hj]; simpa using ew) ⟨rfl, fin⟩) hs
theorem ix_str : IxR X rIxS := by
  intro value slice pins s σ H x y v u Q I rx ry h hs
  obtain ⟨z, i, c, rfl, rfl, hz, he, q⟩ := h
  obtain ⟨t, rfl⟩ := rx
  obtain ⟨t', rfl⟩ := ry
  obtain ⟨j, h1, h2, h3, h4, h5⟩ := atI_get he
  have hl : z.cps.toList.length = z.length := by simp [Str.length]
  rw [hl] at h1 h4 h5
  have hn := line63
  exact tail_any (typeIs_str s z t) slot_str_getitem.lookup (getItem_str (c := c) (by
    have e1 : decide (i < -(2 ^ 63 : Int)) = false := decide_eq_false (by omega)
    have e2 : decide (i ≥ 2 ^ 63) = false := decide_eq_false (by omega)
    rw [e1, e2, Bool.or_false]) (by rw [h1]; simpa using h2) ⟨.str ⟨#[c]⟩, H, I.tok _, ⟨_, rfl⟩, q⟩) hs
theorem slice_bounds (lo hi : Option Int) (n : Nat) : (sliceBounds lo hi none n).1 = ((HT.sIx n 0 lo : Nat) : Int) ∧ (sliceBounds lo hi none n).2.1 = ((HT.sIx n n hi : Nat) : Int) ∧ (sliceBounds lo hi none n).2.2 = 1 := by
  refine ⟨?_, ?_, rfl⟩
  · cases lo with
    | none => simp [sliceBounds, HT.sIx]
    | some i =>
      simp only [sliceBounds, HT.sIx, Option.getD_none, show (1 : Int) > 0 by decide, if_true]
      by_cases h : i < 0
      · simp only [h, if_true] <;> omega
      · simp only [h, if_false] <;> omega
  · cases hi with
    | none => simp [sliceBounds, HT.sIx]
    | some i =>
      simp only [sliceBounds, HT.sIx, Option.getD_none, show (1 : Int) > 0 by decide, if_true]
      by_cases h : i < 0
      · simp only [h, if_true] <;> omega
      · simp only [h, if_false] <;> omega
theorem slicePick_cut (its : List Value) (lo hi : Option Int) : slicePick its.toArray lo hi none = ((its.drop (HT.sIx its.length 0 lo)).take (HT.sIx its.length its.length hi - HT.sIx its.length 0 lo)).toArray := by
  obtain ⟨h1, h2, h3⟩ := slice_bounds lo hi its.toArray.size
  unfold slicePick
  rw [h1, h2, h3]
  simp only [sliceRange_one, pick_run, List.size_toArray] <;> rfl
def rSlL (K : PySem.W.Frag) : V → Option Int → Option Int → Hp → VK → Prop := fun x lo hi H Q => ∃ a xs, x = .ref a ∧ SqL K H a xs ∧ ∀ p, H p = none → Q (.ref p) (upd H p (.lst (cutV xs lo hi)))
theorem sl_list : SlR X (rSlL X.K) := by
  intro pins s σ H x v vl vu lo hi sl Q I rx hs pl pu h
  obtain ⟨a, xs, rfl, hx, q⟩ := h
  cases rx
  obtain ⟨its, r, ht, hz⟩ := I.list hx
  have hlen := r.length
  refine ⟨"list", _, slot_list_getitem.lookup, ht.isList.typeIs, ?_⟩
  refine wpAny_getItem_list_slice ht.isList hs pl pu .none (by simp) ?_ (by rw [List.size_toArray] <;> omega)
  rw [slicePick_cut, ← hlen]
  refine ⟨.ref s.heap.objs.size, _, I.laid (t' := s.toks) (o := .lst (cutV xs lo hi)) (fun b ob q => Heap.get?_push_of_some _ q) (Nat.le_refl _) ?_, rfl, q _ (I.hok.fresh (Nat.le_refl _))⟩
  exact ⟨Nat.le_trans (cutV_length xs lo hi) hz, _, 0, (r.drop (HT.sIx xs.length 0 lo)).take (HT.sIx xs.length xs.length hi - HT.sIx xs.length 0 lo), Heap.get?_push_size _ rfl⟩
def flatV : V → Bool
  | .non => true
  | .bl _ => true
  | .int _ => true
  | .str _ => true
  | _ => false
def eqV : V → V → Bool
  | .non, .non => true
  | .bl a, .bl b => a == b
  | .bl a, .int b => (if a then 1 else 0) == b
  | .int a, .bl b => a == (if b then 1 else 0)
  | .int a, .int b => a == b
  | .str a, .str b => a == b
  | _, _ => false
theorem eqAt_V {A : Around} {s : Shared} {y x : V} {u v : Value} (ry : RelV y u) (rx : RelV x v) (fy : flatV y = true) (fx : flatV x = true) : SeqAt.EqAt A s u v (eqV y x) := by
  cases y with
  | non =>
    cases ry
    cases x with
    | non => cases rx; exact SeqAt.EqAt.same _
    | bl b => cases rx; exact SeqAt.EqAt.none_bool b
    | int b => obtain ⟨t, rfl⟩ := rx; exact SeqAt.EqAt.none_int b t
    | str b => obtain ⟨t, rfl⟩ := rx; exact SeqAt.EqAt.none_str b t
    | _ => exact absurd (show false = true from fx) Bool.false_ne_true
  | bl a =>
    cases ry
    cases x with
    | non => cases rx; exact SeqAt.EqAt.bool_none a
    | bl b => cases rx; exact SeqAt.EqAt.bool_bool a b
    | int b => obtain ⟨t, rfl⟩ := rx; exact SeqAt.EqAt.bool_int a b t
    | str b => obtain ⟨t, rfl⟩ := rx; exact SeqAt.EqAt.bool_str a b t
    | _ => exact absurd (show false = true from fx) Bool.false_ne_true
  | int a =>
    obtain ⟨t', rfl⟩ := ry
    cases x with
    | non => cases rx; exact SeqAt.EqAt.int_none a t'
    | bl b => cases rx; exact SeqAt.EqAt.int_bool a t' b
    | int b => obtain ⟨t, rfl⟩ := rx; exact SeqAt.EqAt.int_int a t' b t
    | str b => obtain ⟨t, rfl⟩ := rx; exact SeqAt.EqAt.int_str a t' b t
    | _ => exact absurd (show false = true from fx) Bool.false_ne_true
  | str a =>
    obtain ⟨t', rfl⟩ := ry
    cases x with
    | non => cases rx; exact SeqAt.EqAt.str_none a t'
    | bl b => cases rx; exact SeqAt.EqAt.str_bool a t' b
    | int b => obtain ⟨t, rfl⟩ := rx; exact SeqAt.EqAt.str_int a t' b t
    | str b => obtain ⟨t, rfl⟩ := rx; exact SeqAt.EqAt.str_str a t' b t
    | _ => exact absurd (show false = true from fx) Bool.false_ne_true
  | _ => exact absurd (show false = true from fy) Bool.false_ne_true
def eqU (x : V) (u : Value) : Bool := match u with
  | .none => eqV .non x
  | .bool b => eqV (.bl b) x
  | .int i _ => eqV (.int i) x
  | .str z _ => eqV (.str z) x
  | _ => false
theorem eqU_of {x y : V} {u : Value} (r : RelV y u) (f : flatV y = true) : eqU x u = eqV y x := by
  cases y with
  | non => cases r; rfl
  | bl b => cases r; rfl
  | int i => obtain ⟨t, rfl⟩ := r; rfl
  | str z => obtain ⟨t, rfl⟩ := r; rfl
  | _ => exact absurd (show false = true from f) Bool.false_ne_true
theorem any_eqU {x : V} : ∀ {xs : List V} {us : List Value}, Vals xs us → xs.all flatV = true → us.any (eqU x) = xs.any fun y => eqV y x
  | _, _, .nil, _ => rfl
  | y :: xs, u :: us, .cons r t, f => by
    rw [List.all_cons, Bool.and_eq_true] at f
    rw [List.any_cons, List.any_cons, eqU_of r f.1, any_eqU t f.2]
theorem mem_eqAt {A : Around} {s : Shared} {x : V} {v : Value} (rx : RelV x v) (fx : flatV x = true) : ∀ {xs : List V} {us : List Value}, Vals xs us → xs.all flatV = true → ∀ u ∈ us, SeqAt.EqAt A s u v (eqU x u)
  | _, _, .nil, _ => fun u hu => by cases hu
  | y :: xs, u :: us, .cons r t, f => fun u' hu => by
    rw [List.all_cons, Bool.and_eq_true] at f
    rcases List.mem_cons.mp hu with rfl | hu
    · rw [eqU_of r f.1]; exact eqAt_V r rx f.1 fx
    · exact mem_eqAt rx fx t f.2 u' hu
def inV (x : V) (xs : List V) : Bool := xs.any fun y => eqV y x
def rIn (K : PySem.W.Frag) (neg : Bool) : R2 := fun x y H Q => ∃ p xs, y = .ref p ∧ (SqL K H p xs ∨ SqT K H p xs) ∧ flatV x = true ∧ xs.all flatV = true ∧ Q (.bl (if neg then !inV x xs else inV x xs)) H
theorem op_in_seq : OpR X (compareOp .In) (rIn X.K false) := by
  intro pins s σ H x y v u Q I rx ry h
  obtain ⟨p, xs, rfl, hq, fx, fs, q⟩ := h
  cases ry
  rcases hq with hq | hq
  · obtain ⟨its, r, pl, hz⟩ := I.list hq
    refine SeqAt.in_listAt (eqU x) pl.isList (fun w hw => mem_eqAt rx fx r fs w (by simpa using hw)) ⟨.bl _, H, I, rfl, ?_⟩
    rw [show its.toArray.any (eqU x) = its.any (eqU x) by simp, any_eqU r fs]
    exact q
  · obtain ⟨its, r, pl, hz⟩ := I.tuple hq
    refine SeqAt.in_tupleAt (eqU x) pl (fun w hw => mem_eqAt rx fx r fs w (by simpa using hw)) ⟨.bl _, H, I, rfl, ?_⟩
    rw [show its.toArray.any (eqU x) = its.any (eqU x) by simp, any_eqU r fs]
    exact q
theorem call_len_seq : CallR X (.builtin "len") (fun xs H Q => ∃ p ys, xs = [.ref p] ∧ (SqL X.K H p ys ∨ SqT X.K H p ys) ∧ Q (.int ys.length) H) := by
  intro pins s σ H xs us Q I r h
  obtain ⟨p, ys, rfl, hq, q⟩ := h
  obtain ⟨u, rfl, rx⟩ := vals1 r
  cases rx
  have hn := line63
  rcases hq with hq | hq
  · obtain ⟨its, r', pl, hz⟩ := I.list hq
    have hlen := r'.length
    exact Calls.call_len_list pl.isList (by simp only [List.size_toArray] <;> omega) ⟨.int ys.length, H, I.tok _, ⟨s.toks + 1, by rw [List.size_toArray, hlen]⟩, q⟩
  · obtain ⟨its, r', pl, hz⟩ := I.tuple hq
    have hlen := r'.length
    exact len_tuple pl (by simp only [List.size_toArray] <;> omega) ⟨.int ys.length, H, I.tok _, ⟨s.toks + 1, by rw [List.size_toArray, hlen]⟩, q⟩
theorem call_len_str : CallR X (.builtin "len") (fun xs H Q => ∃ z, xs = [.str z] ∧ z.length ≤ sizeLine ∧ Q (.int z.length) H) := by
  intro pins s σ H xs us Q I r h
  obtain ⟨z, rfl, hz, q⟩ := h
  obtain ⟨u, rfl, t, rfl⟩ := vals1 r
  have hn := line63
  exact len_str (by omega) ⟨.int z.length, H, I.tok _, ⟨_, rfl⟩, q⟩
theorem call_tuple_of : CallR X (.type "tuple") (fun xs H Q => ∃ p ys, xs = [.ref p] ∧ ((SqL X.K H p ys ∧ ∀ l, H l = none → Q (.ref l) (upd H l (.tup ys))) ∨ (SqT X.K H p ys ∧ Q (.ref p) H))) := by
  intro pins s σ H xs us Q I r h
  obtain ⟨p, ys, rfl, h⟩ := h
  obtain ⟨u, rfl, rx⟩ := vals1 r
  cases rx
  rcases h with ⟨hq, q⟩ | ⟨hq, q⟩
  · obtain ⟨its, r', pl, hz⟩ := I.list hq
    have hlen := r'.length
    refine call_tuple_list pl.isList (fun h' kp => ?_) (by simp only [List.size_toArray] <;> omega)
    have I1 : Inv X pins σ H { s with heap := h' } := I.kept (t' := s.toks) kp
    have I2 : Inv X pins σ (upd H h'.objs.size (.tup ys)) { s with heap := h'.push { cls := .type "tuple", data := .seq its.toArray } } :=
      I1.laid (t' := s.toks) (fun b o e => Heap.get?_push_of_some _ e) (Nat.le_refl _) (show ObjOk X.prog X.w _ _ _ (.tup ys) from ⟨hz, its, r', IsTup.new _ _⟩)
    exact ⟨.ref h'.objs.size, _, I2, rfl, q _ (I1.hok.fresh (Nat.le_refl _))⟩
  · obtain ⟨its, r', pl, hz⟩ := I.tuple hq
    exact call_tuple_same pl ⟨.ref p, H, I, rfl, q⟩
def tyV (K : PySem.W.Frag) (T : String) (x : V) (H : Hp) : Prop := match x with
  | .str _ => T = "str"
  | .int _ => T = "int"
  | .ref p => (T = "list" ∧ ∃ xs, SqL K H p xs) ∨ (T = "tuple" ∧ ∃ o, K.lookup p = some o ∧ o.cls = .type "tuple" ∧ o.dict = none) ∨
      (T = "dict" ∧ ((∃ kvs, H p = some (.dK kvs)) ∨ ∃ kvs, H p = some (.dT kvs))) ∨ (T = "set" ∧ ∃ S n, H p = some (.set S n))
  | _ => False
theorem tyV_is {pins : List (Addr × Obj)} {σ : St} {H : Hp} {s : Shared} {T : String} {x : V} {v : Value} (I : Inv X pins σ H s) (r : RelV x v) (ty : tyV X.K T x H) :
    s.TypeIs v T ∧ ∀ a, v = .ref a → ∃ ob, s.heap.get? a = some ob ∧ ob.dict = none := by
  cases x with
  | str z =>
    obtain ⟨t, rfl⟩ := r
    cases (show T = "str" from ty)
    exact ⟨typeIs_str s z t, fun _ e => nomatch e⟩
  | int i =>
    obtain ⟨t, rfl⟩ := r
    cases (show T = "int" from ty)
    exact ⟨typeIs_int s i t, fun _ e => nomatch e⟩
  | ref p =>
    cases r
    rcases ty with ⟨rfl, xs, hq⟩ | ⟨rfl, o, hk, hc, hd⟩ | ⟨rfl, hk⟩ | ⟨rfl, S, n, hk⟩
    · obtain ⟨its, _, pl, _⟩ := I.list hq
      refine ⟨pl.isList.typeIs, fun a e => ?_⟩
      cases e
      obtain ⟨o, n, e, c, hd, _⟩ := pl
      exact ⟨o, e, hd⟩
    · refine ⟨⟨o, I.kIn p o hk, hc⟩, fun a e => ?_⟩
      cases e
      exact ⟨o, I.kIn _ o hk, hd⟩
    · have z : ∃ o, s.heap.get? p = some o ∧ o.ExactDict := by
        rcases hk with ⟨kvs, hk⟩ | ⟨kvs, hk⟩
        · obtain ⟨_, _, _, _, o, _, _, e, ex, _⟩ := I.hok p _ hk
          exact ⟨o, e, ex⟩
        · obtain ⟨_, _, _, _, o, _, _, e, ex, _⟩ := I.hok p _ hk
          exact ⟨o, e, ex⟩
      obtain ⟨o, e, ex⟩ := z
      refine ⟨⟨o, e, ex.1⟩, fun a e2 => ?_⟩
      cases e2
      exact ⟨o, e, ex.2.1⟩
    · obtain ⟨o, _, _, _, e, ex, _⟩ := I.hok p _ hk
      refine ⟨⟨o, e, ex.1⟩, fun a e2 => ?_⟩
      cases e2
      exact ⟨o, e, ex.2.1⟩
  | _ => exact False.elim ty
def tBM (K : PySem.W.Frag) (T : String) (r : V → List V → Hp → VK → Prop) (to : TE) (t : TA) : TE := fun σ H Q => to σ H fun x H1 => tyV K T x H1 ∧ t σ H1 fun xs H2 => r x xs H2 Q
variable {o e : Expr} {es : List Expr} {to : TE} {t : TA} {name : Str} {apos cpos : Pos} {T id : String} {r : V → List V → Hp → VK → Prop}
theorem pe_bm (pa : PlainAttrs T) (slot : Slot T name id) (hty : typeOf (.builtin id) = pure (.type "method_descriptor")) (hm : MtR X id r) (ho : PE X o to) (ha : PA X (e :: es) t)
    (hbase : attributeBase o name X.env (eval o X.env) = eval o X.env := by rfl)
    (hfew : ((backTo cpos (starEach (e :: es) X.env)).all (fun x => !x.1) && (backToKw cpos (keywordEach [] X.env)).all (fun x => x.1.isSome)
      && decide ((e :: es).length + ([] : List Keyword).length + (if ([] : List Keyword).isEmpty then 0 else 1) < 30)) = true := by rfl)
    (hline : (apos.endLine == cpos.line) = true := by rfl) (hs : starEach (e :: es) X.env = (false, eval e X.env) :: starEach es X.env := by rfl) (hplain : (backTo cpos (starEach es X.env)).any (·.1) = false := by rfl) :
    PE X (.Call (.Attribute o name apos) (e :: es) [] cpos) (tBM X.K T r to t) := by
  intro pins s σ H Q I h
  refine wpAny_Call_method_late hbase hfew hline rfl (thn (ho pins s σ H _ I h) fun v s1 ⟨x, H1, I1, r1, ty, q1⟩ => ?_)
  obtain ⟨h1, h2⟩ := tyV_is I1 r1 ty
  refine ⟨T, id, pa, slot, hty, h1, h2, ?_⟩
  have hA := ha cpos pins s1 σ H1 _ I1 q1
  rw [hs] at hA ⊢
  refine Calls.callWith_builtin (by show (false || (backTo cpos (starEach es X.env)).any (·.1)) = false; rw [hplain] <;> rfl) (Calls.evalArgs_plain ?_)
  exact thn hA fun us s2 ⟨vs, H2, I2, r2, q2⟩ => hm pins s2 σ H2 x vs v us Q I2 r1 r2 q2
end
end L2
namespace L2
open PySem PySem.Spec PyProof.Rows
def MtM (X : Cx) (id : String) (r : V → List V → Hp → VK → Prop) : Prop :=
  ∀ (pins : List (Addr × Obj)) (s : Shared) (σ : St) (H : Hp) (x : V) (xs : List V) (v : Value) (us : List Value) (Q : VK), Inv X pins σ H s → RelV x v → Vals xs us → r x xs H Q →
    wpAny (model X.prog X.w) X.A (call (.builtin id) (v :: us)) (EP X pins σ Q) X.xe s
theorem Vals.one : ∀ {x : V} {us : List Value}, Vals [x] us → ∃ u, us = [u] ∧ RelV x u
  | _, _, .cons r .nil => ⟨_, rfl, r⟩
section
variable {X : Cx} {pins : List (Addr × Obj)} {σ : St} {H : Hp} {s : Shared} {l b : Addr} {xs ys zs : List V}
theorem Inv.lset {its its' : List Value} {n : Nat} {f : Array Value → Array Value} {t' : Nat} (I : Inv X pins σ H s) (hH : H l = some (.lst xs))
    (e : s.heap.get? l = some { cls := .type "list", data := .seq its.toArray n }) (hf : f its.toArray = its'.toArray) (hv : Vals ys its') (hz : ys.length ≤ sizeLine) :
    Inv X pins σ (upd H l (.lst ys)) { s with heap := s.heap.update l (Obj.mapSeq f), toks := t' } := by
  have q := PySem.IsL.update e f
  rw [hf] at q
  refine I.write (x := l) (e := l) (by rw [hH]; exact trivial) (.inl rfl) (fun b' u hb hu => (Heap.get?_update_other s.heap (Obj.mapSeq f) (Ne.symm hb)).trans hu) ⟨_, q⟩ ?_
  exact ⟨hz, its', _, hv, q⟩
theorem Inv.lnew {its : List Value} {t' : Nat} (I : Inv X pins σ H s) (hv : Vals ys its) (hz : ys.length ≤ sizeLine) :
    Inv X pins σ (upd H s.heap.objs.size (.lst ys)) { s with heap := s.heap.push { cls := .type "list", data := .seq its.toArray }, toks := t' } :=
  I.laid (fun _ _ q => Heap.get?_push_of_some _ q) (Nat.le_refl _) ⟨hz, its, 0, hv, Heap.get?_push_size _ rfl⟩
theorem Inv.fresh (I : Inv X pins σ H s) : H s.heap.objs.size = none := I.hok.fresh (Nat.le_refl _)
theorem Inv.lstM (I : Inv X pins σ H s) (hH : H l = some (.lst xs)) : xs.length ≤ sizeLine ∧ ∃ (its : List Value) (n : Nat), Vals xs its ∧ xs.length = its.length ∧ s.heap.get? l = some { cls := .type "list", data := .seq its.toArray n } := by
  obtain ⟨z, its, n, r, e⟩ := I.hok l _ hH
  exact ⟨z, its, n, r, r.length, e⟩
end
section
variable {X : Cx}
def rAppend : V → List V → Hp → VK → Prop := fun x vs H Q => ∃ l xs y, x = .ref l ∧ vs = [y] ∧ H l = some (.lst xs) ∧ xs.length < sizeLine ∧ Q .non (upd H l (.lst (xs ++ [y])))
theorem mt_append : MtM X "list.append" rAppend := by
  intro pins s σ H x vs v us Q I rx rv h
  obtain ⟨l, xs, y, rfl, rfl, hH, hz, q⟩ := h
  cases rx
  obtain ⟨u, rfl, ru⟩ := rv.one
  obtain ⟨z, its, n, r, hl, e⟩ := I.lstM hH
  refine call_meets F.slot_list_append ⟨_, e, rfl⟩ F.entry_list_append (F.args_list_append_2 _ _) (PySem.list_append l its.toArray n u (by rw [List.size_toArray]; omega)) ⟨e, ?_⟩
  refine ⟨.non, _, I.lset (its' := its ++ [u]) hH e (by simp) (r.append (.cons ru .nil)) ?_, rfl, q⟩
  rw [List.length_append, List.length_singleton]
  omega
def rCat : R2 := fun x y H Q => ∃ l b xs zs, x = .ref l ∧ y = .ref b ∧ H l = some (.lst xs) ∧ H b = some (.lst zs) ∧ xs.length + zs.length ≤ sizeLine ∧ ∀ p, H p = none → Q (.ref p) (upd H p (.lst (xs ++ zs)))
theorem op_cat : OpR X (binaryOp .Add) rCat := by
  intro pins s σ H x y v u Q I rx ry h
  obtain ⟨l, b, xs, zs, rfl, rfl, hH, hB, hz, q⟩ := h
  cases rx
  cases ry
  obtain ⟨z, its, n, r, hl, e⟩ := I.lstM hH
  obtain ⟨z2, its2, n2, r2, hl2, e2⟩ := I.lstM hB
  refine PySem.P.add_list e e2 ?_ (by rw [List.size_toArray, List.size_toArray]; omega)
  have ea : its.toArray ++ its2.toArray = (its ++ its2).toArray := by simp
  rw [ea]
  exact ⟨.ref _, _, I.lnew (t' := s.toks) (r.append r2) (by rw [List.length_append]; omega), rfl, q _ I.fresh⟩
end
section
variable {prog : Program} {w : World} {A : Around} {E : Value → Shared → Prop} {s : Shared}
end
section
variable {X : Cx}
end
end L2
namespace L2
open PySem PySem.Spec PyProof.Rows
section
variable {κ : Type} [DecidableEq κ]
end
section
variable {P : Program} {w : World} {H : Hp} {h : Heap} {a : Addr}
end
section
variable {X : Cx} {pins : List (Addr × Obj)} {σ : St} {H : Hp} {s : Shared} {a : Addr} {y v : V} {u r : Value} {o : Option V} {A : Around} {E : Value → Shared → Prop}
end
section
variable {X : Cx} {pins : List (Addr × Obj)} {σ : St} {H : Hp} {s : Shared} {a : Addr} {kvs : List (Key × V)} {k : Key} {u : Value} {A : Around} {E : Value → Shared → Prop}
end
section
variable {X : Cx} {o i e value : Expr} {pos pos' tpos : Pos} {td ty tv : TE}
end
section
variable {X : Cx} {pos : Pos}
end
section
variable {X : Cx} {pins : List (Addr × Obj)} {σ : St} {H : Hp} {s : Shared} {a : Addr} {y d : V} {u r : Value} {o : Option V} {A : Around} {E : Value → Shared → Prop}
end
section
variable {X : Cx} {o e f : Expr} {apos cpos : Pos} {td ty tx : TE}
end
section
variable {X : Cx} {pins : List (Addr × Obj)} {σ : St} {H : Hp} {s : Shared} {a : Addr} {kvs : List (Key × V)} {A : Around} {E : Value → Shared → Prop}
end
section
variable {X : Cx} {pins : List (Addr × Obj)} {σ : St} {H : Hp} {s : Shared} {a : Addr} {y : V} {u : Value} {A : Around} {E : Value → Shared → Prop}
end
end L2
namespace Att
open PySem PySem.W PySem.Calls PyProof.Rows
theorem ints_of_wellAll {P : Params} {h : Heap} : ∀ (ns : List Int) (vs : List Value), WellAll P h vs (ns.map WData.int) → IntsAre vs ns := by
  intro ns
  induction ns with
  | nil =>
    intro vs w
    rw [List.map_nil] at w
    cases w
    exact .nil
  | cons n ns ih =>
    intro vs w
    rw [List.map_cons] at w
    cases w with
    | cons a b =>
      cases a
      exact .cons _ _ (ih _ b)
theorem script_of {l : OpenLaw} {n : Nat} (hn : l.most = some n) {P : Params} {h : Heap} {args : List WData} {vals : List Value}
    (hpre : l.row.toRowW.claim.pre args = true) (hwl : WellAll P h vals args) :
    ∃ a vs ns, vals = [Value.ref a] ∧ args = [WData.list (ns.map WData.int)] ∧ h.get? a = some { cls := .type "list", data := .seq vs.toArray } ∧ IntsAre vs ns ∧ ns.length ≤ n := by
  have hsh : WShape.hasAll [] args [.list .int] = true := (pre_splitW hpre).1
  have hc : l.pre.holds [] { args := args } = true := (pre_splitW hpre).2
  obtain ⟨d, r, rfl, h1, h2⟩ := hasAllW_cons hsh
  obtain rfl := hasAllW_nil h2
  obtain ⟨xs, rfl, h3⟩ := hasW_list h1
  obtain ⟨ns, rfl⟩ := items_int h3
  have hlen : ns.length ≤ n := by
    unfold OpenLaw.pre at hc
    have h4 : (WTm.not (.lt (.lit (.int (n : Int))) (.len (.arg 0)))).holds [] { args := [.list (ns.map .int)] } = true := by
      have h4 := (holds_andW hc).1
      rw [hn] at h4
      exact h4
    have h5 := condW_of h4 (w_not (w_lt w_lit (w_len_list (w_arg rfl))))
    rw [List.length_map] at h5
    refine Nat.le_of_not_lt fun q => ?_
    have q' : (n : Int) < ((ns.length : Nat) : Int) := by omega
    first
      | (rw [decide_eq_true q'] at h5; exact absurd h5 (by decide))
      | (simp at h5; omega)
  cases hwl with
  | cons w1 w2 =>
    cases w2
    cases w1 with
    | list ho hall => exact ⟨_, _, ns, rfl, rfl, ho, ints_of_wellAll ns _ hall, hlen⟩
theorem post_true (l : OpenLaw) (args : List WData) : l.row.toRowW.claim.post args (.bool true) args = true :=
  postW_of (r := l.row.toRowW) (X := (true == true))
    (show WShape.has [] (.bool true) .bool = true by first | rfl | decide | simp [WShape.has, WShape.arms, WShape.armsAll])
    (show (WTm.eq .res (.lit (.bool true))).value [] { args := args, res := some (.bool true), after := args } = some (.bool (true == true)) from w_eq_bool (w_res rfl) w_lit) rfl
theorem attach_call {l : OpenLaw} {n : Nat} {q : Program} {loose : List Str} {XP : (Str → Option Value) → Heap → Prop} {YP : World → Heap → Prop} {d : DefRec}
    (hn : l.most = some n) (hdf : d.params.defaults = [])
    (call : ∀ (w : World) (s₀ s₁ : Shared) (mg mb : Str → Option Value) (fa : Addr) (o : Obj) (pm cd doc : Value) (a : Addr) (vs : List Value) (ns : List Int),
      Ground q loose [] XP w s₀ mg mb s₁.heap → YP w s₁.heap →
      s₁.heap.get? fa = some o → o.data = .func (docDef d.name d.params d.body d.scope pm cd doc) → s₁.heap.CodeRec cd d.name → mg d.name = some (.ref fa) →
      s₁.heap.get? a = some { cls := .type "list", data := .seq vs.toArray } → IntsAre vs ns → ns.length ≤ n → s₁.gens = #[] →
      codeAny (model l.prog w) callerA (.call (.ref fa) ⟨[.ref a], []⟩) (fun r s' => r = .ok (.ret (.bool true)) ∧ OldK s₁.heap s'.heap ∧ s'.os = s₁.os ∧ AllBare s'.gens) s₁) :
    WalkO q loose XP YP l.row.toRowW d [] (fun f vs => PySem.call f vs) := by
  intro w s₀ s₁ mg mb G Y fa o pm cd doc dV kV ho hd hcd hD hmg hg args vals as hpre hlay hrd hwl hlo
  obtain rfl : dV = .none := Dflts.none hD hdf
  obtain rfl : kV = .none := Dflts.noKw hD
  obtain ⟨a, vs, ns, rfl, rfl, hobj, hints, hlen⟩ := script_of hn hpre hwl
  refine enter_call (codeAny_mono (call w s₀ s₁ mg mb fa o pm cd doc a vs ns G Y ho (fd_plain hd) hcd hmg hobj hints hlen hg) fun r s' hq => ?_)
  obtain ⟨rfl, h2, h3, h4⟩ := hq
  exact ⟨.inl ⟨.bool true, .bool true, [], rfl, fun _ => rfl, .bool true, post_true l _, fun _ => ⟨List.Pairwise.nil, fun _ hm => (nomatch hm)⟩⟩, h2, h3, h4⟩
section
variable {prog : Program} {w : World} {A : Around} {E : Value → Shared → Prop} {s : Shared} {K : Frag}
end
end Att
namespace L2
open PySem PySem.Spec PyProof.Rows
theorem vals_ints : ∀ {vs : List Value} {ns : List Int}, IntsAre vs ns → Vals (ns.map V.int) vs
  | _, _, .nil => .nil
  | _, _, .cons n t h => .cons ⟨t, rfl⟩ (vals_ints h)
def Only (H : Hp) : Prop := ∀ b, H b = none ∨ ∃ o xs, H b = some (.frz o (.lst xs))
theorem law_call {P : Program} {w : World} {K : PySem.W.Frag} {mg mb : Str → Option Value} {CX : CXT} {k : Nat} {fa a : Addr} {fd : FuncData} {x : Str} {sp : Sp} {s₁ : Shared} {vs : List Value} {ns : List Int}
    (KX : K.In s₁.heap) (hns : s₁.heap.Ns mainGlobals mg) (hb : s₁.heap.Ns builtinsNs mb) (hbb : ∀ x : Str, x ≠ "__name__" → mb x = bootBuiltins x) (hlim : s₁.heap.NoLimit) (hg : s₁.gens = #[])
    (ha : s₁.heap.get? a = some { cls := .type "list", data := .seq vs.toArray }) (hi : IntsAre vs ns) (hl : ns.length ≤ sizeLine) (hr : Room k callerA)
    (F : ∀ base : Heap, K.In base → base.Ns mainGlobals mg → FnOk P w K mg base CX k fa fd [x] sp) (hbind : ∀ (s : Shared) (u : Value), BindsTo s fd ⟨[u], []⟩ [(x, u)])
    (hsp : ∀ H : Hp, Only H → SqL K H a (ns.map V.int) → sp [.ref a] H (fun v _ => v = .bl true) fun _ _ _ => False)
    (hCX : ∀ H e s', CX [] H s₁ (fun _ _ _ => False) e s' → False) :
    codeAny (model P w) callerA (.call (.ref fa) ⟨[.ref a], []⟩) (fun r s' => r = .ok (.ret (.bool true)) ∧ OldK s₁.heap s'.heap ∧ s'.os = s₁.os ∧ AllBare s'.gens) s₁ := by
  have rv := vals_ints hi
  have lenV := hi.length
  have core : ∀ H : Hp, Only H → SqL K H a (ns.map V.int) → HOk P w H s₁.heap → (∀ b, H b ≠ none → b = a) → (H a ≠ none → K.lookup a = none) →
      codeAny (model P w) callerA (.call (.ref fa) ⟨[.ref a], []⟩) (fun r s' => r = .ok (.ret (.bool true)) ∧ OldK s₁.heap s'.heap ∧ s'.os = s₁.os ∧ AllBare s'.gens) s₁ := by
    intro H hO hS hok hA hK
    have base_of : ∀ {b : Addr} {o : Obj}, s₁.heap.get? b = some o → H b = none → (hidT s₁.heap H).get? b = some o := fun e n => hidT_get e n
    have noA : ∀ {b : Addr} {o : Obj} {es : Array DictEntry} {ep : Nat}, s₁.heap.get? b = some o → o.data = .dict es ep → H b = none := fun {b o es ep} e d => by
      cases q : H b with
      | none => rfl
      | some u =>
        have e' : b = a := hA b (by rw [q]; simp)
        subst e'
        rw [ha] at e; cases e
        have d' : Data.seq vs.toArray _ = Data.dict es ep := d
        cases d'
    have nsK : ∀ {b : Addr} {m : Str → Option Value}, s₁.heap.Ns b m → (hidT s₁.heap H).Ns b m := fun {b m} ⟨o, es, ep, e, d, r⟩ => ⟨o, es, ep, base_of e (noA e d), d, r⟩
    have hKb : K.In (hidT s₁.heap H) := fun b o e => base_of (KX b o e) (by
      cases q : H b with
      | none => rfl
      | some u =>
        have e' : b = a := hA b (by rw [q]; simp)
        subst e'
        rw [hK (by rw [q]; simp)] at e; cases e)
    have hM : Mod K mg (hidT s₁.heap H) := ⟨hKb, nsK hns, ⟨mb, nsK hb, hbb⟩, let ⟨mc, h1, h2⟩ := hlim; ⟨mc, nsK h1, h2⟩⟩
    have e0 : Env0 P w K mg (hidT s₁.heap H) callerA [] s₁ H := ⟨rfl, hM, fun b o e => of_hidT e, Nat.le_of_eq (hidT_size _ _), trivial, fun b hb => absurd (show b ∈ ([] : List Addr) from hb) (by simp), hok, .of_eq hg⟩
    refine codeAny_mono ((F _ hKb (nsK hns)).run callerA [] s₁ H ⟨[.ref a], []⟩ [.ref a] [.ref a] _ _ hr e0 (hbind s₁ (.ref a)) (.cons rfl .nil) (hsp H hO hS)) fun r s' h => ?_
    cases r with
    | error e => exact (hCX H e s' h).elim
    | ok fl =>
      cases fl with
      | next => exact False.elim h
      | brk => exact False.elim h
      | cont => exact False.elim h
      | ret u =>
        obtain ⟨v, H', os, bare, un, hok', r', q⟩ := h
        have q' : v = .bl true := q
        subst q'
        obtain rfl : u = Value.bool true := r'
        refine ⟨rfl, OldK.of_keep fun b o e => ?_, os, bare⟩
        cases q : H b with
        | none => exact un.keep b o e q (by intro z; exact absurd (show b ∈ ([] : List Addr) from z) (by simp)) (by simp)
        | some u =>
          rcases hO b with z | ⟨ob, xs, z⟩
          · rw [q] at z; cases z
          · have z2 := un.frzs b ob _ z
            obtain ⟨e1, _⟩ := hok b _ z
            obtain ⟨e2, _⟩ := hok' b _ z2
            rw [e] at e1; cases e1
            exact e2
  cases hk : K.lookup a with
  | some o =>
    have e := KX a o hk
    rw [ha] at e
    cases e
    refine core (fun _ => none) (fun _ => .inl rfl) (.inr ⟨_, vs.toArray, _, hk, rfl, rfl, rfl, by rw [List.size_toArray, lenV]; exact hl, by simpa using rv⟩) (fun b u z => by have z' : (none : Option HO) = some u := z; cases z') (fun b z => absurd rfl z) fun z => absurd rfl z
  | none =>
    refine core (fun b => if b = a then some (.frz { cls := .type "list", data := .seq vs.toArray } (.lst (ns.map V.int))) else none) (fun b => ?_) (.inl (.inr ⟨{ cls := .type "list", data := .seq vs.toArray }, if_pos rfl⟩)) (fun b u z => ?_) (fun b z => ?_) fun _ => hk
    · by_cases hb : b = a
      · exact .inr ⟨_, _, if_pos hb⟩
      · exact .inl (if_neg hb)
    · by_cases hb : b = a
      · have z' := (if_pos hb).symm.trans z
        cases z'
        subst hb
        exact ⟨ha, by rw [List.length_map]; exact hl, vs, _, rv, ha⟩
      · have z' := (if_neg hb).symm.trans z
        cases z'
    · by_cases hb : b = a
      · exact hb
      · exact absurd (if_neg hb) z
end L2
namespace L2
open PySem PySem.Spec PyProof.Rows
theorem walk_of {l : PySem.W.OpenLaw} {n k : Nat} {q : Program} {loose : List Str} {XP : (Str → Option Value) → Heap → Prop} {YP : World → Heap → Prop} {d : DefRec} {K : Params → PySem.W.Frag} {CX : World → CXT} {sp : World → Sp} {x : Str}
    (hn : l.most = some n) (hn2 : n ≤ sizeLine) (hdf : d.params.defaults = []) (hr : Room k callerA)
    (hY : ∀ (w : World) (h : Heap), YP w h → (K w.params).In h)
    (F : ∀ (w : World) (mg : Str → Option Value) (fa : Addr) (h : Heap), (K w.params).In h → h.Ns mainGlobals mg → mg d.name = some (.ref fa) →
      ∃ fd : FuncData, (∀ (s : Shared) (u : Value), BindsTo s fd ⟨[u], []⟩ [(x, u)]) ∧
        ∀ base : Heap, (K w.params).In base → base.Ns mainGlobals mg → FnOk l.prog w (K w.params) mg base (CX w) k fa fd [x] (sp w))
    (hsp : ∀ (w : World) (H : Hp) (a : Addr) (ns : List Int), ns.length ≤ n → Only H → SqL (K w.params) H a (ns.map V.int) → sp w [.ref a] H (fun v _ => v = .bl true) fun _ _ _ => False)
    (hCX : ∀ (w : World) (H : Hp) (s : Shared) (e : Value) (s' : Shared), CX w [] H s (fun _ _ _ => False) e s' → False) :
    PySem.W.WalkO q loose XP YP l.row.toRowW d [] (fun f vs => PySem.call f vs) := by
  refine Att.attach_call hn hdf fun w s₀ s₁ mg mb fa o pm cd doc a vs ns G Y ho hd hcd hmg hobj hints hlen hg => ?_
  have KX := hY w _ Y
  obtain ⟨fd, hb, hF⟩ := F w mg fa _ KX G.T.g hmg
  exact law_call KX G.T.g G.T.b G.T.builtins G.T.nolimit hg hobj hints (Nat.le_trans hlen hn2) hr hF hb (fun H hO hS => hsp w H a ns hlen hO hS) fun H e s' => hCX w H s₁ e s'
end L2
namespace L2
open PySem PySem.Spec PyProof.Rows
def inClass (s : Stmt) (j : Nat) : Stmt := match s with
  | .ClassDef _ _ _ body _ _ _ _ _ _ _ => body.getD j (.Pass ⟨0, 0, 0, 0⟩)
  | _ => .Pass ⟨0, 0, 0, 0⟩
def defArgs (s : Stmt) : Arguments := match s with
  | .FunctionDef _ a _ _ _ _ _ _ _ _ => a
  | _ => { posonlyargs := [], args := [], vararg := none, kwonlyargs := [], kw_defaults := [], kwarg := none, defaults := [] }
def defBody (s : Stmt) : List Stmt := match s with
  | .FunctionDef _ _ b _ _ _ _ _ _ _ => b
  | _ => []
def defScope (s : Stmt) : Scope := match s with
  | .FunctionDef _ _ _ _ _ _ sc _ _ _ => sc
  | _ => { kind := .function, names := [], isGenerator := false, isCoroutine := false }
abbrev CX0 : CXT := fun _ _ _ _ _ _ => False
abbrev E0 : XK := fun _ _ _ => False
theorem pass0 {X : Cx} : Passes CX0 X E0 := fun _ _ _ _ _ _ _ h => h.elim
structure Fun (K : PySem.W.Frag) (x qual : Str) (st : Stmt) (f : Addr) (fd : FuncData) : Prop where
  ex : ∃ (oc : Value) (od : Option Addr) (kV doc pm : Value) (an : Option Addr) (cdv ct : Value) (osl : Array (Option Value)),
    fd = PySem.W.fnOf x qual (defArgs st) (defBody st) (defScope st) .none kV doc pm an cdv ct ∧ K.lookup f = some ⟨oc, od, .func fd, osl⟩ ∧ PySem.W.codeIn K cdv qual = true
  kp : PySem.W.keepIn K (.ref f) = true
section
variable {P : Program} {w : World} {K : PySem.W.Frag} {mg : Str → Option Value} {base : Heap}
theorem Fun.ok {x qual : Str} {st : Stmt} {f : Addr} {fd : FuncData} {N ps : List Str} {k : Nat} {sp : Sp} (F : Fun K x qual st f fd) (S : FnScope N ps (defScope st)) (len : ∀ vs H Q E, sp vs H Q E → vs.length = ps.length)
    (hbody : ∀ (cdv : Value) (A : Around) (outer : List Env) (s : Shared) (H : Hp) (vs : List V) (Q : VK) (E : XK), Room k (A.deeper (envOfC qual (defScope st) s.heap.objs.size f cdv)) → sp vs H Q E →
      ∃ t, PSs (cxOf CX0 P w K mg base N qual (defScope st) f cdv A outer s H E).nox (defBody st) t ∧ t { nx := fun _ H' => Q .non H', rt := Q } (start N vs) H) : FnOk P w K mg base CX0 (k + 1) f fd ps sp := by
  obtain ⟨oc, od, kV, doc, pm, an, cdv, ct, osl, rfl, lk, hcd⟩ := F.ex
  refine fn_of lk hcd S len fun A outer s H vs Q E hr hsp => ?_
  obtain ⟨t, h, q⟩ := hbody cdv A outer s H vs Q E hr hsp
  exact ⟨t, h.nox, q⟩
theorem Fun.binds {x qual : Str} {st : Stmt} {f : Addr} {fd : FuncData} {ps : List Str} (F : Fun K x qual st f fd)
    (h : ∀ (kV doc pm : Value) (an : Option Addr) (cdv ct : Value) (us : List Value), us.length = ps.length → bindArgs (PySem.W.fnOf x qual (defArgs st) (defBody st) (defScope st) .none kV doc pm an cdv ct) ⟨us, []⟩ = pure (ps.zip us)) : Binds K fd ps [] := by
  obtain ⟨oc, od, kV, doc, pm, an, cdv, ct, osl, rfl, lk, hcd⟩ := F.ex
  exact .all (h kV doc pm an cdv ct)
theorem fun_mk {x qual : Str} {st : Stmt} {f : Addr} {oc : Value} {od an : Option Addr} {osl : Array (Option Value)} {kV doc pm cdv ct : Value} (l : K.lookup f = some ⟨oc, od, .func (PySem.W.fnOf x qual (defArgs st) (defBody st) (defScope st) .none kV doc pm an cdv ct), osl⟩)
    (c : PySem.W.codeIn K cdv qual = true) (k : PySem.W.keepIn K (.ref f) = true) : Fun K x qual st f (PySem.W.fnOf x qual (defArgs st) (defBody st) (defScope st) .none kV doc pm an cdv ct) := ⟨⟨oc, od, kV, doc, pm, an, cdv, ct, osl, rfl, l, c⟩, k⟩
end
theorem hu_of {A : Around} {k : Nat} (hr : Room k A) : A.units + 1 < cLine := Nat.lt_of_le_of_lt (Nat.add_le_add_left (by decide : 1 ≤ 64) _) hr.units
theorem small1000 {n : Nat} (h : n ≤ 1000) : n < sizeLine := Nat.lt_of_le_of_lt h (by decide)
section
variable {X : Cx}
theorem pv (i : Nat) {x : Str} {pos : Pos} (hN : X.N[i]? = some x := by rfl) (hv : Vis X.env.scope x := by first | exact Or.inl rfl | exact Or.inr (Or.inl rfl) | exact Or.inr (Or.inr rfl)) (hd : (x == ("__debug__" : Str)) = false := by decide)
    (hcd : (x == ("__classdict__" : Str)) = false := by decide) : PE X (.Name x pos) (tVar i) := pe_var hN hv hd hcd
end
theorem iteF {A B : Prop} (h : B) : if false = true then A else B := by
  rw [if_neg Bool.false_ne_true]
  exact h
theorem iteT {A B : Prop} (h : A) : if true = true then A else B := by
  rw [if_pos rfl]
  exact h
theorem ite2 {c A B : Prop} [Decidable c] (h1 : c → A) (h2 : ¬ c → B) : if c then A else B := by
  by_cases h : c
  · rw [if_pos h]
    exact h1 h
  · rw [if_neg h]
    exact h2 h
def Same (H H' : Hp) : Prop := ∀ b o, H b = some o → H' b = some o
theorem Same.refl (H : Hp) : Same H H := fun _ _ h => h
theorem Same.trans {H H1 H2 : Hp} (a : Same H H1) (b : Same H1 H2) : Same H H2 := fun c o h => b c o (a c o h)
theorem Same.seq {K : PySem.W.Frag} {H H' : Hp} {a : Addr} {xs : List V} (e : Same H H') (h : SqL K H a xs) : SqL K H' a xs := by
  rcases h with (h | ⟨o, h⟩) | h
  · exact .inl (.inl (e _ _ h))
  · exact .inl (.inr ⟨o, e _ _ h⟩)
  · exact .inr h
section
variable {κ : Type} [DecidableEq κ]
end
end L2
set_option Elab.async false
set_option linter.all false
set_option maxRecDepth 100000
set_option maxHeartbeats 4000000
namespace L2
open PySem PySem.Spec PyProof.Rows
abbrev NoX : Value → Shared → Prop := fun _ _ => False
theorem noX {al : Type} {t : Sem al} {Q : al → Shared → Prop} {M : Model} {A : Around} {E : Value → Shared → Prop} {s : Shared} (h : wpAny M A t Q NoX s) : wpAny M A t Q E s :=
  wpAny_mono h (fun _ _ q => q) fun _ _ z => z.elim
def capSt (cap : List (Option Nat)) (σ : St) : St := cap.map fun o => match o with
  | none => none
  | some j => (σ[j]?).join
inductive Ext : St → St → Prop
  | nil : Ext [] []
  | skip {a b : St} {x : Option V} : Ext a b → Ext (none :: a) (x :: b)
  | keep {a b : St} {x : Option V} : Ext a b → Ext (x :: a) (x :: b)
theorem Ext.len {a b : St} (h : Ext a b) : a.length = b.length := by
  induction h with
  | nil => rfl
  | skip _ ih => simp [ih]
  | keep _ ih => simp [ih]
theorem Ext.get {a b : St} (h : Ext a b) : ∀ (i : Nat) v, a[i]? = some (some v) → b[i]? = some (some v) := by
  induction h with
  | nil => intro i v e; simp at e
  | skip _ ih =>
    intro i v e
    cases i with
    | zero => simp at e
    | succ i => simpa using ih i v (by simpa using e)
  | keep _ ih =>
    intro i v e
    cases i with
    | zero => simpa using e
    | succ i => simpa using ih i v (by simpa using e)
def Cx.block (X : Cx) (sc : Scope) (cl : List (Str × Addr)) (N : List Str) (s : Shared) (H : Hp) (C : Addr) (ex : List Addr) : Cx where
  prog := X.prog
  w := X.w
  K := X.K
  mg := X.mg
  base := X.base
  A := X.A
  N := N
  s₀ := s
  H₀ := H
  env := compEnvC sc cl C X.env
  outer := X.stack
  stack := X.stack
  ex := ex
  fn := fun _ => false
  calm := X.calm
  pn := []
  xe := NoX
theorem closure_ok {env : Env} : ∀ (names : List (Str × NameKind)) (cs : List (Str × Addr)), (∀ n, (n, NameKind.free) ∈ names → ∃ c, env.cells.lookup n = some c) →
    (∀ x c, cs.lookup x = some c → env.cells.lookup x = some c) →
    ∃ cl : List (Str × Addr), (forIn names cs fun (x : Str × NameKind) (r : List (Str × Addr)) => (if (x.2 == NameKind.free) = true then do let c ← cellOf env x.1; pure (ForInStep.yield ((x.1, c) :: r)) else pure (ForInStep.yield r)) : Sem (List (Str × Addr))) = pure cl ∧
      (∀ x c, cl.lookup x = some c → env.cells.lookup x = some c) ∧ (∀ n, (n, NameKind.free) ∈ names → ∃ c, cl.lookup n = some c) ∧ (∀ n c, cs.lookup n = some c → ∃ c, cl.lookup n = some c)
  | [], cs, _, hc => ⟨cs, rfl, hc, fun _ h => (nomatch h), fun n c e => ⟨c, e⟩⟩
  | (n, k) :: r, cs, h, hc => by
    by_cases hk : k = .free
    · subst hk
      obtain ⟨c, ec⟩ := h n List.mem_cons_self
      have hc' : ∀ x c', ((n, c) :: cs).lookup x = some c' → env.cells.lookup x = some c' := fun x c' e => by
        rw [List.lookup_cons] at e
        cases hx : x == n with
        | true => rw [hx] at e; cases e; rw [eq_of_beq hx]; exact ec
        | false => rw [hx] at e; exact hc x c' e
      obtain ⟨cl, e1, e2, e3, e4⟩ := closure_ok r ((n, c) :: cs) (fun m hm => h m (List.mem_cons_of_mem _ hm)) hc'
      refine ⟨cl, ?_, e2, fun m hm => ?_, fun m c' e => ?_⟩
      · rw [List.forIn_cons, ← e1]
        simp only [beq_self_eq_true, if_true, cellOf, ec]
        rfl
      · rcases List.mem_cons.mp hm with z | z
        · cases z
          exact e4 n c (by simp)
        · exact e3 m z
      · by_cases hm : m = n
        · subst hm; exact e4 m c (by simp)
        · exact e4 m c' (by rw [List.lookup_cons, beq_eq_false_iff_ne.mpr hm]; exact e)
    · have hb : (k == NameKind.free) = false := by simpa using hk
      obtain ⟨cl, e1, e2, e3, e4⟩ := closure_ok r cs (fun m hm => h m (List.mem_cons_of_mem _ hm)) hc
      refine ⟨cl, ?_, e2, fun m hm => ?_, e4⟩
      · rw [List.forIn_cons, ← e1]
        simp only [hb, Bool.false_eq_true, if_false]
        rfl
      · rcases List.mem_cons.mp hm with z | z
        · cases z; exact absurd rfl hk
        · exact e3 m z
theorem closure_of {sc : Scope} {env : Env} (h : ∀ n, (n, NameKind.free) ∈ sc.names → ∃ c, env.cells.lookup n = some c) :
    ∃ cl : List (Str × Addr), closureFor sc env = pure cl ∧ (∀ x c, cl.lookup x = some c → env.cells.lookup x = some c) ∧ (∀ n, (n, NameKind.free) ∈ sc.names → ∃ c, cl.lookup n = some c) := by
  obtain ⟨cl, e1, e2, e3, _⟩ := closure_ok (env := env) sc.names [] h (fun x c e => by simp at e)
  refine ⟨cl, ?_, e2, e3⟩
  unfold closureFor
  rw [← bind_pure (pure cl), ← e1]
theorem lookup_mem {names : List (Str × NameKind)} {x : Str} {k : NameKind} (h : names.lookup x = some k) : (x, k) ∈ names := by
  induction names with
  | nil => simp at h
  | cons p r ih =>
    obtain ⟨n, j⟩ := p
    rw [List.lookup_cons] at h
    cases hx : x == n with
    | true => rw [hx] at h; cases h; rw [eq_of_beq hx]; exact List.mem_cons_self
    | false => rw [hx] at h; exact List.mem_cons_of_mem _ (ih h)
theorem relabel_free {sc : Scope} {env : Env} {x : Str} {k : NameKind} (hk : k = .cell ∨ k = .free) (nc : ∀ y ∈ sc.names, y.2 ≠ .cell) (h : (relabel sc env).names.lookup x = some k) : (x, NameKind.free) ∈ sc.names := by
  have m := lookup_mem h
  obtain ⟨⟨n, j⟩, hm, e⟩ := List.mem_map.mp m
  have q : (if (j == NameKind.free && env.scope.kind == .function && env.kindOf n == some .cell) = true then (n, NameKind.cell) else (n, j)) = (x, k) := e
  split at q
  · rename_i c
    rw [Bool.and_eq_true, Bool.and_eq_true] at c
    have j' : j = .free := by simpa using c.1.1
    cases q
    rw [j'] at hm
    exact hm
  · cases q
    rcases hk with z | z
    · exact absurd z (nc _ hm)
    · rw [z] at hm; exact hm
theorem lookup_relabel_free {sc : Scope} {env : Env} {x : Str} : ∀ {names : List (Str × NameKind)}, names.lookup x = some .free →
    (names.map fun (n, k) => if (k == NameKind.free && env.scope.kind == .function && env.kindOf n == some .cell) then (n, NameKind.cell) else (n, k)).lookup x = some .cell ∨
    (names.map fun (n, k) => if (k == NameKind.free && env.scope.kind == .function && env.kindOf n == some .cell) then (n, NameKind.cell) else (n, k)).lookup x = some .free
  | [], h => by simp at h
  | (n, k) :: r, h => by
    have ih := @lookup_relabel_free sc env x r
    rw [List.lookup_cons] at h
    by_cases c : (k == NameKind.free && env.scope.kind == .function && env.kindOf n == some .cell) = true
    · rw [List.map_cons]
      simp only [c, if_true, List.lookup_cons]
      cases hx : x == n with
      | true => exact .inl rfl
      | false => rw [hx] at h; exact ih h
    · rw [List.map_cons]
      have c' := Bool.eq_false_iff.mpr c
      simp only [c', Bool.false_eq_true, if_false, List.lookup_cons]
      cases hx : x == n with
      | true => rw [hx] at h; cases h; exact .inr rfl
      | false => rw [hx] at h; exact ih h
theorem comp_loop {P : Program} {w : World} {A : Around} {R : Result → Shared → Prop} {s : Shared} {elt tg iter : Expr} {ifs : List Expr} {sc : Scope} {pos : Pos} {it acc : Value} {env : Env} (J : Nat → Shared → Prop)
    (turn : ∀ n s, J n s → wpAny (model P w) A (pyNext it) (fun r s1 => match r with
      | none => R (.ok .next) s1
      | some v => wpAny (model P w) A (letOwnedTupleGo tg it v) (fun _ s2 => wpAny (model P w) A (assign tg env v) (fun _ s3 =>
          wpAny (model P w) A (forIn ifs true fun c r => if r = true then do let ok ← isTrue c env (eval c env); pure (ForInStep.yield ok) else pure (ForInStep.yield r)) (fun ok s4 =>
            if ok = true then wpAny (model P w) A (eval elt env) (fun x s5 => wpAny (model P w) A (call (.builtin "list.append") [acc, x]) (fun _ s6 => ∃ m, m < n ∧ J m s6) NoX s5) NoX s4
            else ∃ m, m < n ∧ J m s4) NoX s3) NoX s2) NoX s1) NoX s) (n : Nat) (h : J n s) :
    codeAny (model P w) A (.compLoop (.ListComp elt [⟨tg, iter, ifs, 0⟩] sc pos) 0 it acc env) R s := by
  refine codeAny_loop rfl J (fun n s hJ => ?_) n h
  refine wpAny_noted ?_
  rw [compTurn_list]
  refine wpAny_bind (wpAny_standAt (wpAny_bind (noX (thn (turn n s hJ) fun r s1 h1 => ?_))))
  cases r with
  | none => exact wpAny_pure h1
  | some v =>
    refine wpAny_bind (noX (thn h1 fun _ s2 h2 => ?_))
    refine wpAny_bind (noX (thn h2 fun _ s3 h3 => ?_))
    refine wpAny_bind (noX (thn h3 fun ok s4 h4 => ?_))
    cases ok with
    | false => exact wpAny_pure ⟨rfl, h4⟩
    | true => exact wpAny_bind (wpAny_bind (noX (thn h4 fun x s5 h5 => wpAny_bind (noX (thn h5 fun _ s6 h6 => wpAny_pure (wpAny_pure ⟨rfl, h6⟩))))))
def PTs (X : Cx) (ifs : List Expr) (t : TT) : Prop :=
  ∀ (pins : List (Addr × Obj)) (s : Shared) (σ : St) (H : Hp) (Q : Bool → Hp → Prop), Inv X pins σ H s → t σ H Q →
    wpAny (model X.prog X.w) X.A (forIn ifs true fun c r => if r = true then do let ok ← isTrue c X.env (eval c X.env); pure (ForInStep.yield ok) else pure (ForInStep.yield r)) (TP X pins σ Q) X.xe s
def tYes : TT := fun _ H Q => Q true H
theorem pts_nil {X : Cx} : PTs X [] tYes := fun _ _ _ H _ I h => wpAny_tests_nil ⟨H, I, h⟩
def tComp (cap : List (Option Nat)) (wi : TI) (g : TG) (tt : TT) (te : TE) : TE := fun σ H Q => wi σ H fun J H1 => ∀ acc, H1 acc = none →
  ∃ W : Nat → Nat → Hp → Prop, (∃ m, W 0 m (upd H1 acc (.lst []))) ∧ ∀ i m H2, W i m H2 →
    (J.stop i H2 ∧ Q (.ref acc) H2) ∨ (J.go i H2 ∧ ∃ N : Hp → Prop, (∀ H', N H' → ∃ m', m' < m ∧ W (i + 1) m' H') ∧ ∀ x H3, J.yld i H2 x H3 → g x (capSt cap σ) H3 fun σ2 H4 => Ext (capSt cap σ) σ2 ∧ tt σ2 H4 fun b H5 =>
      if b = true then te σ2 H5 fun y H6 => ∃ zs, H6 acc = some (.lst zs) ∧ zs.length < sizeLine ∧ N (upd H6 acc (.lst (zs ++ [y])))
      else N H5)
theorem HOk.but {P : Program} {w : World} {H : Hp} {h h' : Heap} {C : Addr} (x : HOk P w H h) (n : H C = none) (sb : Heap.SameBut C h h') : HOk P w H h' := fun a o e =>
  (x a o e).stay (fun b u hb q => (sb.2 b (fun z => by
    subst z
    rcases hb with z | z
    · subst z; rw [n] at e; cases e
    · rw [n] at z; cases z)).trans q) (fun _ q => q) fun _ _ q => q
theorem Un.but {fs ex : List Addr} {H H' : Hp} {h h1 h2 : Heap} {C : Addr} (u : Un fs ex H H' h h1) (lt : h.objs.size ≤ C) (sb : Heap.SameBut C h1 h2) : Un fs ex H H' h h2 := by
  have ne : ∀ b o, h.get? b = some o → b ≠ C := fun b o e => Nat.ne_of_lt (Nat.lt_of_lt_of_le (Heap.lt_size e) lt)
  refine ⟨fun b o e n hb hx => (sb.2 b (ne b o e)).trans (u.keep b o e n hb hx), fun b o e n hb hx => ?_, u.free, fun b o e hx => ?_, u.tups, u.frzs, u.tbls⟩
  · obtain ⟨sl, q⟩ := u.slot b o e n hb hx
    exact ⟨sl, (sb.2 b (ne b o e)).trans q⟩
  · obtain ⟨o', q⟩ := u.there b o e hx
    exact ⟨o', (sb.2 b (ne b o e)).trans q⟩
section
variable {X : Cx}
theorem block_ok {pins : List (Addr × Obj)} {σ : St} {H : Hp} {s : Shared} {sc : Scope} {cl : List (Str × Addr)} {N : List Str} {C : Addr} {fp : List Addr} (I : Inv X pins σ H s) (hk : sc.kind = .function) (nc : ∀ y ∈ sc.names, y.2 ≠ .cell)
    (hC : s.heap.objs.size ≤ C) (hf : ∀ b ∈ fp, FpOk X pins H b) (hfo : ∀ b ∈ fp, ∃ o, s.heap.get? b = some o) (c1 : ∀ x c, cl.lookup x = some c → X.env.cells.lookup x = some c) (c2 : ∀ n, (n, NameKind.free) ∈ sc.names → ∃ c, cl.lookup n = some c) :
    (X.block sc cl N s H C fp).Ok where
  mod := I.ok.mod
  kind := hk
  glob := I.ok.glob
  blt := I.ok.blt
  above := hC
  inj := fun x y c e e' => I.ok.inj x y c (c1 x c e) (c1 y c e')
  has := fun x h => c2 x (h.elim (relabel_free (.inl rfl) nc) (relabel_free (.inr rfl) nc))
  cab := fun x c e => (nomatch e)
  hd := I.ok.hd
  frames := I.ok.frames
  stk := .inl rfl
  exf := fun b hb => ⟨fun z => by
    obtain ⟨o, e⟩ := hfo b hb
    have lt := Heap.lt_size e
    rw [z] at lt
    exact absurd (Nat.lt_of_lt_of_le lt hC) (Nat.lt_irrefl _), fun x c e => (hf b hb).2.2.2.2.1 x c (c1 x c e)⟩
  bs := I.bs
  bsz := Nat.le_trans I.ok.bsz I.sz
  noex := fun b o e hb => by
    rcases (hf b hb).2.2.2.1 with z | z
    · exact I.ok.noex b o e z
    · exact absurd (Nat.lt_of_lt_of_le (Heap.lt_size (I.ok.bs b o e).1) z) (Nat.lt_irrefl _)
  exfs := fun b hb hs => by
    rcases List.mem_cons.mp (I.stkSub b hs) with z | z
    · exact (hf b hb).2.1 z
    · exact (hf b hb).2.2.1 z
  funs := I.stack
  frf := I.stkFree
theorem pe_comp {elt tg iter : Expr} {ifs : List Expr} {sc : Scope} {pos : Pos} {wi : TI} {g : TG} {tt : TT} {te : TE} (N : List Str) (cap : List (Option Nat)) (hc : X.calm = true) (hi : PI X tg iter wi)
    (hg : ∀ cl s H C ex, PG (X.block sc cl N s H C ex) tg g) (ht : ∀ cl s H C ex, PTs (X.block sc cl N s H C ex) ifs tt) (he : ∀ cl s H C ex, PE (X.block sc cl N s H C ex) elt te)
    (hk : sc.kind = .function) (nc : ∀ y ∈ sc.names, y.2 ≠ .cell) (hnames : ∀ y ∈ sc.names, y.2 = .local → sc.names.lookup y.1 = some .local)
    (hfree : ∀ n, (n, NameKind.free) ∈ sc.names → X.env.kindOf n = some .cell)
    (hcap : ∀ (i j : Nat), cap[i]? = some (some j) → ∃ x, N[i]? = some x ∧ X.N[j]? = some x ∧ sc.names.lookup x = some .free) (hlen : cap.length = N.length)
    (hs : ∀ x, foldedSetIterable iter X.env x = pure x := by intro _; rfl) : PE X (.ListComp elt [⟨tg, iter, ifs, 0⟩] sc pos) (tComp cap wi g tt te) := by
  intro pins s σ H Q I h
  obtain ⟨cl, hclos, c1, c2⟩ := closure_of (sc := sc) (env := X.env) fun n hn => I.ok.has n (.inl (hfree n hn))
  rw [eval_ListComp]
  refine wpAny_comprehension_free (use := none) rfl hs hclos hk hnames ?_
  refine thn (hi pins s σ H _ I h) fun v s1 h1 => thn h1 fun itv s2 h2 => ?_
  obtain ⟨it, fp, tn, J, H2, e, I2, T, st2, f2, q2⟩ := h2
  subst e
  have hfr : H2 s2.heap.objs.size = none := I2.fresh
  obtain ⟨W, ⟨m0, w0⟩, turn⟩ := q2 s2.heap.objs.size hfr
  have I3 := I2.lnew (ys := []) (its := []) (t' := s2.toks) .nil (Nat.zero_le _)
  have hacc : H2 s2.heap.objs.size = none := hfr
  refine wpAny_newObj_type (wpAny_newFunctionEnv nc (by intro y hy; simp at hy) (fun h4 hns hsb => ?_) hk)
  generalize hs3 : ({ s2 with heap := s2.heap.push { cls := .type "list", data := .seq ([] : List Value).toArray } } : Shared) = s3 at hns hsb I3 ⊢
  have hheap : s3.heap = s2.heap.push { cls := .type "list", data := .seq ([] : List Value).toArray } := by rw [← hs3]
  generalize hH3 : upd H2 s2.heap.objs.size (.lst []) = H3 at I3 w0
  have up2 : ∀ b o, s2.heap.get? b = some o → s3.heap.get? b = some o := fun b o q => by rw [hheap]; exact Heap.get?_push_of_some _ q
  have neA : ∀ b ∈ fp, b ≠ s2.heap.objs.size := fun b hb => by
    obtain ⟨o, q, _⟩ := T.obj _ _ st2 b hb
    exact Nat.ne_of_lt (Heap.lt_size q)
  have f3 : ∀ b ∈ fp, FpOk X pins H3 b := fun b hb => ⟨by rw [← hH3, upd_ne (neA b hb)]; exact (f2 b hb).1, (f2 b hb).2⟩
  have o3 : ∀ b ∈ fp, ∃ o, s3.heap.get? b = some o := fun b hb => by
    obtain ⟨o, q, _⟩ := T.obj _ _ st2 b hb
    exact ⟨o, up2 b o q⟩
  have ok' := block_ok (N := N) (C := s3.heap.objs.size) I3 hk nc (Nat.le_refl _) f3 o3 c1 c2
  generalize hC : s3.heap.objs.size = C at hns hsb ok' ⊢
  have ltC : ∀ b o, s3.heap.get? b = some o → b ≠ C := fun b o q => by rw [← hC]; exact Nat.ne_of_lt (Heap.lt_size q)
  have up4 : ∀ b o, s3.heap.get? b = some o → h4.get? b = some o := fun b o q => hsb.extBut b o (ltC b o q) (Heap.get?_push_of_some _ q)
  have st4 : tn 0 h4 := T.keep _ _ _ st2 fun b hb o q => up4 b o (up2 b o q)
  have I4 : Inv (X.block sc cl N s3 H3 C fp) [] (capSt cap σ) H3 { s3 with heap := h4, toks := s3.toks + ([] : List (Str × Value)).length } := by
    refine ⟨ok', rfl, I3.bare, Un.kept up4, ⟨_, hns, fun i x v e1 e2 e3 => ?_⟩, fun x c q => ?_, ?_, fun x c q => I3.freeC x c (c1 x c q), fun p hp => (nomatch hp), I3.hok.kept up4, ?_⟩
    · have ee : ∃ j, cap[i]? = some (some j) ∧ σ[j]? = some (some v) := by
        unfold capSt at e2
        rw [List.getElem?_map] at e2
        cases q : cap[i]? with
        | none => rw [q] at e2; cases e2
        | some o =>
          rw [q] at e2
          cases o with
          | none => cases e2
          | some j =>
            refine ⟨j, rfl, ?_⟩
            have e2' : some ((σ[j]?).join) = some (some v) := e2
            cases z : σ[j]? with
            | none => rw [z] at e2'; cases e2'
            | some o' =>
              rw [z] at e2'
              have e2'' : o' = some v := Option.some.inj e2'
              rw [e2'']
      obtain ⟨j, ej, es⟩ := ee
      obtain ⟨x', n1, n2, n3⟩ := hcap i j ej
      have e1' : N[i]? = some x := e1
      rw [n1] at e1'
      cases e1'
      have hfr' : (x, NameKind.free) ∈ sc.names := lookup_mem n3
      have kc := hfree x hfr'
      obtain ⟨m, _, hl⟩ := I3.loc
      obtain ⟨u, r, l⟩ := hl j x v n2 es (.inr (.inl kc))
      refine ⟨u, r, ?_⟩
      rcases l with ⟨l, _⟩ | ⟨_, c, ec, z⟩
      · rw [kc] at l; cases l
      · obtain ⟨c', ec'⟩ := c2 x hfr'
        have := c1 x c' ec'
        rw [ec] at this
        cases this
        obtain ⟨oc, q1, q2⟩ := z
        exact .inr ⟨lookup_relabel_free (sc := sc) n3, c, ec', oc, up4 _ _ q1, q2⟩
    · obtain ⟨v, oc, q1, q2⟩ := I3.cell x c (c1 x c q)
      exact ⟨v, oc, up4 _ _ q1, q2⟩
    · exact I3.hok.fresh (by rw [hC]; exact Nat.le_refl _)
    · show (capSt cap σ).length = N.length
      unfold capSt
      rw [List.length_map, hlen]
  have loop : codeAny (model X.prog X.w) X.A (.compLoop (.ListComp elt [⟨tg, iter, ifs, 0⟩] sc pos) 0 (.ref it) (.ref s2.heap.objs.size) (compEnvC sc cl C X.env)) (compPost (model X.prog X.w) X.A X.xe none (EP X pins σ Q) (.ref s2.heap.objs.size) C)
      { s3 with heap := h4, toks := s3.toks + ([] : List (Str × Value)).length } := by
    have stat : ∀ {H' : Hp}, (∀ b ∈ fp, H' b = none) → ∀ b ∈ fp, FpOk (X.block sc cl N s3 H3 C fp) [] H' b := fun hn b hb =>
      ⟨hn b hb, (ok'.exf b hb).1, ok'.exfs b hb, .inl hb, (ok'.exf b hb).2, fun p hp => (nomatch hp)⟩
    refine comp_loop (fun n s' => ∃ i H', Inv (X.block sc cl N s3 H3 C fp) [] (capSt cap σ) H' s' ∧ tn i s'.heap ∧ (∀ b ∈ fp, H' b = none) ∧ W i n H') ?_ m0 ⟨0, H3, I4, st4, fun b hb => (f3 b hb).1, w0⟩
    rintro n s5 ⟨i, H5, I5, st5, fr5, w5⟩
    rcases turn i n H5 w5 with ⟨stop, qn⟩ | ⟨go, N', hN', step⟩
    · refine thn (T.done (X.block sc cl N s3 H3 C fp) rfl rfl rfl hc i [] s5 _ H5 NoX I5 (stat fr5) st5 stop) fun r s6 ⟨hr, I6⟩ => ?_
      subst hr
      obtain ⟨m, hm, _⟩ := I6.loc
      refine ⟨m, hm, fun h' sb => ⟨.ref s2.heap.objs.size, H5, ?_, rfl, qn⟩⟩
      refine I3.call' (s' := { s6 with heap := h' }) (ch := fp) I6.os (I6.base.but (by rw [← hC]; exact Nat.le_refl _) sb) (I6.hok.but I6.free sb) I6.bare fun b hb => ?_
      obtain ⟨g0, g1, g2, g3, g4, g5⟩ := f3 b hb
      exact ⟨g3, g1, g4, g5⟩
    · refine thn (T.item (X.block sc cl N s3 H3 C fp) rfl rfl rfl hc i [] s5 _ H5 NoX I5 (stat fr5) st5 go) fun r s6 ⟨u, hr, h6⟩ => ?_
      subst hr
      refine thn h6 fun _ s7 ⟨x, H7, I7, r7, y7, st7, fr7⟩ => ?_
      have I7' := I7.pinned (stat fr7) (T.obj _ _ st7)
      have again : ∀ {σ8 : St} {H8 : Hp} {s8 : Shared}, Inv (X.block sc cl N s3 H3 C fp) ([] ++ pinsAt fp s7.heap) σ8 H8 s8 → Ext (capSt cap σ) σ8 → N' H8 →
          ∃ m, m < n ∧ ∃ i H', Inv (X.block sc cl N s3 H3 C fp) [] (capSt cap σ) H' s8 ∧ tn i s8.heap ∧ (∀ b ∈ fp, H' b = none) ∧ W i m H' := fun {σ8 H8 s8} I8 ex n8 => by
        obtain ⟨m', hm, w8⟩ := hN' H8 n8
        have I8' := I8.unpinned.weak ex.len ex.get
        refine ⟨m', hm, i + 1, H8, I8', T.keep _ _ _ st7 fun b hb o q => (I8.pin (b, o) (List.mem_append_right _ (List.mem_append_right _ (mem_pinsAt hb q)))).1, fun b hb => ?_, w8⟩
        obtain ⟨o, q, d⟩ := T.obj _ _ st7 b hb
        exact (I8.pin (b, o) (List.mem_append_right _ (List.mem_append_right _ (mem_pinsAt hb q)))).2.1
      refine thn (hg cl s3 H3 C fp _ s7 _ H7 x u _ I7' r7 (step x H7 y7)) fun _ s8 ⟨σ8, H8, I8, ex8, q8⟩ => ?_
      refine thn (ht cl s3 H3 C fp _ s8 σ8 H8 _ I8 q8) fun b s9 ⟨H9, I9, q9⟩ => ?_
      cases b with
      | false => exact again I9 ex8 q9
      | true =>
        rw [if_pos rfl] at q9 ⊢
        refine thn (he cl s3 H3 C fp _ s9 σ8 H9 _ I9 q9) fun yv s10 ⟨y, H10, I10, r10, zs, e10, l10, q10⟩ => ?_
        refine thn (mt_append (X := X.block sc cl N s3 H3 C fp) _ s10 σ8 H10 (.ref s2.heap.objs.size) [y] (.ref s2.heap.objs.size) [yv] (fun _ H' => N' H') I10 rfl (.cons r10 .nil) ⟨_, zs, y, rfl, rfl, e10, l10, q10⟩) fun _ s11 ⟨_, H11, I11, _, q11⟩ => ?_
        exact again I11 ex8 q11
  exact codeAny_compStart_list loop (T.self X.A 0 _ _ _ st4 loop)
end
def compCk (sc : Scope) (env : Env) (XN N : List Str) (cap : List (Option Nat)) : Bool :=
  (sc.kind == .function) && (sc.names.all fun y => y.2 != .cell) && (sc.names.all fun y => y.2 != .local || sc.names.lookup y.1 == some .local) &&
  (sc.names.all fun y => y.2 != .free || env.kindOf y.1 == some .cell) &&
  ((List.range cap.length).all fun i => match cap[i]? with
    | some (some j) => (match N[i]? with | some x => XN[j]? == some x && sc.names.lookup x == some .free | none => false)
    | _ => true) && (cap.length == N.length)
theorem pe_compB {X : Cx} {elt tg iter : Expr} {ifs : List Expr} {sc : Scope} {pos : Pos} {wi : TI} {g : TG} {tt : TT} {te : TE} (N : List Str) (cap : List (Option Nat)) (hc : X.calm = true) (hi : PI X tg iter wi)
    (hg : ∀ cl s H C ex, PG (X.block sc cl N s H C ex) tg g) (ht : ∀ cl s H C ex, PTs (X.block sc cl N s H C ex) ifs tt) (he : ∀ cl s H C ex, PE (X.block sc cl N s H C ex) elt te)
    (ck : compCk sc X.env X.N N cap = true) (hs : ∀ x, foldedSetIterable iter X.env x = pure x := by intro _; rfl) : PE X (.ListComp elt [⟨tg, iter, ifs, 0⟩] sc pos) (tComp cap wi g tt te) := by
  unfold compCk at ck
  simp only [Bool.and_eq_true] at ck
  obtain ⟨⟨⟨⟨⟨k1, k2⟩, k3⟩, k4⟩, k5⟩, k6⟩ := ck
  refine pe_comp N cap hc hi hg ht he (by simpa using k1) (fun y hy => ?_) (fun y hy z => ?_) (fun n hn => ?_) (fun i j e => ?_) (by simpa using k6) hs
  · have := List.all_eq_true.mp k2 y hy
    simpa using this
  · have := List.all_eq_true.mp k3 y hy
    rw [z] at this
    simpa using this
  · have := List.all_eq_true.mp k4 _ hn
    simpa using this
  · have hi : i < cap.length := (List.getElem?_eq_some_iff.mp e).1
    have := List.all_eq_true.mp k5 i (List.mem_range.mpr hi)
    rw [e] at this
    dsimp only at this
    cases q : N[i]? with
    | none => rw [q] at this; cases this
    | some x =>
      rw [q] at this
      dsimp only at this
      rw [Bool.and_eq_true] at this
      exact ⟨x, rfl, by simpa using this.1, by simpa using this.2⟩
end L2
set_option Elab.async false
set_option linter.all false
set_option maxRecDepth 100000
set_option maxHeartbeats 4000000
namespace L2
open PySem PySem.Spec PyProof.Rows
section
variable {prog : Program} {w : World} {A : Around} {E : Value → Shared → Prop} {s : Shared}
end
section
variable {X : Cx} {pins : List (Addr × Obj)} {σ : St} {H : Hp} {s : Shared} {h' : Heap}
end
end L2
set_option Elab.async false
set_option linter.all false
set_option maxRecDepth 100000
set_option maxHeartbeats 4000000
namespace L2
open PySem PySem.Spec PyProof.Rows
section
variable {X : Cx}
theorem same_upd {H : Hp} {p : Addr} {o : HO} (h : H p = none) : Same H (upd H p o) := fun b u q => by rw [upd_ne (ne_of_none q h)]; exact q
def rIsi (K : PySem.W.Frag) : List V → Hp → VK → Prop := fun xs H Q => ∃ x T t b, xs = [x, .ty T] ∧ TyOf K H x t ∧ PySem.W.kitOne K t (.type T) = some b ∧ Q (.bl b) H
theorem call_isi : CallR X (.builtin "isinstance") (rIsi X.K) := by
  intro pins s σ H xs us Q I r h
  obtain ⟨x, T, t, b, rfl, ty, e, q⟩ := h
  obtain ⟨u, w', rfl, ru, rw'⟩ := vals2 r
  cases rw'
  exact isinst_ok I ru ty e fun tk => ⟨.bl b, H, I.tok tk, rfl, q⟩
def rSlS : V → Option Int → Option Int → Hp → VK → Prop := fun x lo hi H Q => ∃ z, x = .str z ∧ z.length ≤ sizeLine ∧ ((Txt.slice z lo hi).length ≤ z.length → Q (.str (Txt.slice z lo hi)) H)
theorem part_of {v : Value} {o : Option Int} (p : IsPart v o) : ∃ q : Option (Int × Tok), q.map (·.1) = o ∧ v = (match q with | none => Value.none | some (i, t) => .int i t) := by
  cases p with
  | none => exact ⟨none, rfl, rfl⟩
  | int i t => exact ⟨some (i, t), rfl, rfl⟩
theorem sl_str : SlR X rSlS := by
  intro pins s σ H x v vl vu lo hi sl Q I rx hs pl pu h
  obtain ⟨z, rfl, hz, q⟩ := h
  obtain ⟨t, rfl⟩ := rx
  obtain ⟨l, hl, el⟩ := part_of pl
  obtain ⟨u, hu, eu⟩ := part_of pu
  subst hl hu
  refine ⟨"str", _, F.slot_str_getitem.lookup, typeIs_str _ _ _, wpAny_getItem_str_slice (l := l) (u := u) (st := none) ?_ rfl (post_val_or_str ⟨Nat.le_trans (Txt.slice_le z _ _) hz, fun t' k => ⟨.str (Txt.slice z _ _), H, I.kept (fun _ _ e => e), ⟨t', rfl⟩, q (Txt.slice_le z _ _)⟩⟩)⟩
  obtain ⟨o, ho, hc, hd⟩ := hs
  refine ⟨o, ho, hc, ?_⟩
  rw [hd, el, eu]
  cases l <;> cases u <;> rfl
theorem eqL_all {A : Around} {s : Shared} {xs ys : List V} {us ws : List Value} (rx : Vals xs us) (ry : Vals ys ws) (fx : xs.all flatV = true) (fy : ys.all flatV = true) :
    ∃ e : Nat → Bool, (∀ j (h1 : j < us.toArray.size) (h2 : j < ws.toArray.size), SeqAt.EqAt A s us.toArray[j] ws.toArray[j] (e j)) ∧ ∀ j (x y : V), xs[j]? = some x → ys[j]? = some y → e j = eqV x y := by
  refine ⟨fun j => match xs[j]?, ys[j]? with | some x, some y => eqV x y | _, _ => false, fun j h1 h2 => ?_, fun j x y e1 e2 => by simp only [e1, e2]⟩
  have l1 := rx.length
  have l2 := ry.length
  have g1 : j < xs.length := by rw [l1]; simpa using h1
  have g2 : j < ys.length := by rw [l2]; simpa using h2
  obtain ⟨u, eu, ru⟩ := rx.get (List.getElem?_eq_getElem g1)
  obtain ⟨v, ev, rv⟩ := ry.get (List.getElem?_eq_getElem g2)
  have e1 : us.toArray[j] = u := by
    have := List.getElem?_eq_some_iff.mp eu
    obtain ⟨_, z⟩ := this
    simpa using z
  have e2 : ws.toArray[j] = v := by
    have := List.getElem?_eq_some_iff.mp ev
    obtain ⟨_, z⟩ := this
    simpa using z
  simp only [List.getElem?_eq_getElem g1, List.getElem?_eq_getElem g2, e1, e2]
  exact eqAt_V ru rv (List.all_eq_true.mp fx _ (List.getElem_mem g1)) (List.all_eq_true.mp fy _ (List.getElem_mem g2))
theorem eqV_str (a b : Str) : eqV (.str a) (.str b) = true ↔ a = b := by
  constructor
  · intro h; simpa [eqV] using h
  · intro h; subst h; simp [eqV]
end
end L2
set_option Elab.async false
set_option linter.all false
set_option maxRecDepth 100000
set_option maxHeartbeats 4000000
namespace L2
open PySem PySem.Spec PyProof.Rows
structure FnB (P : Program) (w : World) (K : PySem.W.Frag) (mg : Str → Option Value) (base : Heap) (k : Nat) (x : Str) (f : Addr) (fd : FuncData) (ps : List Str) (sp : Sp) : Prop where
  ok : FnOk P w K mg base CX0 k f fd ps sp
  bd : Binds K fd ps []
  kp : PySem.W.keepIn K (.ref f) = true
  gl : mg x = some (.ref f)
theorem FnB.up {P : Program} {w : World} {K : PySem.W.Frag} {mg : Str → Option Value} {base : Heap} {j k : Nat} {x : Str} {f : Addr} {fd : FuncData} {ps : List Str} {sp : Sp} (F : FnB P w K mg base j x f fd ps sp) (h : j ≤ k) : FnB P w K mg base k x f fd ps sp :=
  ⟨F.ok.mono h, F.bd, F.kp, F.gl⟩
def Tk (H H' : Hp) : Prop := ∀ b xs, H b = some (.tup xs) → H' b = some (.tup xs)
theorem Tk.trans {H H1 H2 : Hp} (a : Tk H H1) (b : Tk H1 H2) : Tk H H2 := fun c xs h => b c xs (a c xs h)
theorem Same.tk {H H' : Hp} (h : Same H H') : Tk H H' := fun b xs e => h b _ e
theorem Tk.lst {H : Hp} {p : Addr} {xs : List V} {o : HO} (h : H p = some (.lst xs)) : Tk H (upd H p o) := fun b ys e => by
  rw [upd_ne (fun z => by subst z; rw [h] at e; cases e)]; exact e
section
variable {X : Cx}
end
inductive Atom where
  | name (x : Str) | num (n : Int) | gap (g : Str)
inductive Bin where
  | add | sub | mul | thn
def Bin.s : Bin → Str
  | .add => "add" | .sub => "sub" | .mul => "mul" | .thn => "then"
inductive Tr where
  | num (n : Int) | name (x : Str) | ask (x : Str) | stop (x : Str) | gap (g : Str) (as : List Atom)
  | say (a : Tr) | bin (o : Bin) (a b : Tr) | ite (a b c : Tr) | lett (x : Str) (a b : Tr)
def AtRep (H : Hp) : Atom → V → Prop
  | .name x, v => ∃ a, v = .ref a ∧ H a = some (.tup [.str "name", .str x])
  | .num n, v => ∃ a, v = .ref a ∧ H a = some (.tup [.str "num", .int n])
  | .gap g, v => ∃ a b, v = .ref a ∧ H a = some (.tup [.str "gap", .str g, .ref b]) ∧ H b = some (.tup [])
def Rep (H : Hp) : Tr → V → Prop
  | .num n, v => ∃ a, v = .ref a ∧ H a = some (.tup [.str "num", .int n])
  | .name x, v => ∃ a, v = .ref a ∧ H a = some (.tup [.str "name", .str x])
  | .ask x, v => ∃ a, v = .ref a ∧ H a = some (.tup [.str "ask", .str x])
  | .stop x, v => ∃ a, v = .ref a ∧ H a = some (.tup [.str "stop", .str x])
  | .gap g as, v => ∃ a b us, v = .ref a ∧ H a = some (.tup [.str "gap", .str g, .ref b]) ∧ H b = some (.tup us) ∧ us.length ≤ 1000 ∧ Paired (AtRep H) as us
  | .say t, v => ∃ a u, v = .ref a ∧ H a = some (.tup [.str "say", u]) ∧ Rep H t u
  | .bin o s t, v => ∃ a u w, v = .ref a ∧ H a = some (.tup [.str o.s, u, w]) ∧ Rep H s u ∧ Rep H t w
  | .ite r s t, v => ∃ a u w z, v = .ref a ∧ H a = some (.tup [.str "if", u, w, z]) ∧ Rep H r u ∧ Rep H s w ∧ Rep H t z
  | .lett x s t, v => ∃ a u w, v = .ref a ∧ H a = some (.tup [.str "let", .str x, u, w]) ∧ Rep H s u ∧ Rep H t w
theorem AtRep.mono {H H' : Hp} (k : Tk H H') : ∀ {t : Atom} {v : V}, AtRep H t v → AtRep H' t v
  | .name _, _, ⟨a, e, h⟩ => ⟨a, e, k _ _ h⟩
  | .num _, _, ⟨a, e, h⟩ => ⟨a, e, k _ _ h⟩
  | .gap _, _, ⟨a, b, e, h, h'⟩ => ⟨a, b, e, k _ _ h, k _ _ h'⟩
theorem Rep.mono {H H' : Hp} (k : Tk H H') : ∀ {t : Tr} {v : V}, Rep H t v → Rep H' t v
  | .num _, _, ⟨a, e, h⟩ => ⟨a, e, k _ _ h⟩
  | .name _, _, ⟨a, e, h⟩ => ⟨a, e, k _ _ h⟩
  | .ask _, _, ⟨a, e, h⟩ => ⟨a, e, k _ _ h⟩
  | .stop _, _, ⟨a, e, h⟩ => ⟨a, e, k _ _ h⟩
  | .gap _ _, _, ⟨a, b, us, e, h, h', n, p⟩ => ⟨a, b, us, e, k _ _ h, k _ _ h', n, Paired.mapP p fun _ _ z => z.mono k⟩
  | .say _, _, ⟨a, u, e, h, r⟩ => ⟨a, u, e, k _ _ h, r.mono k⟩
  | .bin _ _ _, _, ⟨a, u, w, e, h, r, s⟩ => ⟨a, u, w, e, k _ _ h, r.mono k, s.mono k⟩
  | .ite _ _ _, _, ⟨a, u, w, z, e, h, r, s, t⟩ => ⟨a, u, w, z, e, k _ _ h, r.mono k, s.mono k, t.mono k⟩
  | .lett _ _ _, _, ⟨a, u, w, e, h, r, s⟩ => ⟨a, u, w, e, k _ _ h, r.mono k, s.mono k⟩
inductive Kd where
  | num | name | ask | stop | gap | say | add | sub | mul | thn | ite | lett
  deriving DecidableEq
def Kd.s : Kd → Str
  | .num => "num" | .name => "name" | .ask => "ask" | .stop => "stop" | .gap => "gap"
  | .say => "say" | .add => "add" | .sub => "sub" | .mul => "mul" | .thn => "then" | .ite => "if" | .lett => "let"
def Bin.kd : Bin → Kd
  | .add => .add | .sub => .sub | .mul => .mul | .thn => .thn
def Tr.kd : Tr → Kd
  | .num _ => .num | .name _ => .name | .ask _ => .ask | .stop _ => .stop | .gap _ _ => .gap
  | .say _ => .say | .bin o _ _ => o.kd | .ite _ _ _ => .ite | .lett _ _ _ => .lett
def Tr.sign (t : Tr) : Str := t.kd.s
theorem Bin.kd_s (o : Bin) : o.kd.s = o.s := by cases o <;> rfl
def Tr.parts : Tr → List Tr
  | .say a => [a] | .bin _ a b => [a, b] | .ite a b c => [a, b, c] | .lett _ a b => [a, b]
  | _ => []
def Tr.head : Tr → Nat
  | .gap _ _ => 3 | .say _ => 1 | .bin _ _ _ => 1 | .ite _ _ _ => 1
  | _ => 2
theorem Rep.all {H : Hp} : ∀ {t : Tr} {v : V}, Rep H t v → ∃ a hs us, v = .ref a ∧ H a = some (.tup (.str t.sign :: hs ++ us)) ∧ hs.length + 1 = t.head ∧ Paired (Rep H) t.parts us
  | .num n, _, ⟨a, e, h⟩ => ⟨a, [.int n], [], e, h, rfl, .nil⟩
  | .name x, _, ⟨a, e, h⟩ => ⟨a, [.str x], [], e, h, rfl, .nil⟩
  | .ask x, _, ⟨a, e, h⟩ => ⟨a, [.str x], [], e, h, rfl, .nil⟩
  | .stop x, _, ⟨a, e, h⟩ => ⟨a, [.str x], [], e, h, rfl, .nil⟩
  | .gap g _, _, ⟨a, b, us, e, h, h', _, p⟩ => ⟨a, [.str g, .ref b], [], e, h, rfl, .nil⟩
  | .say _, _, ⟨a, u, e, h, r⟩ => ⟨a, [], [u], e, h, rfl, .cons r .nil⟩
  | .bin o _ _, _, ⟨a, u, w, e, h, r, s⟩ => ⟨a, [], [u, w], e, (by show _ = some (HO.tup [V.str o.kd.s, u, w]); rw [Bin.kd_s]; exact h), rfl, .cons r (.cons s .nil)⟩
  | .ite _ _ _, _, ⟨a, u, w, z, e, h, r, s, t⟩ => ⟨a, [], [u, w, z], e, h, rfl, .cons r (.cons s (.cons t .nil))⟩
  | .lett x _ _, _, ⟨a, u, w, e, h, r, s⟩ => ⟨a, [.str x], [u, w], e, h, rfl, .cons r (.cons s .nil)⟩
def Tr.size : Tr → Nat
  | .say a => a.size + 1 | .bin _ a b => a.size + b.size + 1 | .ite a b c => a.size + b.size + c.size + 1 | .lett _ a b => a.size + b.size + 1
  | _ => 1
theorem same_set {H H' : Hp} {p : Addr} {o : HO} (g : Same H H') (h : H p = none) : Same H (upd H' p o) := fun b u q => by rw [upd_ne (ne_of_none q h)]; exact g b u q
theorem take_next {α : Type} {as : List α} {i : Nat} {a : α} (h : as[i]? = some a) : as.take (i + 1) = as.take i ++ [a] := by
  rw [List.take_add_one, h]; rfl
def Atom.names : Atom → List Str
  | .name x => [x]
  | _ => []
def Tr.names : Tr → List Str
  | .name x => [x]
  | .gap _ as => as.flatMap Atom.names
  | _ => []
theorem line1000 {n : Nat} (h : n ≤ 1000) : n ≤ sizeLine := Nat.le_of_lt (small1000 h)
def constVs : List Expr → Option (List V)
  | [] => some []
  | .Constant (.str x) _ _ :: r => (constVs r).map fun l => V.str x :: l
  | .Constant (.int i) _ _ :: r => (constVs r).map fun l => V.int i :: l
  | _ => none
def tRow (vs : List V) : TA := fun _ H Q => Q vs H
theorem pa_row {X : Cx} : ∀ {es : List Expr} (vs : List V), constVs es = some vs → PA X es (tRow vs)
  | [], vs, h => by cases h; exact pa_nil
  | .Constant (.str x) j p :: r, vs, h => by
    obtain ⟨l, hl, e⟩ := Option.map_eq_some_iff.mp (show (constVs r).map (fun l => V.str x :: l) = some vs from h)
    subst e
    exact pa_cons pe_str (pa_row l hl)
  | .Constant (.int x) j p :: r, vs, h => by
    obtain ⟨l, hl, e⟩ := Option.map_eq_some_iff.mp (show (constVs r).map (fun l => V.int x :: l) = some vs from h)
    subst e
    exact pa_cons pe_int (pa_row l hl)
def rowT : Expr → Option (List V)
  | .Tuple es _ _ => constVs es
  | _ => none
def rowL : Expr → Option (List V)
  | .List es _ => constVs es
  | _ => none
theorem pe_tupR {X : Cx} {e : Expr} (vs : List V) (h : rowT e = some vs) : PE X e (tTup (tRow vs)) := by
  unfold rowT at h
  split at h
  · exact pe_tup (pa_row vs h)
  · cases h
theorem pe_lstR {X : Cx} {e : Expr} (vs : List V) (h : rowL e = some vs) : PE X e (tLst (tRow vs)) := by
  unfold rowL at h
  split at h
  · exact pe_lst (pa_row vs h)
  · cases h
end L2
set_option Elab.async false
set_option linter.all false
set_option maxRecDepth 100000
set_option maxHeartbeats 4000000
namespace L2
open PySem
abbrev DRow := Str × (Str ⊕ Int)
abbrev En := Str → Int
abbrev Res := List DRow × (Int ⊕ Str)
def askR (x : Str) : DRow := ("ask", .inl x)
def sayR (n : Int) : DRow := ("say", .inr n)
def Bin.op : Bin → Int → Int → Int
  | .add, m, n => (m + n) % 10 ^ 30
  | .sub, m, n => (m - n) % 10 ^ 30
  | .mul, m, n => (m * n) % 10 ^ 30
  | .thn, _, n => n
def En.set (e : En) (x : Str) (n : Int) : En := fun y => if y = x then n else e y
def pre (D : List DRow) (o : Option Res) : Option Res := o.map fun q => (D ++ q.1, q.2)
def seqR (r : Option Res) (k : Int → Option Res) : Option Res := r.bind fun r => match r.2 with
  | .inr w => some (r.1, .inr w)
  | .inl n => pre r.1 (k n)
def ev (a : En) : Tr → En → Option Res
  | .num n, _ => some ([], .inl n)
  | .name x, e => some ([], .inl (e x))
  | .ask x, _ => some ([askR x], .inl (a x))
  | .stop x, _ => some ([], .inr x)
  | .gap _ _, _ => none
  | .say t, e => seqR (ev a t e) fun n => some ([sayR n], .inl n)
  | .bin o s t, e => seqR (ev a s e) fun m => seqR (ev a t e) fun n => some ([], .inl (o.op m n))
  | .ite c s t, e => seqR (ev a c e) fun n => if n = 0 then ev a t e else ev a s e
  | .lett x s t, e => seqR (ev a s e) fun n => ev a t (e.set x n)
def aft (a : En) (t : Tr) (e : En) (E : List Int) : Option (Option Res × List Int) :=
  match t with
  | .say _ => match E with
    | n :: E => some (some ([sayR n], .inl n), E)
    | _ => none
  | .bin .thn _ t => match E with
    | _ :: E => some (ev a t e, E)
    | _ => none
  | .bin o _ _ => match E with
    | n :: m :: E => some (some ([], .inl (o.op m n)), E)
    | _ => none
  | .ite _ s t => match E with
    | n :: E => some (if n = 0 then ev a t e else ev a s e, E)
    | _ => none
  | .lett x _ t => match E with
    | n :: E => some (ev a t (e.set x n), E)
    | _ => none
  | _ => none
abbrev Item := Tr × En × Bool
def cont (a : En) : List Item → List Int → Option Res
  | [], [] => none
  | [], n :: _ => some ([], .inl n)
  | (t, e, false) :: W, E => seqR (ev a t e) fun n => cont a W (n :: E)
  | (t, e, true) :: W, E => (aft a t e E).bind fun p => seqR p.1 fun n => cont a W (n :: p.2)
section
variable {a e : En} {W : List Item} {E : List Int}
end
end L2
set_option Elab.async false
set_option linter.all false
set_option maxRecDepth 100000
set_option maxHeartbeats 4000000
namespace L2
open PySem PySem.Spec PyProof.Rows
section
variable {P : Program} {w : World} {K : PySem.W.Frag} {mg : Str → Option Value} {base : Heap}
structure FnM (P : Program) (w : World) (K : PySem.W.Frag) (mg : Str → Option Value) (base : Heap) (k : Nat) (C : Addr) (m : Str) (f : Addr) (fd : FuncData) (ps : List Str) (sp : Sp) : Prop where
  ok : FnOk P w K mg base CX0 k f fd ps sp
  bd : Binds K fd ps []
  mt : Meth K C m f
theorem FnM.up {j k : Nat} {C : Addr} {m : Str} {f : Addr} {fd : FuncData} {ps : List Str} {sp : Sp} (F : FnM P w K mg base j C m f fd ps sp) (h : j ≤ k) : FnM P w K mg base k C m f fd ps sp := ⟨F.ok.mono h, F.bd, F.mt⟩
end
end L2
set_option Elab.async false
set_option linter.all false
set_option maxRecDepth 100000
set_option maxHeartbeats 4000000
namespace L2
open PySem PySem.Spec PyProof.Rows
section
variable {prog : Program} {w : World} {A : Around} {E : Value → Shared → Prop} {s : Shared}
end
end L2
set_option Elab.async false
set_option linter.all false
set_option maxRecDepth 100000
set_option maxHeartbeats 4000000
namespace L2
open PySem PySem.Spec PyProof.Rows
end L2
set_option Elab.async false
set_option linter.all false
set_option maxRecDepth 100000
set_option maxHeartbeats 4000000
namespace L2
open PySem PySem.Spec PyProof.Rows
end L2
set_option Elab.async false
set_option linter.all false
set_option maxRecDepth 100000
set_option maxHeartbeats 4000000
namespace L2
open PySem PySem.Spec PyProof.Rows
section
variable {prog : Program} {w : World}
open AutoSeq1 (wpAny_loadPart')
open MeetsSeq MeetsSeq2 MeetsSeq3 SeqAt
end
end L2
set_option Elab.async false
set_option linter.all false
set_option maxRecDepth 100000
set_option maxHeartbeats 1000000
namespace L2
open PySem PySem.Spec PyProof.Rows
section
variable {X : Cx}
end
end L2
set_option Elab.async false
set_option linter.all false
set_option maxRecDepth 100000
set_option maxHeartbeats 4000000
namespace L2
open PySem PySem.Spec PyProof.Rows
inductive Dt where
  | int (i : Int) | str (x : Str) | tup (ds : List Dt)
mutual
def Dt.beq : Dt → Dt → Bool
  | .int i, .int j => decide (i = j)
  | .str x, .str y => decide (x = y)
  | .tup ds, .tup es => Dt.beqs ds es
  | _, _ => false
def Dt.beqs : List Dt → List Dt → Bool
  | [], [] => true
  | d :: ds, e :: es => Dt.beq d e && Dt.beqs ds es
  | _, _ => false
end
mutual
theorem Dt.beq_iff : ∀ {d e : Dt}, Dt.beq d e = true ↔ d = e
  | .int i, .int j => by simp [Dt.beq]
  | .str x, .str y => by simp [Dt.beq]
  | .tup ds, .tup es => by
    have := Dt.beqs_iff (ds := ds) (es := es)
    simp [Dt.beq, this]
  | .int _, .str _ => by simp [Dt.beq]
  | .int _, .tup _ => by simp [Dt.beq]
  | .str _, .int _ => by simp [Dt.beq]
  | .str _, .tup _ => by simp [Dt.beq]
  | .tup _, .int _ => by simp [Dt.beq]
  | .tup _, .str _ => by simp [Dt.beq]
theorem Dt.beqs_iff : ∀ {ds es : List Dt}, Dt.beqs ds es = true ↔ ds = es
  | [], [] => by simp [Dt.beqs]
  | [], _ :: _ => by simp [Dt.beqs]
  | _ :: _, [] => by simp [Dt.beqs]
  | d :: ds, e :: es => by
    have h1 := Dt.beq_iff (d := d) (e := e)
    have h2 := Dt.beqs_iff (ds := ds) (es := es)
    simp [Dt.beqs, h1, h2]
end
mutual
def Dt.deep : Dt → Nat
  | .tup ds => Dt.deeps ds + 1
  | _ => 0
def Dt.deeps : List Dt → Nat
  | [] => 0
  | d :: ds => max (Dt.deep d) (Dt.deeps ds)
end
mutual
inductive DR (H : Hp) : Dt → V → Prop
  | int (i : Int) : DR H (.int i) (.int i)
  | str (x : Str) : DR H (.str x) (.str x)
  | tup {a : Addr} {xs : List V} {ds : List Dt} : H a = some (.tup xs) → DRs H ds xs → DR H (.tup ds) (.ref a)
inductive DRs (H : Hp) : List Dt → List V → Prop
  | nil : DRs H [] []
  | cons {d : Dt} {v : V} {ds : List Dt} {vs : List V} : DR H d v → DRs H ds vs → DRs H (d :: ds) (v :: vs)
end
section
variable {X : Cx} {pins : List (Addr × Obj)} {σ : St} {H : Hp} {s : Shared}
end
end L2
set_option Elab.async false
set_option linter.all false
set_option maxRecDepth 100000
set_option maxHeartbeats 4000000
namespace L2
open PySem PySem.Spec PyProof.Rows
section
variable {prog : Program} {w : World} {A : Around} {E : Value → Shared → Prop} {s : Shared}
end
section
variable {prog : Program} {w : World} {A : Around} {E : Value → Shared → Prop} {s : Shared}
end
end L2
set_option Elab.async false
set_option linter.all false
set_option maxRecDepth 100000
set_option maxHeartbeats 4000000
namespace L2
open PySem PySem.Spec PyProof.Rows
end L2
set_option Elab.async false
set_option linter.all false
set_option maxRecDepth 100000
set_option maxHeartbeats 4000000
namespace L2
open PySem PySem.Spec PyProof.Rows
section
variable {X : Cx}
theorem bools_back : ∀ {bs : List Bool} {us : List Value}, Vals (bs.map V.bl) us → LSm.BoolsAre us bs
  | [], _, h => by cases h; exact .nil
  | b :: bs, _, h => by
    cases h with
    | cons r t =>
      cases r
      exact .cons b (bools_back t)
structure KDic (K : PySem.W.Frag) (P : Params) (d : Addr) : Prop where
  ex : ∃ (es : Array DictEntry) (n : Nat), K.lookup d = some ⟨.type "dict", none, .dict es n, #[]⟩ ∧ PySem.W.KeysLit P es.toList
  sy : (d == sysModules) = false
def rIxK (d : Addr) : R2 := fun x y H Q => ∃ (z : Str) (r : Value) (v : V), x = .ref d ∧ y = .str z ∧ PySem.W.nsIn X.K d z = some (some r) ∧ RelV v r ∧ Q v H
theorem ix_kd {d : Addr} (k : KDic X.K X.w.params d) : IxR X (rIxK (X := X) d) := by
  intro value slice pins s σ H x y v u Q I rx ry h hs
  obtain ⟨z, r, vv, rfl, rfl, e, rv, q⟩ := h
  cases rx
  obtain ⟨t, rfl⟩ := ry
  obtain ⟨es, n, hl, hk⟩ := k.ex
  have hm := PySem.W.mapOf_K (prog := X.prog) (w := X.w) I.kIn hl hk
  exact tail_any hm.typeIs slot_dict_getitem.lookup (wpAny_getItem_of (strKind_is X.prog X.w z t) hm (PySem.W.find_K hl e) ⟨vv, H, I.tok _, rv, q⟩) hs
end
structure Sd (p : Prop) : Prop where
  un : p
section
variable {X : Cx} {st : Stmt} {rest : List Stmt} {t u : TS} {e a b : Expr} {es : List Expr} {te ta tb : TE} {tA : TA} {pos : Pos}
theorem pss_consS (h1 : Sd (PS X st t)) (h2 : Sd (PSs X rest u)) : Sd (PSs X (st :: rest) (tSeq t u)) := ⟨pss_cons h1.un h2.un⟩
theorem pss_oneS (h1 : Sd (PS X st t)) : Sd (PSs X [st] t) := ⟨pss_one h1.un⟩
theorem ps_ifS {c : Expr} {x y : List Stmt} {tc : TT} (hc : Sd (PT X c tc)) (ha : Sd (PSs X x t)) (hb : Sd (PSs X y u)) : Sd (PS X (.If c x y pos) (tIfS tc t u)) := ⟨ps_if hc.un ha.un hb.un⟩
theorem ps_retS (he : Sd (PE X e te)) : Sd (PS X (.Return (some e) pos) (tRet te)) := ⟨ps_ret he.un⟩
theorem ps_setS {i : Nat} {x : Str} {pos' : Pos} (hN : X.N.Nodup) (hi : X.N[i]? = some x) (hx : Loc X.env.scope x) (he : Sd (PE X e te)) (hs : swapsWith e (some (.Name x pos')) pos.line X.env = pure false := by rfl) (hf : X.fn x = true ∨ X.env.scope.names.lookup x = some .local := by first | exact .inl rfl | exact .inr rfl | assumption) :
    Sd (PS X (.Assign [.Name x pos'] e pos) (tAsg te (gName i))) := ⟨ps_set hN hi hx he.un hs hf⟩
theorem pe_lstS (h : Sd (PA X es tA)) : Sd (PE X (.List es pos) (tLst tA)) := ⟨pe_lst h.un⟩
theorem pa_consS (ha : Sd (PE X e te)) (hr : Sd (PA X es tA)) (hs : starEach (e :: es) X.env = (false, eval e X.env) :: starEach es X.env := by rfl) : Sd (PA X (e :: es) (tCons te tA)) := ⟨pa_cons ha.un hr.un hs⟩
theorem pe_ixS {r : R2} (hr : IxR X r) (ha : Sd (PE X a ta)) (hb : Sd (PE X b tb)) (hs : PlainIx b) : Sd (PE X (.Subscript a b pos) (tOp r ta tb)) := ⟨pe_ix hr ha.un hb.un hs⟩
end
end L2
set_option Elab.async false
set_option linter.all false
set_option maxRecDepth 100000
set_option maxHeartbeats 4000000
namespace L2
open PySem PySem.Spec PyProof.Rows
section
variable {prog : Program} {w : World} {A : Around} {E : Value → Shared → Prop} {s : Shared}
end
end L2
set_option Elab.async false
set_option linter.all false
namespace L2
open PySem PySem.Spec PyProof.Rows
section
variable {X : Cx}
end
section
variable {prog : Program} {w : World} {A : Around} {E : Value → Shared → Prop} {s : Shared}
end
end L2
set_option Elab.async false
set_option linter.all false
set_option maxRecDepth 100000
set_option maxHeartbeats 4000000
namespace L2
open PySem PySem.Spec PyProof.Rows
section
variable {X : Cx}
theorem range_anyB (bs : List Bool) : ((List.range bs.length).any fun i => (bs[i]?).getD false) = bs.any id := by
  rw [Bool.eq_iff_iff, List.any_eq_true, List.any_eq_true]
  constructor
  · rintro ⟨i, hi, h⟩
    have hl := List.mem_range.mp hi
    rw [List.getElem?_eq_getElem hl] at h
    exact ⟨bs[i], List.getElem_mem hl, h⟩
  · rintro ⟨b, hb, h⟩
    obtain ⟨i, hl, e⟩ := List.getElem_of_mem hb
    exact ⟨i, List.mem_range.mpr hl, by rw [List.getElem?_eq_getElem hl, e]; exact h⟩
theorem call_anyL (hc : X.calm = true) : CallR X (.builtin "any") (fun xs H Q => ∃ (l : Addr) (bs : List Bool), xs = [.ref l] ∧ H l = some (.lst (bs.map V.bl)) ∧ Q (.bl (bs.any id)) H) := by
  intro pins s σ H xs us Q I r h
  obtain ⟨l, bs, rfl, hl, q⟩ := h
  obtain ⟨u, rfl, ru⟩ := vals1 r
  cases ru
  obtain ⟨_, its, n, rv, le, e⟩ := I.lstM hl
  have L1 : s.heap.IsList l its.toArray := ⟨_, e, rfl, _, rfl⟩
  have hb := bools_back rv
  have hlt : l < s.heap.objs.size := Heap.lt_size e
  refine call_any_walk (wpAny_pyIter_list L1 ?_)
  refine ⟨s.heap.objs.size, [s.heap.objs.size, l], [s.heap.objs.size], its.toArray.size, _, _, fun i => (bs[i]?).getD false, rfl, Walks.list (A := X.A.in1) (I.ok.hd hc) _ l (Nat.ne_of_lt hlt) its.toArray,
    ⟨⟨_, Heap.get?_push_size _ rfl, rfl, rfl⟩, L1.push _⟩, fun i v s' Q' E' hP hQ => ?_, fun h' tk hk => ?_⟩
  · obtain ⟨b, e, rfl⟩ := hb.get i v (by simpa using hP)
    simp only [e, Option.getD_some] at hQ
    exact wpAny_truthy_bool hQ
  · have e : ((List.range its.toArray.size).any fun i => (bs[i]?).getD false) = bs.any id := by
      rw [List.size_toArray, hb.length]; exact range_anyB bs
    rw [e]
    exact ⟨.bl (bs.any id), H, I.kept (LSm.kept_iter hk), rfl, q⟩
end
end L2
set_option Elab.async false
set_option linter.all false
set_option maxRecDepth 100000
set_option maxHeartbeats 4000000
namespace L2
open PySem PySem.Spec PyProof.Rows
section
variable {X : Cx}
open Classical in
noncomputable def eqW (H : Hp) (dx : Dt) (w : Value) : Bool := decide (∃ x d, RelV x w ∧ DR H d x ∧ Dt.beq d dx = true)
end
end L2
set_option linter.all false
set_option maxRecDepth 100000
set_option maxHeartbeats 4000000
namespace PySem
open Sem (wp)
namespace F
end F
section
variable {prog : Program} {w : World} {K : Type} [DecidableEq K] {knd : KeyKind prog w K} {A : Around} {R : Result → Shared → Prop} {E : Value → Shared → Prop}
end
end PySem
set_option Elab.async false
set_option linter.all false
set_option maxRecDepth 100000
set_option maxHeartbeats 4000000
namespace L2
open PySem PySem.Spec PyProof.Rows
section
variable {X : Cx}
end
end L2
set_option linter.all false
set_option maxRecDepth 100000
set_option maxHeartbeats 4000000
namespace L2
open PySem PySem.W PyProof.Rows
section
variable {n : Nat} {r : Nat → Nat → Bool}
abbrev lt (r : Nat → Nat → Bool) (p : Array Nat) (i j : Nat) : Bool := r (p.getD i 0) (p.getD j 0)
end
end L2
set_option linter.all false
set_option maxRecDepth 100000
set_option maxHeartbeats 4000000
namespace L2
end L2
namespace PySem
open PySem.Calls PyProof.Rows PySem.W L2
open AutoSeq1 (wpAny_loadPart')
end PySem
set_option linter.all false
set_option maxRecDepth 100000
set_option maxHeartbeats 4000000
namespace PySem
open PySem.Calls PyProof.Rows PySem.W L2
section
variable {prog : Program} {w : World} {A : Around} {E : Value → Shared → Prop} {s : Shared}
end
end PySem
set_option Elab.async false
set_option linter.all false
set_option maxRecDepth 100000
set_option maxHeartbeats 4000000
namespace L2
open PySem PySem.Spec PyProof.Rows PySem.W
section
variable {X : Cx}
end
end L2
set_option Elab.async false
set_option linter.all false
set_option maxRecDepth 100000
set_option maxHeartbeats 4000000
namespace PySem
open AutoSeq1
end PySem
namespace L2
open PySem PySem.Spec PyProof.Rows
section
variable {X : Cx}
end
end L2
set_option linter.all false
set_option maxRecDepth 100000
set_option maxHeartbeats 4000000
namespace L2
open PySem PySem.W PyProof.Rows
section
variable {n : Nat} {r : Nat → Nat → Bool}
end
end L2
set_option Elab.async false
set_option linter.all false
set_option maxRecDepth 100000
set_option maxHeartbeats 4000000
namespace L2
open PySem PySem.Spec PyProof.Rows PySem.W
instance : DecidableEq Dt := fun d e => decidable_of_iff (Dt.beq d e = true) Dt.beq_iff
mutual
inductive DA (h : Heap) : Dt → Value → Prop
  | int (i : Int) (t : Tok) : DA h (.int i) (.int i t)
  | str (x : Str) (t : Tok) : DA h (.str x) (.str x t)
  | tup {a : Addr} {items : Array Value} {ds : List Dt} : h.IsTuple a items → DAs h ds items.toList → DA h (.tup ds) (.ref a)
inductive DAs (h : Heap) : List Dt → List Value → Prop
  | nil : DAs h [] []
  | cons {d : Dt} {u : Value} {ds : List Dt} {us : List Value} : DA h d u → DAs h ds us → DAs h (d :: ds) (u :: us)
end
section
variable {P : Program} {w : World} {H : Hp} {h : Heap}
end
section
variable {s : Shared}
end
mutual
def Dt.hsh (w : World) : Dt → Int
  | .int i => hashInt i
  | .str x => hashStr w x
  | .tup ds => reduceHash (Builtin.Tuple.tupleHashOf (Dt.hshs w ds))
def Dt.hshs (w : World) : List Dt → List Int
  | [] => []
  | d :: ds => Dt.hsh w d :: Dt.hshs w ds
end
mutual
def Dt.draws : Dt → Nat
  | .int _ => 1
  | .str _ => 1
  | .tup ds => Dt.drawss ds + 1
def Dt.drawss : List Dt → Nat
  | [] => 0
  | d :: ds => Dt.draws d + Dt.drawss ds
end
section
variable {prog : Program} {w : World} {E : Value → Shared → Prop}
end
end L2
set_option Elab.async false
set_option linter.all false
set_option maxRecDepth 100000
set_option maxHeartbeats 4000000
namespace L2
open PySem PySem.Spec PyProof.Rows PySem.W
def strLt (x y : Str) : Bool := decide (x.cps.toList < y.cps.toList)
mutual
def Dt.lt : Dt → Dt → Bool
  | .int i, .int j => decide (i < j)
  | .str x, .str y => strLt x y
  | .tup ds, .tup es => Dt.lts ds es
  | .int _, .str _ => true
  | .int _, .tup _ => true
  | .str _, .tup _ => true
  | .str _, .int _ => false
  | .tup _, .int _ => false
  | .tup _, .str _ => false
def Dt.lts : List Dt → List Dt → Bool
  | [], [] => false
  | [], _ :: _ => true
  | _ :: _, [] => false
  | d :: ds, e :: es => if Dt.beq d e = true then Dt.lts ds es else Dt.lt d e
end
inductive Ty where
  | int | str | many (t : Ty) | two (a b : Ty)
mutual
def Dt.has : Ty → Dt → Bool
  | .int, .int _ => true
  | .str, .str _ => true
  | .many t, .tup ds => Dt.hass t ds
  | .two a b, .tup ds => Dt.hasp a b ds
  | _, _ => false
def Dt.hass : Ty → List Dt → Bool
  | _, [] => true
  | t, d :: ds => Dt.has t d && Dt.hass t ds
def Dt.hasp : Ty → Ty → List Dt → Bool
  | a, b, d :: es => Dt.has a d && Dt.hasq b es
  | _, _, _ => false
def Dt.hasq : Ty → List Dt → Bool
  | b, e :: es => Dt.has b e && (es.length == 0)
  | _, _ => false
end
mutual
def Dt.cmp : Dt → Dt → Bool
  | .int _, .int _ => true
  | .str _, .str _ => true
  | .tup ds, .tup es => Dt.cmps ds es
  | _, _ => false
def Dt.cmps : List Dt → List Dt → Bool
  | [], _ => true
  | _ :: _, [] => true
  | d :: ds, e :: es => if Dt.beq d e = true then Dt.cmps ds es else Dt.cmp d e
end
end L2
set_option Elab.async false
set_option linter.all false
set_option maxRecDepth 100000
set_option maxHeartbeats 4000000
namespace L2
open PySem PySem.Calls PySem.Spec PyProof.Rows PySem.W
open AutoSeq1 (wpAny_loadPart')
end L2
set_option Elab.async false
set_option linter.all false
set_option maxRecDepth 100000
set_option maxHeartbeats 4000000
namespace L2
open PySem PySem.Calls PySem.Spec PyProof.Rows PySem.W
section
variable {prog : Program} {w : World} {A : Around} {E : Value → Shared → Prop} {s : Shared}
end
end L2
set_option Elab.async false
set_option linter.all false
set_option maxRecDepth 100000
set_option maxHeartbeats 4000000
namespace L2
open PySem PySem.Calls PySem.Spec PyProof.Rows PySem.W
section
variable {prog : Program} {w : World} {A : Around} {E : Value → Shared → Prop} {s : Shared}
end
end L2
set_option Elab.async false
set_option linter.all false
set_option maxRecDepth 100000
set_option maxHeartbeats 4000000
namespace L2
open PySem PySem.W PyProof.Rows
structure LtE (M : Model) (A : Around) (E : Value → Shared → Prop) (s : Shared) (κ : SortKind) (G : Keyed → Prop) (R : Keyed → Keyed → Bool) : Prop where
  lt : ∀ x y, G x → G y → ∀ (st : SortSt) (Q : Option Bool → SortSt → Prop), kindOf st = κ → Q (some (R x y)) st → wpS M A E s (lt' x y) Q st
  asym : ∀ x y, G x → G y → R x y = true → R y x = false
  tr : ∀ x y z, G x → G y → G z → R x y = false → R y z = false → R x z = false
section
variable {M : Model} {A : Around} {E : Value → Shared → Prop} {s : Shared} {κ : SortKind} {G : Keyed → Prop} {R : Keyed → Keyed → Bool}
end
end L2
set_option Elab.async false
set_option linter.all false
set_option maxRecDepth 100000
set_option maxHeartbeats 4000000
namespace L2
open PySem PySem.W PyProof.Rows
section
variable {R : Keyed → Keyed → Bool} {A B o as bs p : List Keyed}
end
section
variable {M : Model} {A : Around} {E : Value → Shared → Prop} {s : Shared} {κ : SortKind} {G : Keyed → Prop} {R : Keyed → Keyed → Bool}
abbrev d0 : Keyed := (.none, .none)
section
variable {a b o : Array Keyed} {ia ib k : Nat}
end
end
end L2
set_option Elab.async false
set_option linter.all false
set_option maxRecDepth 100000
set_option maxHeartbeats 4000000
namespace L2
open PySem PySem.W PyProof.Rows
section
variable {M : Model} {A : Around} {E : Value → Shared → Prop} {s : Shared} {κ : SortKind} {G : Keyed → Prop} {R : Keyed → Keyed → Bool}
end
end L2
set_option Elab.async false
set_option linter.all false
set_option maxRecDepth 100000
set_option maxHeartbeats 4000000
namespace L2
open PySem PySem.W PyProof.Rows
section
variable {M : Model} {A : Around} {E : Value → Shared → Prop} {s : Shared} {κ : SortKind} {G : Keyed → Prop} {R : Keyed → Keyed → Bool}
section
variable {a b o : Array Keyed} {na nb k : Nat}
end
end
end L2
set_option Elab.async false
set_option linter.all false
set_option maxRecDepth 100000
set_option maxHeartbeats 4000000
namespace L2
open PySem PySem.W PyProof.Rows
section
variable {M : Model} {A : Around} {E : Value → Shared → Prop} {s : Shared} {κ : SortKind} {G : Keyed → Prop} {R : Keyed → Keyed → Bool}
end
end L2
set_option Elab.async false
set_option linter.all false
set_option maxRecDepth 100000
set_option maxHeartbeats 4000000
namespace L2
open PySem PySem.W PyProof.Rows
section
variable {M : Model} {A : Around} {E : Value → Shared → Prop} {s : Shared} {κ : SortKind} {G : Keyed → Prop} {R : Keyed → Keyed → Bool}
end
end L2
set_option Elab.async false
set_option linter.all false
set_option maxRecDepth 100000
set_option maxHeartbeats 4000000
namespace L2
open PySem PySem.W PyProof.Rows
section
variable {M : Model} {A : Around} {E : Value → Shared → Prop} {s : Shared} {κ : SortKind} {G : Keyed → Prop} {R : Keyed → Keyed → Bool} {a₀ : Array Keyed}
end
end L2
set_option Elab.async false
set_option linter.all false
set_option maxRecDepth 100000
set_option maxHeartbeats 4000000
namespace L2
open PySem PySem.Calls PySem.W PyProof.Rows
section
variable {prog : Program} {w : World} {A : Around} {E : Value → Shared → Prop} {s : Shared} {κ : SortKind} {G : Keyed → Prop} {R : Keyed → Keyed → Bool}
end
end L2
set_option Elab.async false
set_option linter.all false
set_option maxRecDepth 100000
set_option maxHeartbeats 4000000
namespace L2
open PySem PySem.Calls PySem.Spec PySem.W PyProof.Rows
open Classical in
noncomputable def dtOf (h : Heap) (v : Value) : Dt := if e : ∃ d, DA h d v then e.choose else .tup []
section
variable {prog : Program} {w : World} {A : Around} {E : Value → Shared → Prop} {s : Shared}
end
end L2
set_option Elab.async false
set_option linter.all false
set_option maxRecDepth 100000
set_option maxHeartbeats 4000000
namespace L2
open PySem PySem.Calls PySem.Spec PyProof.Rows PySem.W
section
variable {X : Cx}
end
end L2
set_option Elab.async false
set_option linter.all false
set_option maxRecDepth 100000
set_option maxHeartbeats 4000000
namespace L2
open PySem PySem.Calls PySem.Spec PyProof.Rows PySem.W
abbrev XN := List (Dt × Addr × V)
section
variable {P : Program} {w : World} {H H' : Hp} {h : Heap} {a : Addr} {kvs : List (Dt × V)}
end
section
variable {X : Cx} {pins : List (Addr × Obj)} {σ : L2.St} {H : Hp} {s : Shared} {a b : Addr} {k : Dt} {kvs : List (Dt × V)} {v : V} {A : Around} {E : Value → Shared → Prop}
end
end L2
set_option Elab.async false
set_option linter.all false
set_option maxRecDepth 100000
set_option maxHeartbeats 4000000
namespace PySem
open Sem (wp)
section
variable {prog : Program} {w : World} {A : Around} {E : Value → Shared → Prop} {s : Shared} {d it : Addr} {es : Array DictEntry} {ep i : Nat}
end
end PySem
namespace PySem.W
open PySem
section
variable {prog : Program} {w : World} {d r : Addr} {es : Array DictEntry} {ep : Nat}
end
end PySem.W
set_option Elab.async false
set_option linter.all false
set_option maxRecDepth 100000
set_option maxHeartbeats 4000000
namespace PySem.W
open PySem PySem.Spec PySem.Calls PyProof.Rows
def ExAt (x D : Addr) (h : Heap) : Prop := ∃ o vs, h.get? x = some o ∧ o.cls = .ref D ∧ o.data = .fields vs
theorem ExAt.ty {x D : Addr} {h : Heap} (p : ExAt x D h) (M : Model) : Looks M h (typeOf (.ref x)) (.ref D) := by
  obtain ⟨o, vs, h1, h2, _⟩ := p
  exact h2 ▸ (Looks.ld h1).andThen .now
section
variable {prog : Program} {w : World} {A : Around} {E : Value → Shared → Prop} {K : Frag} {x D : Addr} {h : Heap} {g : Array GenState} {d : Drawn} {t : Nat} {os : OsState}
theorem ex_check_ga {M : Model} {nameV : Value} {Q : Unit → Shared → Prop} (X : K.In h) (p : ExAt x D h) (hb : mroIn K D (.type "BaseException") = some true) (hq : Q () ⟨h, g, d, t, os⟩) :
    wpAny M A (checkBuiltinCall "BaseException.__getattribute__" ⟨[.ref x, nameV], []⟩) Q E ⟨h, g, d, t, os⟩ := by
  have hk : builtinKind "BaseException.__getattribute__" = some .slot := by decide +kernel
  have hsplit : splitId "BaseException.__getattribute__" = some ("BaseException", "__getattribute__") := by decide +kernel
  have ha := F.args_bexc_ga (.ref x) nameV
  have L0 := p.ty M
  have L1 := looks_mroIn (M := M) X hb
  simp only [checkBuiltinCall, hk, hsplit]
  unfold isInstance
  refine wpAny_bind (wpAny_bind (L0.at (L1.at ?_)))
  repeat (first | wp_step)
  exact hq
theorem ex_class_get {tp : Value} {R : Result → Shared → Prop} (X : K.In h) (p : ExAt x D h) (hm : mroIn K D (.type "object") = some true) (hq : R (.ok (.ret (.ref D))) ⟨h, g, d, t, os⟩) :
    codeAny (model prog w) A (.call (.builtin "getset_descriptor.__get__") ⟨[.builtin "object.__class__", .ref x, tp], []⟩) R ⟨h, g, d, t, os⟩ := by
  have L0 := p.ty (model prog w)
  have L1 := looks_mroIn (M := model prog w) X hm
  have hT5 : (⟨h, g, d, t, os⟩ : Shared).TypeIs (.builtin "object.__class__") "getset_descriptor" := F.typeOf_object_class
  refine codeAny_call_builtin F.slot_gs_get.plain F.entry_gs_get (F.slot_gs_get.check _ _ _ _ _ _ _ _ hT5 (F.args_gs_get _ _ _) ?_)
  repeat (any_goals (first | assumption | with_reducible refine L0.at ?_ | (rw [F.owner_object_class]; with_reducible refine L1.at ?_) | wp_step))
  refine ⟨Code.quiet_builtin _ (by decide +kernel), codeAny_builtin F.entry_object_class ?_⟩
  repeat (any_goals (first | assumption | with_reducible refine L0.at ?_ | wp_step))
theorem ex_class_entry {tk : Tok} {Q : Fin → Shared → Prop} (X : K.In h) (p : ExAt x D h) (hc : findIn K (.ref D) "__class__" = some (some (.builtin "object.__class__"))) (hm : mroIn K D (.type "object") = some true) (hq : Q (.done (.ret (.ref D))) ⟨h, g, d, t, os⟩) :
    wpAny (model prog w) A (Builtin.«object.__getattribute__» ⟨[.ref x, .str "__class__" tk], []⟩) Q E ⟨h, g, d, t, os⟩ := by
  have f5 := F.typeOf_object_class
  have f6 := F.slot_gs_get.lookup
  have f7 := F.slot_gs_set.lookup
  have L0 := p.ty (model prog w)
  have L1 := looks_findIn (M := model prog w) X hc
  have hT5 : (⟨h, g, d, t, os⟩ : Shared).TypeIs (.builtin "object.__class__") "getset_descriptor" := F.typeOf_object_class
  repeat (any_goals (first | assumption | with_reducible refine L0.at ?_ | with_reducible refine L1.at ?_ | wp_step))
  refine ex_class_get X p hm ?_
  repeat (any_goals (first | assumption | wp_step))
theorem ex_class_by {tk : Tok} {Q : Value → Shared → Prop} (X : K.In h) (p : ExAt x D h) (hga : findIn K (.ref D) "__getattribute__" = some (some (.builtin "BaseException.__getattribute__"))) (hgt : findIn K (.ref D) "__getattr__" = some none)
    (hb : mroIn K D (.type "BaseException") = some true) (hc : findIn K (.ref D) "__class__" = some (some (.builtin "object.__class__"))) (hm : mroIn K D (.type "object") = some true) (hq : Q (.ref D) ⟨h, g, d, t, os⟩) :
    wpAny (model prog w) A (getAttrBy (.ref x) (.str "__class__" tk) false false) Q E ⟨h, g, d, t, os⟩ := by
  have L0 := p.ty (model prog w)
  have L1 := looks_findIn (M := model prog w) X hga
  have L2 := looks_findIn (M := model prog w) X hgt
  have f3 := F.attr_ValueError.ga.bind (.ref x)
  have hx2 : (Value.builtin "BaseException.__getattribute__" == Value.builtin "object.__getattribute__") = false := by decide +kernel
  have hx1 : (onTheHeap (Value.ref D) && Value.builtin "BaseException.__getattribute__" == Value.builtin "object.__getattribute__") = false := by rw [hx2]; rfl
  repeat (any_goals (first | assumption | with_reducible refine L0.at ?_ | with_reducible refine L1.at ?_ | with_reducible refine L2.at ?_ | wp_step))
  refine codeAny_call_builtin F.attr_ValueError.ga.plain F.entry_bexc_ga (ex_check_ga X p hb (ex_class_entry X p hc hm ?_))
  repeat (any_goals (first | assumption | wp_step))
theorem ex_class {Q : Option Value → Shared → Prop} (X : K.In h) (p : ExAt x D h) (hga : findIn K (.ref D) "__getattribute__" = some (some (.builtin "BaseException.__getattribute__"))) (hgt : findIn K (.ref D) "__getattr__" = some none)
    (hb : mroIn K D (.type "BaseException") = some true) (hc : findIn K (.ref D) "__class__" = some (some (.builtin "object.__class__"))) (hm : mroIn K D (.type "object") = some true) (hq : Q (some (.ref D)) ⟨h, g, d, t + 1, os⟩) :
    wpAny (model prog w) A (getAttr? (.ref x) "__class__") Q E ⟨h, g, d, t, os⟩ := by
  unfold getAttr? getAttrBy?
  repeat (any_goals (first | assumption | with_reducible apply ex_class_by X p hga hgt hb hc hm | wp_step))
end
structure ExCls (K : Frag) (D : Addr) : Prop where
  ga : findIn K (.ref D) "__getattribute__" = some (some (.builtin "BaseException.__getattribute__"))
  gt : findIn K (.ref D) "__getattr__" = some none
  bs : mroIn K D (.type "BaseException") = some true
  cl : findIn K (.ref D) "__class__" = some (some (.builtin "object.__class__"))
  ob : mroIn K D (.type "object") = some true
  ic : (clsIn K D).isSome = true
theorem kitx_exc {K : Frag} {x D : Addr} (C : ExCls K D) : KitX K (.ref x) (.ref D) (ExAt x D) where
  ty := fun M _ _ p => p.ty M
  it := fun _ _ X _ => by
    have hcD := C.ic
    unfold clsIn at hcD
    split at hcD
    · rename_i c' d' cd' sl' ho
      intro A' Q' E' s' k q
      unfold isType loadHead
      exact wpAny_bind (wpAny_loadPart (k _ _ (X _ _ ho)) (wpAny_pure q))
    · cases hcD
  ne := fun h tp dd its n sl X htp => by
    have hcD := C.ic
    refine Bool.eq_false_iff.mpr fun q => ?_
    have e : D = tp := Value.ref.inj (beq_iff_eq.mp q)
    subst e
    unfold clsIn at hcD
    split at hcD
    · rename_i c' d' cd' sl' ho
      have z := (X _ _ ho).symm.trans htp
      cases z
    · cases hcD
  ca := fun {_ _ _ _ _ s} X p k => by
    obtain ⟨h, g, d, t, os⟩ := s
    exact ex_class X p C.ga C.gt C.bs C.cl C.ob k
end PySem.W
set_option Elab.async false
set_option linter.all false
set_option maxRecDepth 100000
set_option maxHeartbeats 4000000
namespace L2
open PySem PySem.Spec PyProof.Rows
section
variable {P : Program} {w : World} {H H' : Hp} {h h' g : Heap} {a : Addr} {o : HO}
theorem ObjOk.there (x : ObjOk P w H h a o) : ∃ ob, h.get? a = some ob := by
  cases o with
  | lst xs => obtain ⟨_, _, _, _, e⟩ := x; exact ⟨_, e⟩
  | tup xs => obtain ⟨_, _, _, ob, e, _⟩ := x; exact ⟨_, e⟩
  | dK kvs => obtain ⟨_, _, _, _, o, _, _, e, _⟩ := x; exact ⟨_, e⟩
  | dT kvs => obtain ⟨_, _, _, _, o, _, _, e, _⟩ := x; exact ⟨_, e⟩
  | set S n => obtain ⟨o, _, _, _, e, _⟩ := x; exact ⟨_, e⟩
  | ins C dx fs => obtain ⟨_, _, _, e, _⟩ := x; exact ⟨_, e⟩
  | own y => exact x
  | xd fs => obtain ⟨_, ⟨_, _, _, e, _⟩, _⟩ := x; exact ⟨_, e⟩
  | rng lo hi => obtain ⟨_, _, _, e⟩ := x; exact ⟨_, e⟩
  | frz ob u => obtain ⟨e, _⟩ := x; exact ⟨_, e⟩
  | tbl ps => exact ⟨_, (show h.get? a = some _ from x)⟩
  | met f y => exact ⟨_, (show h.get? a = some _ from x)⟩
  | ext φ => obtain ⟨_, e, _⟩ := x; exact e
def Cov (fs : List Addr) (H' : Hp) (h g B : Heap) : Prop := ∀ b o, g.get? b = some o → b ∉ fs → ((∃ o0, h.get? b = some o0) ∨ H' b ≠ none) → B.get? b = some o
theorem moved {fs : List Addr} {B : Heap} (un : Un fs [] H H' h g) (hok : HOk P w H' g) (cov : Cov fs H' h g B) (hfd : ∀ b ∈ fs, H' b = none ∧ ∃ o, g.get? b = some o ∧ ∀ vs, o.data ≠ .fields vs)
    (st : B.StaysIn h') (sm : g.UpToSlots h') : Un fs [] H H' h h' ∧ HOk P w H' h' ∧ Cov fs H' h h' B := by
  refine ⟨⟨fun b o q n nb _ => ?_, fun b o q n hb _ => ?_, un.free, fun b o q _ => ?_, un.tups, un.frzs, un.tbls⟩, fun b u e => ?_, fun b o e nb hz => ?_⟩
  · exact st b o (cov b o (un.keep b o q n nb (by simp)) nb (.inl ⟨o, q⟩))
  · obtain ⟨sl, e⟩ := un.slot b o q n hb (by simp)
    obtain ⟨_, o', e', d⟩ := hfd b hb
    rw [e] at e'; cases e'
    obtain ⟨sl', e2⟩ := sm b _ e d
    exact ⟨sl', e2⟩
  · by_cases hb : b ∈ fs
    · obtain ⟨_, o', e', d⟩ := hfd b hb
      obtain ⟨sl', e2⟩ := sm b _ e' d
      exact ⟨_, e2⟩
    · obtain ⟨o', e⟩ := un.there b o q (by simp)
      exact ⟨o', st b o' (cov b o' e hb (.inl ⟨o, q⟩))⟩
  · refine (hok b u e).stay (fun c v hc q => ?_) (fun _ q => q) fun _ _ q => q
    have hn : H' c ≠ none := by
      rcases hc with z | z
      · rw [z, e]; intro y; cases y
      · rw [z]; intro y; cases y
    exact st c v (cov c v q (fun z => hn (hfd c z).1) (.inr hn))
  · have : ∃ o', g.get? b = some o' := by
      rcases hz with ⟨o0, z⟩ | z
      · exact un.there b o0 z (by simp)
      · cases q : H' b with
        | none => exact absurd q z
        | some u => exact (hok b u q).there
    obtain ⟨o', e'⟩ := this
    have c := cov b o' e' nb hz
    have := st b o' c
    rw [e] at this; cases this
    exact c
end
structure Flew (P : Program) (w : World) (stk : List Env) (H : Hp) (s : Shared) (H' : Hp) (ea C : Addr) (s' : Shared) : Prop where
  os : s'.os = s.os
  bare : AllBare s'.gens
  un : Un (frs stk) [] H H' s.heap s'.heap
  hok : HOk P w H' s'.heap
  new : s.heap.get? ea = none
  hn : H' ea = none
  fly : ∃ (B : Heap) (a0 : Value), Heap.FlyingW B stk ea (.ref C) a0 s'.heap ∧ Cov (frs stk) H' s.heap s'.heap B
def CXF (P : Program) (w : World) : CXT := fun outer H s E e s' => ∃ ea C H', e = .ref ea ∧ Flew P w outer H s H' ea C s' ∧ E (.ref C) none H'
section
variable {X : Cx} {pins : List (Addr × Obj)} {σ : St} {H H' : Hp} {s s' : Shared} {ea C : Addr}
theorem Flew.frd (F : Flew X.prog X.w X.stack H s H' ea C s') (I : Inv X pins σ H s) {B : Heap} {a0 : Value} (hfl : Heap.FlyingW B X.stack ea (.ref C) a0 s'.heap) : ∀ b ∈ frs X.stack, H' b = none ∧ ∃ o, s'.heap.get? b = some o ∧ ∀ vs, o.data ≠ .fields vs := fun b hb => by
  obtain ⟨_, o, e, d⟩ := I.stack.mem hb
  exact ⟨F.un.free b o e (I.stkFree b hb) (by simp), (hfl.2.2.1.mem hb).2⟩
theorem Flew.on (F : Flew X.prog X.w X.stack H s H' ea C s') (I : Inv X pins σ H s) {B : Heap} {a0 : Value} {h' : Heap} (hfl : Heap.FlyingW B X.stack ea (.ref C) a0 s'.heap) (cov : Cov (frs X.stack) H' s.heap s'.heap B)
    (hfl' : Heap.FlyingW B X.stack ea (.ref C) a0 h') (sm : s'.heap.UpToSlots h') : Flew X.prog X.w X.stack H s H' ea C { s' with heap := h' } := by
  obtain ⟨u, k, c⟩ := moved F.un F.hok cov (F.frd I hfl) hfl'.1 sm
  exact ⟨F.os, F.bare, u, k, F.new, F.hn, B, a0, hfl', c⟩
theorem Flew.inv (F : Flew X.prog X.w X.stack H s H' ea C s') (I : Inv X pins σ H s) : Inv X pins σ H' s' := I.call' (ch := []) F.os F.un F.hok F.bare (fun b z => absurd z (by simp))
end
section
variable {P : Program} {w : World} {K : PySem.W.Frag} {mg : Str → Option Value} {base : Heap} {N : List Str} {qual : Str} {scope : Scope} {f : Addr} {cd : Value} {A : Around} {outer : List Env} {s : Shared} {H : Hp} {E : XK}
theorem frame_out {pins : List (Addr × Obj)} {σ : St} {H1 H' : Hp} {s1 : Shared} {h' B : Heap} (I : Inv (cxOf (CXF P w) P w K mg base N qual scope f cd A outer s H E) pins σ H1 s1)
    (U : Un (frs (cxOf (CXF P w) P w K mg base N qual scope f cd A outer s H E).stack) [] H1 H' s1.heap h') (c : Cov (frs (cxOf (CXF P w) P w K mg base N qual scope f cd A outer s H E).stack) H' s1.heap h' B) : Un (frs outer) [] H H' s.heap h' ∧ Cov (frs outer) H' s.heap h' B := by
  have ba : Un (frs outer) [] H H1 s.heap s1.heap := I.base
  have ab : s.heap.objs.size ≤ (cxOf (CXF P w) P w K mg base N qual scope f cd A outer s H E).env.locals := I.ok.above
  have lt : ∀ b o, s.heap.get? b = some o → b ≠ (cxOf (CXF P w) P w K mg base N qual scope f cd A outer s H E).env.locals := fun b o e => Nat.ne_of_lt (Nat.lt_of_lt_of_le (Heap.lt_size e) ab)
  have no : ∀ b, b ≠ (cxOf (CXF P w) P w K mg base N qual scope f cd A outer s H E).env.locals → b ∉ frs outer → b ∉ frs (cxOf (CXF P w) P w K mg base N qual scope f cd A outer s H E).stack := fun b n1 n2 z => by
    rcases List.mem_cons.mp (I.stkSub b z) with q | q
    · exact n1 q
    · exact n2 q
  have hL : H' (cxOf (CXF P w) P w K mg base N qual scope f cd A outer s H E).env.locals = none := by
    obtain ⟨m, ⟨o, _, _, e, _⟩, _⟩ := I.loc
    exact U.free _ o e I.free (by simp)
  refine ⟨⟨fun b o q n nb hx => U.keep b o (ba.keep b o q n nb hx) (ba.free b o q n hx) (no b (lt b o q) nb) hx, fun b o q n hb hx => ?_, fun b o q n hx => ?_, fun b o q hx => ?_, fun b xs q => U.tups b xs (ba.tups b xs q), fun b o u q => U.frzs b o u (ba.frzs b o u q), fun b ps q => ?_⟩, fun b o e nb hz => ?_⟩
  · obtain ⟨sl, e⟩ := ba.slot b o q n hb hx
    obtain ⟨sl', e'⟩ := U.any e (ba.free b o q n hx) hx
    exact ⟨sl', e'⟩
  · obtain ⟨o', e⟩ := ba.there b o q hx
    exact U.free b o' e (ba.free b o q n hx) hx
  · obtain ⟨o', e⟩ := ba.there b o q hx
    exact U.there b o' e hx
  · obtain ⟨m1, e1⟩ := ba.tbls b ps q
    obtain ⟨m2, e2⟩ := U.tbls b _ e1
    exact ⟨m1 ++ m2, by rw [e2, Array.append_assoc]⟩
  · rcases hz with ⟨o0, z⟩ | z
    · obtain ⟨o1, z1⟩ := ba.there b o0 z (by simp)
      exact c b o e (no b (lt b o0 z) nb) (.inl ⟨o1, z1⟩)
    · exact c b o e (no b (fun y => z (by rw [y]; exact hL)) nb) (.inr z)
theorem cxf_pass : Passes (CXF P w) (cxOf (CXF P w) P w K mg base N qual scope f cd A outer s H E) E := by
  rintro pins σ H1 s1 e s' I ⟨ea, C, H', rfl, F, q⟩
  obtain ⟨B, a0, hfl, cov⟩ := F.fly
  refine wpAny_leaves_onW I.ok.frames rfl hfl fun h' x1 x2 => ?_
  obtain ⟨u, k, c⟩ := moved F.un F.hok cov (Flew.frd (X := cxOf (CXF P w) P w K mg base N qual scope f cd A outer s H E) F I hfl) x1.1 x2
  obtain ⟨u2, c2⟩ := frame_out I u c
  refine ⟨ea, C, H', rfl, ⟨F.os.trans I.os, F.bare, u2, k, ?_, F.hn, B, a0, x1, c2⟩, q⟩
  cases z : s.heap.get? ea with
  | none => rfl
  | some o =>
    obtain ⟨o', z'⟩ := (show Un (frs outer) [] H H1 s.heap s1.heap from I.base).there ea o z (by simp)
    rw [F.new] at z'; cases z'
theorem cxf_raise {pins : List (Addr × Obj)} {σ : St} {H1 : Hp} {s1 : Shared} {h1 : Heap} {ea C : Addr} {vs : List Value} (I : Inv (cxOf (CXF P w) P w K mg base N qual scope f cd A outer s H E) pins σ H1 s1) (hx : Heap.MadeExcOf s1.heap h1 ea (.ref C) vs) (q : E (.ref C) none H1) :
    (cxOf (CXF P w) P w K mg base N qual scope f cd A outer s H E).xe (.ref ea) { s1 with heap := h1 } := by
  refine wpAny_leaves_madeW (base := PySem.W.hideAll s1.heap (frs (cxOf (CXF P w) P w K mg base N qual scope f cd A outer s H E).stack)) I.ok.frames rfl (fun b o e => PySem.W.of_hideAll _ e) (PySem.W.funFrames_hide I.stack fun env he b hb => List.mem_filterMap.mpr ⟨env, he, hb⟩) hx fun h' t x1 x2 x3 x4 => ?_
  have cov : Cov (frs (cxOf (CXF P w) P w K mg base N qual scope f cd A outer s H E).stack) H1 s1.heap h1 (PySem.W.hideAll s1.heap (frs (cxOf (CXF P w) P w K mg base N qual scope f cd A outer s H E).stack)) := fun b o e nb hz => by
    have : ∃ o0, s1.heap.get? b = some o0 := by
      rcases hz with z | z
      · exact z
      · cases y : H1 b with
        | none => exact absurd y z
        | some u => exact (I.hok b u y).there
    obtain ⟨o0, z⟩ := this
    have := hx.keeps b o0 z
    rw [e] at this; cases this
    exact PySem.W.hideAll_get _ z nb
  obtain ⟨u, k, c⟩ := moved (Un.kept (fs := frs (cxOf (CXF P w) P w K mg base N qual scope f cd A outer s H E).stack) (ex := []) (H := H1) hx.keeps) (I.hok.kept hx.keeps) cov (fun b hb => by
    obtain ⟨_, o, e, d⟩ := I.stack.mem hb
    exact ⟨I.stkFree b hb, o, hx.keeps b o e, d⟩) x1.1 x4
  obtain ⟨u2, c2⟩ := frame_out I u c
  refine ⟨ea, C, H1, rfl, ⟨I.os, I.bare, u2, k, ?_, ?_, _, _, x1, c2⟩, q⟩
  · cases z : s.heap.get? ea with
    | none => rfl
    | some o =>
      obtain ⟨o', z'⟩ := (show Un (frs outer) [] H H1 s.heap s1.heap from I.base).there ea o z (by simp)
      rw [hx.new] at z'; cases z'
  · cases y : H1 ea with
    | none => rfl
    | some u =>
      obtain ⟨o, z⟩ := (I.hok ea u y).there
      rw [hx.new] at z; cases z
end
end L2
set_option Elab.async false
set_option linter.all false
set_option maxRecDepth 100000
set_option maxHeartbeats 4000000
namespace PySem.W
open PySem PySem.Spec PySem.Calls PyProof.Rows
section
variable {M : Model} {A : Around} {E : Value → Shared → Prop} {K : Frag} {x C D : Addr} {b : Bool} {h : Heap} {g : Array GenState} {d : Drawn} {t : Nat} {os : OsState}
theorem ex_matches {Q : Bool → Shared → Prop} (X : K.In h) (p : ExAt x C h) (tD : typeIn K (.ref D) = some (.type "type")) (bD : mroIn K D (.type "BaseException") = some true) (cD : (clsIn K D).isSome = true) (e : mroIn K C (.ref D) = some b) (hq : Q b ⟨h, g, d, t, os⟩) :
    wpAny M A (excMatches (.ref x) (.ref D)) Q E ⟨h, g, d, t, os⟩ := by
  have L0 := p.ty M
  have L1 := looks_typeIn (M := M) X tD
  have L2 := looks_mroIn (M := M) X bD
  have L3 := looks_mroIn (M := M) X e
  have L4 : Looks M h (isType (.ref D)) true := by
    unfold clsIn at cD
    split at cD
    · rename_i c' d' cd' sl' ho
      intro A' Q' E' s' k q
      unfold isType loadHead
      exact wpAny_bind (wpAny_loadPart (k _ _ (X _ _ ho)) (wpAny_pure q))
    · cases cD
  have f := tc_notTuple
  unfold excMatches
  repeat (first | with_reducible refine L0.at ?_ | with_reducible refine L1.at ?_ | with_reducible refine L4.at ?_ | with_reducible refine L2.at ?_ | with_reducible refine L3.at ?_ | wp_step)
  cases b with
  | true => repeat (first | exact hq | wp_step)
  | false => repeat (first | exact hq | wp_step)
end
theorem exc_obj {K : Frag} {h : Heap} {C : Addr} {bB : List Value} {nid : String} (Z : K.In h) (e : excIn K C bB nid = true) : ∃ tl NN n1 n2 b1 b2 b3 b4 b5 b6 b7 z0 z1 z2 z3 z5 mm,
    h.get? C = some (excClassObj n1 n2 C NN b1 tl b2 b3 b4 b5 b6 b7 z0 z1 z2 z3 z5 nid) ∧ h.Ns NN mm ∧ mm "__init__" = none ∧ OwnTail h bB tl := by
  unfold excIn at e
  split at e
  next b7 cc ss hK =>
    split at e
    next C2 tl z0 z1 z2 z3 nn z5 hmro hsl =>
      simp only [Bool.and_eq_true, beq_iff_eq, Bool.not_eq_true'] at e
      obtain ⟨⟨⟨⟨⟨r1, r2⟩, hdl⟩, htl⟩, hnk⟩, hin⟩ := e
      subst r1 r2
      obtain ⟨n1, b1, mro, NN, n2, b2, b3, b4, b5, b6, del⟩ := cc
      dsimp only at hmro hdl hnk hin
      subst hmro hdl
      have es : ss = #[z0, z1, z2, z3, some (.builtin nn), z5] := by
        obtain ⟨l⟩ := ss
        simp only at hsl
        rw [hsl]
      subst es
      exact ⟨tl, NN, n1, n2, b1, b2, b3, b4, b5, b6, b7, z0, z1, z2, z3, z5, _, Z _ _ hK, .of_isNs (isNs_of_in Z hnk), nsMap_none_of_in Z hnk hin, tail_of_in Z htl⟩
    next => cases e
  next => cases e
end PySem.W
namespace L2
open PySem PySem.Spec PyProof.Rows
structure ExC (K : PySem.W.Frag) (C : Addr) : Prop extends PySem.W.ExCls K C where
  ty : PySem.W.typeIn K (.ref C) = some (.type "type")
abbrev bmVE : List Value := [.type "ValueError", .type "Exception", .type "BaseException", .type "object"]
def tRaise (C : Addr) (E : XK) (t : TA) : TS := fun _ σ H => t σ H fun vs H1 => vs.length ≤ sizeLine ∧ E (.ref C) none H1
section
variable {P : Program} {w : World} {K : PySem.W.Frag} {mg : Str → Option Value} {base : Heap} {N : List Str} {qual : Str} {scope : Scope} {f : Addr} {cd : Value} {A : Around} {outer : List Env} {s : Shared} {H : Hp} {E : XK}
theorem ps_raise {x : Str} {np cpos pos : Pos} {e0 : Expr} {es : List Expr} {t : TA} {C : Addr} (hg : Gl (cxOf (CXF P w) P w K mg base N qual scope f cd A outer s H E) x) (hm : mg x = some (.ref C)) (hC : PySem.W.excIn K C bmVE "ValueError.__new__" = true)
    (ha : PA (cxOf (CXF P w) P w K mg base N qual scope f cd A outer s H E) (e0 :: es) t) (hdb : (x == ("__debug__" : Str)) = false := by decide)
    (he : starEach (e0 :: es) (cxOf (CXF P w) P w K mg base N qual scope f cd A outer s H E).env = (false, eval e0 (cxOf (CXF P w) P w K mg base N qual scope f cd A outer s H E).env) :: starEach es (cxOf (CXF P w) P w K mg base N qual scope f cd A outer s H E).env := by rfl)
    (hpl : (backTo cpos (starEach es (cxOf (CXF P w) P w K mg base N qual scope f cd A outer s H E).env)).any (·.1) = false := by rfl) :
    PS (cxOf (CXF P w) P w K mg base N qual scope f cd A outer s H E) (.Raise (some (.Call (.Name x np) (e0 :: es) [] cpos)) none pos) (tRaise C E t) := by
  intro pins s1 σ H1 D I h
  obtain ⟨tl, NN, n1, n2, b1, b2, b3, b4, b5, b6, b7, z0, z1, z2, z3, z5, mm, hobj, hns, hni, T⟩ := PySem.W.exc_obj I.ok.mod.kin hC
  refine wpAny_Raise_call_subT (C := C) (nm := n1) (q := n2) (N := NN) (bs := b1) (bm := tl) (hdct := b2) (sn := b3) (sub := b4) (ab := b5) (col := b6) (dd := b7) (k0 := z0) (k1 := z1) (k2 := z2) (k3 := z3) (k5 := z5) PySem.F.excBase_ValueError (mN := mm) (T.hasType PySem.F.excBase_ValueError.hasBase) (I.ok.hd rfl) ?_ hni (ld_glob I hg hm ⟨rfl, ?_⟩ hdb)
  · rw [he]
    show (false || (backTo cpos (starEach es _)).any (·.1)) = false
    rw [hpl]; rfl
  · have z := ha cpos pins s1 σ H1 _ I h
    rw [he] at z ⊢
    refine Calls.evalArgs_plain (wpAny_mono z (fun us s2 ⟨vs, H2, I2, r, hl, q⟩ => ⟨rfl, by rw [← r.length]; exact hl, I2.bk _ _ hobj, hns.keeps I2.bk, T.keeps I2.bk, fun h' e hx => cxf_raise I2 hx q⟩) fun _ _ y => y)
end
end L2
set_option Elab.async false
set_option linter.all false
set_option maxRecDepth 100000
set_option maxHeartbeats 4000000
namespace L2
open PySem PySem.Spec PyProof.Rows
def exO (ea C : Addr) : HO := .ext (PySem.W.ExAt ea C)
theorem exO_ok {P : Program} {w : World} {H : Hp} {h : Heap} {ea C : Addr} (p : PySem.W.ExAt ea C h) : ObjOk P w H h ea (exO ea C) := by
  obtain ⟨o, vs, e, hc, hd⟩ := p
  exact ⟨⟨o, vs, e, hc, hd⟩, ⟨o, e⟩, fun h1 h2 ⟨o, vs, e, hc, hd⟩ k => ⟨o, vs, k o e, hc, hd⟩⟩
theorem exO_get {P : Program} {w : World} {H : Hp} {h : Heap} {ea C : Addr} (hok : HOk P w H h) (e : H ea = some (exO ea C)) : PySem.W.ExAt ea C h := (hok ea _ e).1
abbrev HR := Ends → Addr → St → Hp → Prop
abbrev Cx.inX (X : Cx) (ea : Addr) : Cx := { X with A := X.A.mark (some (.ref ea)), calm := false, xe := fun _ _ => False }
theorem Cx.Ok.inX {X : Cx} (ok : X.Ok) (ea : Addr) : (X.inX ea).Ok :=
  ⟨ok.mod, ok.kind, ok.glob, ok.blt, ok.above, ok.inj, ok.has, ok.cab, fun z => (by cases z), ok.frames, ok.stk, ok.exf, ok.bs, ok.bsz, ok.noex, ok.exfs, ok.funs, ok.frf⟩
section
variable {X : Cx} {pins : List (Addr × Obj)} {σ : St} {H H' : Hp} {s s' : Shared} {ea C : Addr}
theorem Inv.inX (I : Inv X pins σ H s) (ea : Addr) : Inv (X.inX ea) pins σ H s := ⟨I.ok.inX ea, I.os, I.bare, I.base, I.loc, I.cell, I.free, I.freeC, I.pin, I.hok, I.len⟩
theorem Inv.outX (ok : X.Ok) (I : Inv (X.inX ea) pins σ H s) : Inv X pins σ H s := ⟨ok, I.os, I.bare, I.base, I.loc, I.cell, I.free, I.freeC, I.pin, I.hok, I.len⟩
def PH (X : Cx) (hs : List ExceptHandler) (r : HR) : Prop := ∀ (pins : List (Addr × Obj)) (D : Ends) (σ : St) (ea C : Addr) (H H0 : Hp) (s s0 : Shared), Inv X pins σ H0 s0 → Flew X.prog X.w X.stack H0 s0 H ea C s → r D C σ H →
  wpAny (model X.prog X.w) X.A (handleBy (.ref ea) X.env hs) (SP X pins D) X.xe s
theorem ph_nil : PH X [] (fun _ _ _ _ => False) := fun _ _ _ _ _ _ _ _ _ _ _ h => False.elim h
theorem Flew.caught (F : Flew X.prog X.w X.stack H s H' ea C s') (I : Inv X pins σ H s) : Inv X pins σ (upd H' ea (exO ea C)) s' := by
  obtain ⟨B, a0, hfl, cov⟩ := F.fly
  obtain ⟨oe, vs, e1, e2, e3, _⟩ := hfl.first
  have ne : ∀ b u, H' b = some u → b ≠ ea := fun b u q => ne_of_none q F.hn
  refine I.call' (ch := []) F.os ⟨F.un.keep, F.un.slot, fun b o q n hx => ?_, F.un.there, fun b xs q => ?_, fun b o u q => ?_, fun b ps q => ?_⟩ (fun b u q => ?_) F.bare (fun b z => absurd z (by simp))
  · rw [upd_ne (fun z => by rw [z, F.new] at q; cases q)]
    exact F.un.free b o q n hx
  · have := F.un.tups b xs q
    rw [upd_ne (ne b _ this)]; exact this
  · have := F.un.frzs b o u q
    rw [upd_ne (ne b _ this)]; exact this
  · obtain ⟨m, this⟩ := F.un.tbls b ps q
    exact ⟨m, by rw [upd_ne (ne b _ this)]; exact this⟩
  · by_cases hb : b = ea
    · subst hb
      rw [upd_same] at q
      cases q
      exact exO_ok ⟨oe, vs, e1, e2, e3⟩
    · rw [upd_ne hb] at q
      exact (F.hok b u q).stay (fun _ _ _ z => z) (fun c z => by rw [upd_ne (ne c _ z)]; exact z) fun c xs z => by rw [upd_ne (ne c _ z)]; exact z
theorem Inv.gone {M : Model} {A : Around} {E : Value → Shared → Prop} {n : Str} {i : Nat} {pos : Pos} {Q : Unit → Shared → Prop} (I : Inv X pins σ H s) (hN : X.N.Nodup) (hi : X.N[i]? = some n) (hl : X.env.kindOf n = some .local)
    (h : ∀ s', Inv X pins (σ.set i none) H s' → Q () s') : wpAny M A (do bindName X.env n .none; unbindBehindTheSuite X.env n pos) Q E s := by
  obtain ⟨m, hn, hv⟩ := id I.loc
  obtain ⟨oL, _, _, hoL, _⟩ := id hn
  have hiσ : i < σ.length := by rw [I.len]; exact (List.getElem?_eq_some_iff.mp hi).1
  have cne := I.cne
  have lt : ∀ b o, X.s₀.heap.get? b = some o → b ≠ X.env.locals := fun b o e => Nat.ne_of_lt (Nat.lt_of_lt_of_le (Heap.lt_size e) I.ok.above)
  refine wpAny_nameGoes_keeps hl hn (by rw [I.ok.kind]; rfl) fun h' v hn' hs => h _ ?_
  refine ⟨I.ok, I.os, I.bare, ⟨fun b o e nb hb hx => ?_, fun b o e nb hb hx => ?_, I.base.free, fun b o e hx => ?_, I.base.tups, I.base.frzs, I.base.tbls⟩, ⟨_, hn', fun j y v' e1 e2 e3 => ?_⟩, fun y c e => ?_, I.free, I.freeC, fun p hp => ?_, fun b ob e => ?_, by simpa using I.len⟩
  · exact (hs.2 b (lt b o e)).trans (I.base.keep b o e nb hb hx)
  · obtain ⟨sl, e1⟩ := I.base.slot b o e nb hb hx
    exact ⟨sl, (hs.2 b (lt b o e)).trans e1⟩
  · obtain ⟨o', e1⟩ := I.base.there b o e hx
    exact ⟨o', (hs.2 b (lt b o e)).trans e1⟩
  · by_cases hj : j = i
    · subst hj
      rw [List.getElem?_set_self hiσ] at e2
      cases e2
    · rw [List.getElem?_set_ne (Ne.symm hj)] at e2
      obtain ⟨u', r', q⟩ := hv j y v' e1 e2 e3
      refine ⟨u', r', ?_⟩
      rcases q with ⟨k, e⟩ | ⟨k, c, e, z⟩
      · refine .inl ⟨k, ?_⟩
        have : y ≠ n := fun e => hj (nodup_ix hN e1 (e ▸ hi))
        simp [this, e]
      · exact .inr ⟨k, c, e, z.sameBut hs (cne y c e)⟩
  · obtain ⟨w', z⟩ := I.cell y c e
    exact ⟨w', z.sameBut hs (cne y c e)⟩
  · obtain ⟨e, n, ne, nf, d⟩ := I.pin p hp
    exact ⟨(hs.2 p.1 ne).trans e, n, ne, nf, d⟩
  · refine (I.hok b ob e).stay (fun c w' hc q => (hs.2 c ?_).trans q) (fun _ q => q) fun _ _ q => q
    rintro rfl
    rcases hc with rfl | hc
    · rw [I.free] at e; cases e
    · rw [I.free] at hc; cases hc
end
def Ends.less (D : Ends) (i : Nat) : Ends := { nx := fun σ H => D.nx (σ.set i none) H, rt := D.rt, bk := fun σ H => D.bk (σ.set i none) H, ct := fun σ H => D.ct (σ.set i none) H }
def hAs (K : PySem.W.Frag) (Da : Addr) (i : Nat) (ts : TS) (r : HR) : HR := fun D C σ H => PySem.W.ExCls K C ∧ ∃ b, PySem.W.mroIn K C (.ref Da) = some b ∧
  if b = true then ∀ ea, H ea = none → ts (D.less i) (σ.set i (some (.ref ea))) (upd H ea (exO ea C)) else r D C σ H
section
variable {X : Cx} {x n : Str} {np pos : Pos} {i : Nat} {b0 : Stmt} {suite : List Stmt} {rest : List ExceptHandler} {ts : TS} {r : HR} {Da : Addr}
theorem SP.goes {ea : Addr} {pins : List (Addr × Obj)} {D : Ends} {M : Model} {A : Around} {E : Value → Shared → Prop} {f : Flow} {s : Shared} (ok : X.Ok) (hN : X.N.Nodup) (hi : X.N[i]? = some n) (hl : X.env.kindOf n = some .local) (h : SP (X.inX ea) pins (D.less i) f s) :
    wpAny M A (do bindName X.env n .none; unbindBehindTheSuite X.env n pos) (fun _ s' => SP X pins D f s') E s := by
  cases f with
  | next => obtain ⟨σ', H', I, q⟩ := h; exact (Inv.outX ok I).gone hN hi hl fun s' I' => ⟨_, _, I', q⟩
  | brk => obtain ⟨σ', H', I, q⟩ := h; exact (Inv.outX ok I).gone hN hi hl fun s' I' => ⟨_, _, I', q⟩
  | cont => obtain ⟨σ', H', I, q⟩ := h; exact (Inv.outX ok I).gone hN hi hl fun s' I' => ⟨_, _, I', q⟩
  | ret u => obtain ⟨v, σ', H', I, rv, q⟩ := h; exact (Inv.outX ok I).gone hN hi hl fun s' I' => ⟨v, _, _, I', rv, q⟩
theorem ph_as (hN : X.N.Nodup) (hi : X.N[i]? = some n) (hl : X.env.kindOf n = some .local) (hg : Gl X x) (hm : X.mg x = some (.ref Da)) (hD : ExC X.K Da) (hs : ∀ ea, PSs (X.inX ea) (b0 :: suite) ts) (hr : PH X rest r) (hdb : (x == ("__debug__" : Str)) = false := by decide) :
    PH X (.ExceptHandler (some (.Name x np)) (some n) (b0 :: suite) pos :: rest) (hAs X.K Da i ts r) := by
  intro pins D σ ea C H H0 s s0 I F h
  obtain ⟨hC, b, hb, h⟩ := h
  obtain ⟨B, a0, hfl, cov⟩ := F.fly
  obtain ⟨oe, vs, e1, e2, e3, _⟩ := hfl.first
  have I1 := F.inv I
  refine wpAny_handleBy_cons (codeAny_handlers_test (ld_glob (X := X.inX ea) (I1.inX ea) hg hm ?_ hdb)) (by intro q; cases q)
  obtain ⟨hp, g, d, tk, os⟩ := s
  refine PySem.W.ex_matches I1.kIn ⟨oe, vs, e1, e2, e3⟩ hD.ty hD.bs hD.ic hb ?_
  cases b with
  | false => exact hr pins D σ ea C H H0 _ s0 I F (by simpa using h)
  | true =>
    refine codeAny_handlers_suite_as ?_
    refine PyProof.Rows.lands_againW hfl fun h' hfl' sm => ?_
    have F2 := F.on I hfl cov hfl' sm
    have I2 := F2.caught I
    refine store_ok (X := X.inX ea) (v := .ref ea) (I2.inX ea) hN hi (.inl hl) rfl (fun s3 I3 => ?_) (.inr hl)
    refine wpAny_mono (hs ea pins s3 _ _ _ I3 ((by simpa using h : ∀ ea, H ea = none → ts (D.less i) (σ.set i (some (.ref ea))) (upd H ea (exO ea C))) ea F.hn)) (fun f s4 q => ?_) fun _ _ z => False.elim z
    exact SP.goes I.ok hN hi hl q
abbrev Cx.inTry (X : Cx) (hs : List ExceptHandler) (pins : List (Addr × Obj)) (D : Ends) : Cx := { X with pn := X.pn ++ pins, xe := fun e s1 => wpAny (model X.prog X.w) X.A (noteFrame e X.env) (fun _ s2 => wpAny (model X.prog X.w) X.A (setFlight e none) (fun _ s3 => wpAny (model X.prog X.w) X.A (handleBy e X.env hs) (SP X pins D) X.xe s3) X.xe s2) X.xe s1 }
theorem Cx.Ok.inTry (ok : X.Ok) (hs : List ExceptHandler) (pins : List (Addr × Obj)) (D : Ends) : (X.inTry hs pins D).Ok :=
  ⟨ok.mod, ok.kind, ok.glob, ok.blt, ok.above, ok.inj, ok.has, ok.cab, ok.hd, ok.frames, ok.stk, ok.exf, ok.bs, ok.bsz, ok.noex, ok.exfs, ok.funs, ok.frf⟩
theorem Inv.inTry {pins : List (Addr × Obj)} {σ : St} {H : Hp} {s : Shared} (I : Inv X pins σ H s) (hs : List ExceptHandler) (D : Ends) : Inv (X.inTry hs pins D) [] σ H s :=
  ⟨I.ok.inTry hs pins D, I.os, I.bare, I.base, I.loc, I.cell, I.free, I.freeC, fun p hp => I.pin p (by simpa using hp), I.hok, I.len⟩
theorem Inv.outTry {pins pins' : List (Addr × Obj)} {hs : List ExceptHandler} {D : Ends} {σ : St} {H : Hp} {s : Shared} (ok : X.Ok) (I : Inv (X.inTry hs pins D) pins' σ H s) : Inv X pins σ H s :=
  ⟨ok, I.os, I.bare, I.base, I.loc, I.cell, I.free, I.freeC, fun p hp => I.pin p (List.mem_append_left _ hp), I.hok, I.len⟩
def eTry (r : HR) (D : Ends) (σ : St) : XK := fun c _ H => ∃ C, c = .ref C ∧ r D C σ H
theorem passT {hs : List ExceptHandler} {pins pins' : List (Addr × Obj)} {D : Ends} {σ : St} {H : Hp} {s s' : Shared} {e : Value} (ok : X.Ok) (hf : X.env.frame = some X.env.locals) (hst : X.stack = X.env :: X.outer) (ph : PH X hs r) (I : Inv (X.inTry hs pins D) pins' σ H s) (h : CXF X.prog X.w X.stack H s (eTry r D σ) e s') :
    (X.inTry hs pins D).xe e s' := by
  obtain ⟨ea, C, H', rfl, F, C2, e2, q⟩ := h
  cases e2
  have I0 := Inv.outTry ok I
  obtain ⟨B, a0, hfl, cov⟩ := F.fly
  have ff := ok.frames
  rw [hst] at ff
  have hfl2 := hfl
  rw [hst] at hfl2
  refine wpAny_looks_onW ff hf hfl2 fun h4 hh4 sm4 => ?_
  refine wpAny_landsW hh4 fun h5 hfl5 sm5 => ?_
  rw [← hst] at hfl5
  exact ph pins D σ ea C H' H _ s I0 (F.on I0 hfl cov hfl5 (sm4.trans sm5)) q
def tCallT (sp : Sp) (dvs : List V) (r : HR) (D : Ends) (t : TA) : TE := fun σ H Q => t σ H fun vs H1 => sp (vs ++ dvs) H1 Q (eTry r D σ)
theorem pe_callT {hs : List ExceptHandler} {pins0 : List (Addr × Obj)} {D : Ends} {k : Nat} {f : Addr} {fd : FuncData} {ps : List Str} {sp : Sp} {dvs : List V} {ds : List Value} {p pos : Pos} {e : Expr} {es : List Expr} {t : TA}
    (hf : X.env.frame = some X.env.locals) (hst : X.stack = X.env :: X.outer) (ph : PH X hs r)
    (F : FnOk X.prog X.w X.K X.mg X.base (CXF X.prog X.w) k f fd ps sp) (hr : Room k X.A) (hg : Gl X x) (hm : X.mg x = some (.ref f)) (hk : PySem.W.keepIn X.K (.ref f) = true) (hb : Binds X.K fd ps ds) (hd : Vals dvs ds)
    (ha : PA (X.inTry hs pins0 D) (e :: es) t) (hdb : (x == ("__debug__" : Str)) = false := by decide) (he : starEach (e :: es) X.env = (false, eval e X.env) :: starEach es X.env := by rfl) (hpl : (backTo pos (starEach es X.env)).any (·.1) = false := by rfl) :
    PE (X.inTry hs pins0 D) (.Call (.Name x p) (e :: es) [] pos) (tCallT sp dvs r D t) := by
  intro pins s σ H Q I h
  have ok : X.Ok := ⟨I.ok.mod, I.ok.kind, I.ok.glob, I.ok.blt, I.ok.above, I.ok.inj, I.ok.has, I.ok.cab, I.ok.hd, I.ok.frames, I.ok.stk, I.ok.exf, I.ok.bs, I.ok.bsz, I.ok.noex, I.ok.exfs, I.ok.funs, I.ok.frf⟩
  refine wpAny_Call_Name_kw (ld_glob (X := X.inTry hs pins0 D) I hg hm ?_ hdb)
  refine PySem.W.callWith_K (h₀ := X.base) I.ok.mod.kin hk (thn (ha pos pins s σ H _ I h) fun us s1 ⟨vs, H1, I1, rv, q⟩ => ⟨I1.kIn, ?_⟩) he hpl
  have r2 : Vals (vs ++ dvs) (us ++ ds) := rv.append hd
  have hl : (us ++ ds).length = ps.length := by rw [← r2.length]; exact F.len _ _ _ _ q
  refine wpAny_call (codeAny_mono (F.run X.A X.stack s1 H1 ⟨us, []⟩ (us ++ ds) (vs ++ dvs) Q _ hr I1.env0 (hb s1 us I1.kIn hl) r2 q) fun rr s' hq => ?_)
  cases rr with
  | error e => exact passT ok hf hst ph I1 hq
  | ok fl =>
    cases fl with
    | ret u => exact I1.after hq
    | next => exact False.elim hq
    | brk => exact False.elim hq
    | cont => exact False.elim hq
theorem ps_try {h0 : ExceptHandler} {hs : List ExceptHandler} {body orelse : List Stmt} {tb : Ends → TS} {to : TS} (hb : ∀ pins D, PSs (X.inTry (h0 :: hs) pins D) body (tb D)) (ho : PSs X orelse to) :
    PS X (.Try body (h0 :: hs) orelse [] pos) (fun D σ H => tb D { D with nx := to D } σ H) := by
  intro pins s σ H D I h
  refine wpAny_Try_except (wpAny_mono (hb pins D [] s σ H _ (I.inTry (h0 :: hs) D) h) (fun f s1 q => ?_) fun _ _ z => z)
  cases f with
  | next =>
    obtain ⟨σ', H', I', q⟩ := q
    exact ho pins s1 σ' H' D (Inv.outTry I.ok I') q
  | brk => obtain ⟨σ', H', I', q⟩ := q; exact ⟨σ', H', Inv.outTry I.ok I', q⟩
  | cont => obtain ⟨σ', H', I', q⟩ := q; exact ⟨σ', H', Inv.outTry I.ok I', q⟩
  | ret u => obtain ⟨v, σ', H', I', rv, q⟩ := q; exact ⟨v, σ', H', Inv.outTry I.ok I', rv, q⟩
end
def rIsiX (K : PySem.W.Frag) : List V → Hp → VK → Prop := fun xs H Q => ∃ (ea C : Addr) (c : V) (cv : Value) (b : Bool), xs = [.ref ea, c] ∧ H ea = some (exO ea C) ∧ PySem.W.ExCls K C ∧ (∀ u, RelV c u → u = cv) ∧ PySem.W.kitOne K (.ref C) cv = some b ∧ Q (.bl b) H
theorem call_isiX {X : Cx} : CallR X (.builtin "isinstance") (rIsiX X.K) := by
  intro pins s σ H xs us Q I r h
  obtain ⟨ea, C, c, cv, b, rfl, he, hC, hc, e, q⟩ := h
  obtain ⟨u, w', rfl, ru, rw'⟩ := vals2 r
  cases ru
  have := hc w' rw'
  subst this
  exact PySem.W.kia_one (PySem.W.kitx_exc hC) I.kIn (exO_get I.hok he) e (fun z => nomatch z) fun tk => ⟨.bl b, H, I.tok tk, rfl, q⟩
end L2
set_option Elab.async false
set_option linter.all false
set_option maxRecDepth 100000
set_option maxHeartbeats 4000000
namespace L2
open PySem PySem.Spec PyProof.Rows
theorem Fun.okF {P : Program} {w : World} {K : PySem.W.Frag} {mg : Str → Option Value} {base : Heap} {x qual : Str} {st : Stmt} {f : Addr} {fd : FuncData} {N ps : List Str} {k : Nat} {sp : Sp} (F : Fun K x qual st f fd) (S : FnScope N ps (defScope st)) (len : ∀ vs H Q E, sp vs H Q E → vs.length = ps.length)
    (hbody : ∀ (cdv : Value) (A : Around) (outer : List Env) (s : Shared) (H : Hp) (vs : List V) (Q : VK) (E : XK), Room k (A.deeper (envOfC qual (defScope st) s.heap.objs.size f cdv)) → sp vs H Q E →
      ∃ t, PSs (cxOf (CXF P w) P w K mg base N qual (defScope st) f cdv A outer s H E) (defBody st) t ∧ t { nx := fun _ H' => Q .non H', rt := Q } (start N vs) H) : FnOk P w K mg base (CXF P w) (k + 1) f fd ps sp := by
  obtain ⟨oc, od, kV, doc, pm, an, cdv, ct, osl, rfl, lk, hcd⟩ := F.ex
  exact fn_of lk hcd S len fun A outer s H vs Q E hr hsp => hbody cdv A outer s H vs Q E hr hsp
end L2
set_option Elab.async false
set_option linter.all false
set_option maxRecDepth 100000
set_option maxHeartbeats 4000000
namespace L2
open PySem PySem.Spec PyProof.Rows
section
variable {prog : Program} {w : World} {A : Around} {E : Value → Shared → Prop} {s : Shared}
end
section
variable {prog : Program} {w : World} {A : Around} {E : Value → Shared → Prop} {s : Shared} {R : Result → Shared → Prop}
end
end L2
set_option Elab.async false
set_option linter.all false
set_option maxRecDepth 100000
set_option maxHeartbeats 4000000
namespace L2
open PySem PySem.Spec PyProof.Rows
section
variable {prog : Program} {w : World} {A : Around} {E : Value → Shared → Prop} {s : Shared}
end
end L2
set_option Elab.async false
set_option linter.all false
set_option maxRecDepth 100000
set_option maxHeartbeats 4000000
namespace L2
open PySem PySem.Spec PyProof.Rows
section
variable {prog : Program} {w : World} {A : Around} {E : Value → Shared → Prop} {s : Shared}
end
def ov (H N : Hp) : Hp := fun a => (N a).or (H a)
end L2
set_option Elab.async false
set_option linter.all false
set_option maxRecDepth 100000
set_option maxHeartbeats 4000000
namespace L2
open PySem PySem.Spec PyProof.Rows
theorem boot_VE : bootBuiltins "ValueError" = some (.type "ValueError") := by decide +kernel
theorem kit_self {K : PySem.W.Frag} {C : Addr} : PySem.W.kitOne K (.ref C) (.ref C) = some true := if_pos (by simp)
theorem cls_of {K : PySem.W.Frag} {C : Addr} {c0 : Value} {dd : Option Addr} {cd : ClassData} {sl : Array (Option Value)} (lk : K.lookup C = some ⟨c0, dd, .cls cd, sl⟩) : (PySem.W.clsIn K C).isSome = true := by
  unfold PySem.W.clsIn
  rw [lk]
  rfl
theorem kit_ref {K : PySem.W.Frag} {C D : Addr} {b : Bool} {dd : Option Addr} {cd : ClassData} {sl : Array (Option Value)} (ne : C ≠ D) (lk : K.lookup D = some ⟨.type "type", dd, .cls cd, sl⟩) (e : PySem.W.subIn K (.ref C) (.ref D) = some b) : PySem.W.kitOne K (.ref C) (.ref D) = some b := by
  unfold PySem.W.kitOne
  rw [if_neg (by simp [ne])]
  show (if ((PySem.W.clsIn K D).isSome && PySem.W.typeIn K (.ref D) == some (.type "type")) = true then PySem.W.subIn K (.ref C) (.ref D) else none) = some b
  have t : PySem.W.typeIn K (.ref D) = some (.type "type") := by
    show (K.lookup D).map (·.cls) = _
    rw [lk]; rfl
  rw [cls_of lk, t, if_pos (by simp)]
  exact e
theorem kit_ty {K : PySem.W.Frag} {C : Addr} {b : Bool} {T : String} (hm : PySem.W.kitMeta T = true) (e : PySem.W.subIn K (.ref C) (.type T) = some b) : PySem.W.kitOne K (.ref C) (.type T) = some b := by
  unfold PySem.W.kitOne
  rw [if_neg (by intro z; cases beq_iff_eq.mp z)]
  show (if PySem.W.kitMeta T = true then PySem.W.subIn K (.ref C) (.type T) else none) = some b
  rw [if_pos hm]
  exact e
structure FnF (P : Program) (w : World) (K : PySem.W.Frag) (mg : Str → Option Value) (base : Heap) (k : Nat) (x : Str) (f : Addr) (fd : FuncData) (ps : List Str) (sp : Sp) : Prop where
  ok : FnOk P w K mg base (CXF P w) k f fd ps sp
  bd : Binds K fd ps []
  kp : PySem.W.keepIn K (.ref f) = true
  gl : mg x = some (.ref f)
theorem FnF.up {P : Program} {w : World} {K : PySem.W.Frag} {mg : Str → Option Value} {base : Heap} {j k : Nat} {x : Str} {f : Addr} {fd : FuncData} {ps : List Str} {sp : Sp} (F : FnF P w K mg base j x f fd ps sp) (h : j ≤ k) : FnF P w K mg base k x f fd ps sp :=
  ⟨F.ok.mono h, F.bd, F.kp, F.gl⟩
theorem own_cx {P : Program} {w : World} {K : PySem.W.Frag} {mg : Str → Option Value} {base : Heap} {N : List Str} {qual : Str} {scope : Scope} {f : Addr} {cd : Value} {A : Around} {outer : List Env} {s : Shared} {H : Hp} {E : XK} {CX : CXT} :
    PassesOwn (model (cxOf CX P w K mg base N qual scope f cd A outer s H E).prog (cxOf CX P w K mg base N qual scope f cd A outer s H E).w) (cxOf CX P w K mg base N qual scope f cd A outer s H E).A (cxOf CX P w K mg base N qual scope f cd A outer s H E).env (cxOf CX P w K mg base N qual scope f cd A outer s H E).xe := PassesOwn.leaving
end L2
set_option Elab.async false
set_option linter.all false
set_option maxRecDepth 100000
set_option maxHeartbeats 4000000
namespace L2
open PySem PySem.Spec PyProof.Rows
def Its (x : Str) : It := ⟨fun i _ => i < x.cps.size, fun i H v H' => H' = H ∧ ∃ c, x.cps[i]? = some c ∧ v = .str ⟨#[c]⟩, fun i _ => x.cps.size ≤ i⟩
def TyS (ty : String) : Prop := ty = "str_ascii_iterator" ∨ ty = "str_iterator"
theorem turn_str {P : Program} {w : World} {K : PySem.W.Frag} {tg : Expr} (x : Str) (t : Tok) (it : Addr) : Turn P w K tg (Its x) [it] it (fun i h => ∃ ty, TyS ty ∧ h.IsStrIter it ty x t i) where
  mem := by simp
  obj := fun i h st b hb => by
    have e : b = it := by simpa using hb
    subst e
    obtain ⟨_, _, o, e, c, d⟩ := st
    exact ⟨o, e, fun v z => by rw [d] at z; cases z⟩
  keep := fun i h h' st k => by
    obtain ⟨ty, ht, o, e, r⟩ := st
    exact ⟨ty, ht, o, k it (by simp) o e, r⟩
  item := by
    intro X hP hw hK hc i pins s σ H E I hf st hg
    subst hP hw hK
    obtain ⟨ty, ht, st⟩ := st
    have hi : i < x.cps.size := hg
    have hx : x.cps[i]? = some x.cps[i] := by simp [hi]
    obtain ⟨f0, f1, f2, f3, f4, f5⟩ := hf it (by simp)
    have fin : ∀ h', h'.IsStrIter it ty x t (i + 1) → Heap.SameBut it s.heap h' → ∃ u, some (Value.str ⟨#[x.cps[i]]⟩ s.toks) = some u ∧
      wpAny (model X.prog X.w) X.A (letOwnedTupleGo tg (.ref it) u) (fun _ s2 => ∃ y H', Inv X pins σ H' s2 ∧ RelV y u ∧ (Its x).yld i H y H' ∧ (∃ ty, TyS ty ∧ s2.heap.IsStrIter it ty x t (i + 1)) ∧ ∀ b ∈ [it], H' b = none) E { s with heap := h', toks := s.toks + 1 } := by
      intro h' st' sb
      have I1 : Inv X pins σ H { s with heap := h', toks := s.toks + 1 } := I.turned (t' := s.toks + 1) (fun b o hb e => (sb.2 b hb).trans e) f0 f1 f3 f4 f5
      obtain ⟨o, e, c, d⟩ := id st'
      refine ⟨_, rfl, go_of (s := { s with heap := h', toks := s.toks + 1 }) e c d (by rcases ht with z | z <;> subst z <;> decide) ⟨.str ⟨#[x.cps[i]]⟩, H, I1, ⟨_, rfl⟩, ⟨rfl, _, hx, rfl⟩, ⟨ty, ht, st'⟩, fun b hb => (hf b hb).1⟩⟩
    rcases id ht with z | z
    · subst z
      exact wpAny_pyNext_ascii_item st hx fin
    · subst z
      exact wpAny_pyNext_wide_item st hx fin
  done := by
    intro X hP hw hK hc i pins s σ H E I hf st hg
    subst hP hw hK
    obtain ⟨ty, ht, st⟩ := st
    have hx : x.cps[i]? = none := Array.getElem?_eq_none (show x.cps.size ≤ i from hg)
    obtain ⟨f0, f1, f2, f3, f4, f5⟩ := hf it (by simp)
    rcases id ht with z | z
    · subst z
      exact wpAny_pyNext_ascii_end (I.ok.hd hc) st hx fun h' eb => ⟨rfl, I.turned (t' := s.toks) (fun b o hb e => eb b o hb e) f0 f1 f3 f4 f5⟩
    · subst z
      exact wpAny_pyNext_wide_end (I.ok.hd hc) st hx fun h' eb => ⟨rfl, I.turned (t' := s.toks) (fun b o hb e => eb b o hb e) f0 f1 f3 f4 f5⟩
  self := fun _ _ _ _ _ st h => by
    obtain ⟨ty, ht, st⟩ := st
    rcases id ht with z | z
    · subst z
      exact wpAny_pyIter_striter_ascii st h
    · subst z
      exact wpAny_pyIter_striter_wide st h
def iStr (tl : TE) : TI := fun σ H R => tl σ H fun v H1 => ∃ x, v = .str x ∧ R (Its x) H1
theorem pi_str {X : Cx} {tg l : Expr} {tl : TE} (hl : PE X l tl) : PI X tg l (iStr tl) := by
  intro pins s σ H R I h
  refine thn (hl pins s σ H _ I h) fun v s1 ⟨y, H1, I1, r1, q1⟩ => ?_
  obtain ⟨x, e, q⟩ := q1
  subst e
  obtain ⟨t, rfl⟩ := r1
  have fp : ∀ b ∈ [s1.heap.objs.size], FpOk X pins H1 b := fun b hb => by
    have e : b = s1.heap.objs.size := by simpa using hb
    subst e
    exact I1.fpOk (Nat.le_refl _) (I1.hok.fresh (Nat.le_refl _))
  cases ha : x.cps.all (· < 128)
  · refine wpAny_pyIter_wide ha ?_
    exact ⟨s1.heap.objs.size, [s1.heap.objs.size], _, _, H1, rfl, I1.kept (t' := s1.toks) fun b o e => Heap.get?_push_of_some _ e, turn_str x t _, ⟨_, .inr rfl, _, Heap.get?_push_size _ rfl, rfl, rfl⟩, fp, q⟩
  · refine wpAny_pyIter_ascii ha ?_
    exact ⟨s1.heap.objs.size, [s1.heap.objs.size], _, _, H1, rfl, I1.kept (t' := s1.toks) fun b o e => Heap.get?_push_of_some _ e, turn_str x t _, ⟨_, .inl rfl, _, Heap.get?_push_size _ rfl, rfl, rfl⟩, fp, q⟩
theorem comp_strR {x : Str} {acc : Addr} {g : TG} {tt : TT} {te : TE} {σ : L2.St} {H : Hp} {R : Hp → Prop} (Pv : Nat → Hp → Prop) (h0 : Pv 0 (upd H acc (.lst [])))
    (hs : ∀ i c H, x.cps[i]? = some c → Pv i H → g (.str ⟨#[c]⟩) σ H fun σ2 H4 => Ext σ σ2 ∧ tt σ2 H4 fun b H5 =>
      if b = true then te σ2 H5 fun y H6 => ∃ zs, H6 acc = some (.lst zs) ∧ zs.length < sizeLine ∧ Pv (i + 1) (upd H6 acc (.lst (zs ++ [y]))) else Pv (i + 1) H5) (hd : ∀ H, Pv x.cps.size H → R H) :
    ∃ W : Nat → Nat → Hp → Prop, (∃ m, W 0 m (upd H acc (.lst []))) ∧ ∀ i m H2, W i m H2 →
      ((Its x).stop i H2 ∧ R H2) ∨ ((Its x).go i H2 ∧ ∃ N : Hp → Prop, (∀ H', N H' → ∃ m', m' < m ∧ W (i + 1) m' H') ∧ ∀ x' H3, (Its x).yld i H2 x' H3 → g x' σ H3 fun σ2 H4 => Ext σ σ2 ∧ tt σ2 H4 fun b H5 =>
        if b = true then te σ2 H5 fun y H6 => ∃ zs, H6 acc = some (.lst zs) ∧ zs.length < sizeLine ∧ N (upd H6 acc (.lst (zs ++ [y])))
        else N H5) := by
  refine ⟨fun i m H => m = x.cps.size - i ∧ i ≤ x.cps.size ∧ Pv i H, ⟨x.cps.size, by simp, Nat.zero_le _, h0⟩, ?_⟩
  rintro i m H2 ⟨rfl, hi, p⟩
  by_cases hlt : i < x.cps.size
  · refine .inr ⟨hlt, Pv (i + 1), fun H' p' => ⟨x.cps.size - (i + 1), by omega, rfl, hlt, p'⟩, fun v H' y => ?_⟩
    obtain ⟨e, c, hc, ex⟩ := y
    subst e ex
    exact hs i c _ hc p
  · have e : i = x.cps.size := by omega
    subst e
    exact .inl ⟨Nat.le_refl _, hd H2 p⟩
end L2
set_option Elab.async false
set_option linter.all false
set_option maxRecDepth 100000
set_option maxHeartbeats 4000000
namespace L2
open PySem PySem.Calls PySem.Spec PyProof.Rows PySem.W
section
variable {X : Cx} {o i e f value : Expr} {pos pos' tpos apos cpos : Pos} {td ty tv tx : TE}
end
end L2
set_option Elab.async false
set_option linter.all false
set_option maxRecDepth 100000
set_option maxHeartbeats 4000000
namespace L2
open PySem PySem.Spec PyProof.Rows
end L2
namespace PyProof.Rows
open PySem PySem.Calls
end PyProof.Rows
namespace L2
open PySem PySem.Calls PySem.Spec PyProof.Rows PySem.W
section
variable {X : Cx}
end
end L2
set_option Elab.async false
set_option linter.all false
set_option maxRecDepth 100000
set_option maxHeartbeats 4000000
namespace L2
open PySem PySem.Calls PySem.Spec PyProof.Rows PySem.W
section
variable {prog : Program} {w : World} {A : Around} {E : Value → Shared → Prop} {s : Shared}
end
end L2
set_option Elab.async false
set_option linter.all false
set_option maxRecDepth 100000
set_option maxHeartbeats 4000000
namespace L2
open PySem PySem.Calls PySem.Spec PyProof.Rows PySem.W
def rStarts3 : V → List V → Hp → VK → Prop := fun x vs H Q => ∃ (z y : Str) (i : Int), x = .str z ∧ vs = [.str y, .int i] ∧ Q (.bl (Txt.startswith3 z y i)) H
theorem mt_starts3 {X : Cx} : MtM X "str.startswith" rStarts3 := by
  intro pins s σ H x xs v us Q I rx rs h
  obtain ⟨z, y, i, rfl, rfl, q⟩ := h
  obtain ⟨t, rfl⟩ := rx
  obtain ⟨u, w', rfl, ru, rw'⟩ := vals2 rs
  obtain ⟨t1, rfl⟩ := ru
  obtain ⟨t2, rfl⟩ := rw'
  exact SC.startswith3 ⟨.bl _, H, I, rfl, q⟩
theorem str_empty_append (x : Str) : Str.empty ++ x = x := by
  show (⟨#[] ++ x.cps⟩ : Str) = x
  simp
def tFRep (te : TE) (y : Str) : TE := fun σ H Q => te σ H fun v H1 => ∃ x : Str, v = .str x ∧ (PySem.reprText x).length + y.length ≤ sizeLine ∧ Q (.str (PySem.reprText x ++ y)) H1
theorem pe_fRep {X : Cx} {e : Expr} {te : TE} {y : Str} {j} {p1 p2 pos : Pos} (he : PE X e te) : PE X (.JoinedStr [.FormattedValue e 114 none p1, .Constant (.str y) j p2] pos) (tFRep te y) := by
  intro pins s σ H Q I h
  refine wpAny_JoinedStr ?_
  show wpAny _ _ (eval (.FormattedValue e 114 none p1) X.env) _ _ s
  refine wpAny_FormattedValue_repr (thn (he pins s σ H _ I h) fun v s1 ⟨u, H1, I1, r1, x, ex, hx, q⟩ => ?_)
  subst ex
  obtain ⟨t, rfl⟩ := r1
  have hr : (PySem.reprText x).length ≤ sizeLine := Nat.le_trans (Nat.le_add_right _ _) hx
  have e0 : Str.empty ++ PySem.reprText x = PySem.reprText x := str_empty_append _
  have fin : ∀ (t' : Tok) (tk : Nat), ∃ z u', (Value.str (PySem.reprText x) t' : Value) = .str z u' ∧ (Str.empty ++ z).length ≤ sizeLine ∧ Joins (model X.prog X.w) X.A X.xe (evalEach [.Constant (.str y) j p2] X.env) (Str.empty ++ z) (fun out s₁ => out.length ≤ sizeLine ∧ EP X pins σ Q (.str out s₁.toks) { s₁ with toks := s₁.toks + 1 }) { s1 with toks := tk } := fun t' tk => by
    refine ⟨_, t', rfl, by rw [e0]; exact hr, ?_⟩
    show wpAny _ _ (eval (.Constant (.str y) j p2) X.env) _ _ _
    refine Calls.Constant_str ⟨y, _, rfl, ?_, ?_⟩
    · rw [e0, strLen_append]; exact hx
    · rw [e0]
      exact ⟨by rw [strLen_append]; exact hx, .str (PySem.reprText x ++ y), H1, I1.tok _, ⟨_, rfl⟩, q⟩
  refine pyReprObj_str (wpAny_handedOn (fin _ _) (fin _ _) hr) hr
def rIntS : List V → Hp → VK → Prop := fun xs H Q => ∃ (x : Str) (n : Int), xs = [.str x] ∧ x.length ≤ 640 ∧ PySem.intText? x = some n ∧ Q (.int n) H
theorem call_intS {X : Cx} : CallR X (.type "int") rIntS := by
  intro pins s σ H xs us Q I r h
  obtain ⟨x, n, rfl, hl, hn, q⟩ := h
  obtain ⟨u, rfl, ru⟩ := vals1 r
  obtain ⟨t, rfl⟩ := ru
  exact KIN.call_text hn hl ⟨.int n, H, I.tok _, ⟨_, rfl⟩, q⟩
def rStr1 : List V → Hp → VK → Prop := fun xs H Q => (∃ x : Str, xs = [.str x] ∧ Q (.str x) H) ∨ ∃ n : Int, xs = [.int n] ∧ n.natAbs.log2 < 1920 ∧ Q (.str (toString n)) H
theorem call_str1 {X : Cx} : CallR X (.type "str") rStr1 := by
  intro pins s σ H xs us Q I r h
  rcases h with ⟨x, rfl, q⟩ | ⟨n, rfl, hl, q⟩
  · obtain ⟨u, rfl, ru⟩ := vals1 r
    obtain ⟨t, rfl⟩ := ru
    exact P.str_of_str ⟨.str x, H, I, ⟨_, rfl⟩, q⟩
  · obtain ⟨u, rfl, ru⟩ := vals1 r
    obtain ⟨t, rfl⟩ := ru
    exact P.str_of_int hl ⟨.str (toString n), H, I.tok _, ⟨_, rfl⟩, q⟩
end L2
set_option Elab.async false
set_option linter.all false
set_option maxRecDepth 100000
set_option maxHeartbeats 4000000
namespace L2
open PySem
theorem starts_at {T p : Str} {i : Nat} (hi : i ≤ T.length) : Txt.startswith3 T p (i : Int) = p.cps.toList.isPrefixOf (T.cps.toList.drop i) := by
  unfold Txt.startswith3
  have e : PySem.fromIndex T.length (i : Int) = i := by
    unfold PySem.fromIndex
    rw [if_neg (by omega)]
    omega
  rw [e, StrLaws.subAt_eq]
  have hT : T.cps.toList.length = T.length := Array.length_toList
  have hp : p.cps.toList.length = p.length := Array.length_toList
  rw [Bool.eq_iff_iff, Bool.and_eq_true, List.isPrefixOf_iff_prefix, beq_iff_eq, decide_eq_true_eq]
  constructor
  · rintro ⟨_, h⟩
    rw [← h]
    exact List.take_prefix _ _
  · intro h
    have hl := h.length_le
    rw [List.length_drop] at hl
    refine ⟨by omega, ?_⟩
    obtain ⟨r, hr⟩ := h
    rw [← hr, ← hp]
    exact List.take_left' rfl
theorem small1000' {n : Nat} (h : n ≤ 4000) : n < sizeLine := by rw [sizeLine_eq]; omega
theorem slice_run {T : Str} {i : Nat} {run post : List Nat} (hd : T.cps.toList.drop i = run ++ post) (hi : i ≤ T.length) : Txt.slice T (some (i : Int)) (some ((i + run.length : Nat) : Int)) = ⟨run.toArray⟩ := by
  have hT : T.cps.toList.length = T.length := Array.length_toList
  have hl := congrArg List.length hd
  rw [List.length_drop, List.length_append] at hl
  have h := PyProof.Rows.slice_closes (x := T) (i := (i : Int)) (j := ((i + run.length : Nat) : Int)) ⟨by omega, by omega, by omega⟩
  rw [eq_of_beq h, Int.toNat_natCast, hd, show (((i + run.length : Nat) : Int) - (i : Int)).toNat = run.length by omega, List.take_left' rfl]
def rflds (T : Str) (i : Nat) : List (Str × V) := [("text", .str T), ("at", .int (i : Int))]
structure RdAt (C : Addr) (H : Hp) (r : Addr) (T : Str) (i : Nat) : Prop where
  ob : ∃ dx, H r = some (.ins C dx (rflds T i))
  le : i ≤ T.length
  few : T.length ≤ 2000
def But (r : Addr) (H H' : Hp) : Prop := ∀ b o, b ≠ r → H b = some o → H' b = some o
theorem But.refl (r : Addr) (H : Hp) : But r H H := fun _ _ _ e => e
theorem But.trans {r : Addr} {H H' H'' : Hp} (g : But r H H') (h : But r H' H'') : But r H H'' := fun b o n e => h b o n (g b o n e)
theorem But.set {r : Addr} {H : Hp} {o : HO} : But r H (upd H r o) := fun b x n e => by rw [upd_ne n]; exact e
structure TxtR (K : PySem.W.Frag) (mg : Str → Option Value) (C : Addr) : Prop where
  cl : Cls K C
  nT : NoAttr K C "text"
  nA : NoAttr K C "at"
  mgC : mg "Reader" = some (.ref C)
theorem rf_text (T : Str) (i : Nat) : (rflds T i).lookup (Str.ofString "text") = some (V.str T) := rfl
theorem rf_at (T : Str) (i : Nat) : (rflds T i).lookup (Str.ofString "at") = some (V.int (i : Int)) := by
  unfold rflds
  rw [List.lookup_cons, show ((Str.ofString "at") == (Str.ofString "text")) = false by decide +kernel]
  rfl
theorem rf_put (T : Str) (i : Nat) (v : V) : putF (Str.ofString "at") v (rflds T i) = [(Str.ofString "text", V.str T), (Str.ofString "at", v)] := by
  unfold rflds
  rw [putF, if_neg (by decide +kernel), putF, if_pos rfl]
end L2
namespace K07
open PySem PySem.Spec L2 PyProof.Rows
def top (i : Nat) : Stmt := PySem.Challenge.pw_recastle_k07_texts_refused.main.body.getD i (.Pass ⟨0, 0, 0, 0⟩)
abbrev s_Reader___init__ : Stmt := inClass (top 14) 0
theorem sc_Reader___init__ : FnScope ["self", "text"] ["self", "text"] (defScope s_Reader___init__) := ⟨rfl, rfl, rfl, by decide +kernel, rfl, by decide +kernel, by decide +kernel⟩
abbrev s_Reader_stands : Stmt := inClass (top 14) 1
theorem sc_Reader_stands : FnScope ["self", "piece"] ["self", "piece"] (defScope s_Reader_stands) := ⟨rfl, rfl, rfl, by decide +kernel, rfl, by decide +kernel, by decide +kernel⟩
abbrev s_Reader_skipped : Stmt := inClass (top 14) 2
theorem sc_Reader_skipped : FnScope ["self", "piece"] ["self", "piece"] (defScope s_Reader_skipped) := ⟨rfl, rfl, rfl, by decide +kernel, rfl, by decide +kernel, by decide +kernel⟩
abbrev s_Reader_run_of : Stmt := inClass (top 14) 4
theorem sc_Reader_run_of : FnScope ["self", "signs", "begin"] ["self", "signs"] (defScope s_Reader_run_of) := ⟨rfl, rfl, rfl, by decide +kernel, rfl, by decide +kernel, by decide +kernel⟩
section
variable {P : Program} {w : World} {K : PySem.W.Frag} {mg : Str → Option Value} {base : Heap}
def sp_stands (C : Addr) : Sp := fun vs H Q _ => ∃ (r : Addr) (T p : Str) (i : Nat), vs = [.ref r, .str p] ∧ RdAt C H r T i ∧ Q (.bl (p.cps.toList.isPrefixOf (T.cps.toList.drop i))) H
theorem ok_stands {k : Nat} {f C : Addr} {fd : FuncData} (F : Fun K "stands" "Reader.stands" s_Reader_stands f fd) (T_Reader : TxtR K mg C) : FnOk P w K mg base CX0 (k + 1) f fd ["self", "piece"] (sp_stands C) := by
  refine F.ok sc_Reader_stands (fun vs H Q E h => ?_) (fun cdv A outer s H vs Q E hr h => ?_)
  · obtain ⟨r, T, p, i, rfl, _⟩ := h
    rfl
  obtain ⟨r, T, p, i, rfl, ⟨⟨dx, hr0⟩, hi, _⟩, q⟩ := h
  refine ⟨_, (pss_one (ps_ret (pe_bm PySem.F.plainAttrs_str PySem.F.slot_str_startswith PySem.F.type_str_startswith mt_starts3 (pe_fld (pv 0) rfl) (pa_cons (pv 1) (pa_cons (pe_fld (pv 0) rfl) pa_nil))))), ?_⟩
  refine ⟨_, rfl, r, C, dx, _, .str T, rfl, hr0, T_Reader.cl, T_Reader.nT, rf_text T i, rfl, _, rfl, _, rfl, r, C, dx, _, .int (i : Int), rfl, hr0, T_Reader.cl, T_Reader.nA, rf_at T i, T, p, (i : Int), rfl, rfl, ?_⟩
  rw [starts_at hi]
  exact q
def sp_skipped (C : Addr) : Sp := fun vs H Q _ => ∃ (r : Addr) (T p : Str) (i : Nat), vs = [.ref r, .str p] ∧ RdAt C H r T i ∧
  (p.cps.toList.isPrefixOf (T.cps.toList.drop i) = false → Q (.bl false) H) ∧ (p.cps.toList.isPrefixOf (T.cps.toList.drop i) = true → ∀ H', But r H H' → RdAt C H' r T (i + p.length) → Q (.bl true) H')
theorem ok_skipped {k : Nat} {f C g1 : Addr} {fd gd1 : FuncData} (F : Fun K "skipped" "Reader.skipped" s_Reader_skipped f fd) (T_Reader : TxtR K mg C) (z_len : mg "len" = none) (G_Reader_stands : FnM P w K mg base k C "stands" g1 gd1 ["self", "piece"] (sp_stands C)) :
    FnOk P w K mg base CX0 (k + 1) f fd ["self", "piece"] (sp_skipped C) := by
  refine F.ok sc_Reader_skipped (fun vs H Q E h => ?_) (fun cdv A outer s H vs Q E hr h => ?_)
  · obtain ⟨r, T, p, i, rfl, _⟩ := h
    rfl
  obtain ⟨r, T, p, i, rfl, rd, q0, q1⟩ := h
  obtain ⟨⟨dx, hr0⟩, hi, hf⟩ := id rd
  refine ⟨_, (pss_cons (ps_if (pt_not (pt_val (pe_meth (pv 0) T_Reader.cl G_Reader_stands.mt G_Reader_stands.ok hr G_Reader_stands.bd .nil pass0 (pa_cons (pv 1) pa_nil)))) (pss_one (ps_ret pe_bl)) pss_nil)
    (pss_cons (ps_fldaug (pv 0) (pe_callB call_len_str (by rfl) z_len PySem.boot_len (pa_cons (pv 1) pa_nil)) in_add)
    (pss_one (ps_ret pe_bl)))), ?_⟩
  refine ⟨_, rfl, r, dx, _, rfl, hr0, rfl, _, rfl, r, T, p, i, rfl, rd, ?_⟩
  refine ⟨_, rfl, ?_⟩
  cases hb : p.cps.toList.isPrefixOf (T.cps.toList.drop i) with
  | false => exact iteT (q0 hb)
  | true =>
    have hle : i + p.length ≤ T.length := by
      have h := (List.isPrefixOf_iff_prefix.mp hb).length_le
      have hT : T.cps.toList.length = T.length := Array.length_toList
      have hp : p.cps.toList.length = p.length := Array.length_toList
      rw [List.length_drop] at h
      omega
    refine iteF ?_
    refine ⟨_, rfl, r, C, dx, _, .int (i : Int), rfl, hr0, T_Reader.cl, T_Reader.nA, rf_at T i, _, rfl, p, rfl, Nat.le_of_lt (small1000' (by omega)), _, _, rfl, rfl, dx, _, hr0, (by show 2 < 1000; decide), ?_⟩
    refine q1 hb _ But.set ⟨⟨dx, ?_⟩, hle, hf⟩
    rw [upd_same, rf_put]
    rfl
def sp_init (C : Addr) : Sp := fun vs H Q _ => ∃ (r dx : Addr) (T : Str), vs = [.ref r, .str T] ∧ H r = some (.ins C dx []) ∧ T.length ≤ 2000 ∧ ∀ H', But r H H' → RdAt C H' r T 0 → Q .non H'
theorem ok_init {k : Nat} {f C : Addr} {fd : FuncData} (F : Fun K "__init__" "Reader.__init__" s_Reader___init__ f fd) (T_Reader : TxtR K mg C) : FnOk P w K mg base CX0 (k + 1) f fd ["self", "text"] (sp_init C) := by
  refine F.ok sc_Reader___init__ (fun vs H Q E h => ?_) (fun cdv A outer s H vs Q E hr h => ?_)
  · obtain ⟨r, dx, T, rfl, _⟩ := h
    rfl
  obtain ⟨r, dx, T, rfl, hr0, hT, q⟩ := h
  refine ⟨_, (pss_cons (ps_fld (pv 0) (pv 1) rfl)
    (pss_one (ps_fld (pv 0) pe_int rfl))), ?_⟩
  refine ⟨_, rfl, _, rfl, r, C, dx, [], rfl, hr0, T_Reader.cl, T_Reader.nT, (by show 0 < 1000; decide), ?_⟩
  refine ⟨_, rfl, r, C, dx, _, rfl, upd_same, T_Reader.cl, T_Reader.nA, (by show 1 < 1000; decide), ?_⟩
  refine q _ (But.set.trans But.set) ⟨⟨dx, ?_⟩, Nat.zero_le _, hT⟩
  rw [upd_same, putF, putF, if_neg (by decide +kernel), putF]
  rfl
def sp_run (C : Addr) : Sp := fun vs H Q _ => ∃ (r : Addr) (T S : Str) (i : Nat) (run post : List Nat), vs = [.ref r, .str S] ∧ RdAt C H r T i ∧ T.cps.toList.drop i = run ++ post ∧ (∀ c ∈ run, c ∈ S.cps.toList) ∧ (∀ c ∈ post.head?, c ∉ S.cps.toList) ∧
  ∀ H', But r H H' → RdAt C H' r T (i + run.length) → Q (.str ⟨run.toArray⟩) H'
theorem ok_run_of {k : Nat} {f C : Addr} {fd : FuncData} (F : Fun K "run_of" "Reader.run_of" s_Reader_run_of f fd) (T_Reader : TxtR K mg C) (z_len : mg "len" = none) : FnOk P w K mg base CX0 (k + 1) f fd ["self", "signs"] (sp_run C) := by
  refine F.ok sc_Reader_run_of (fun vs H Q E h => ?_) (fun cdv A outer s H vs Q E hr h => ?_)
  · obtain ⟨r, T, S, i, run, post, rfl, _⟩ := h
    rfl
  obtain ⟨r, T, S, i, run, post, rfl, rd, hd, hin, hout, q⟩ := h
  obtain ⟨⟨dx, hr0⟩, hi, hf⟩ := id rd
  have hT : T.cps.toList.length = T.length := Array.length_toList
  have hlen : T.length = i + run.length + post.length := by
    have := congrArg List.length hd
    rw [List.length_drop, List.length_append] at this
    omega
  have hat : ∀ j, j < run.length + post.length → T.cps.toList[i + j]? = (run ++ post)[j]? := fun j _ => by rw [← hd, List.getElem?_drop]
  refine ⟨_, (pss_cons (ps_set (i := 2) sc_Reader_run_of.nd rfl (Or.inl rfl) (pe_fld (pv 0) rfl))
    (pss_cons (ps_while PassesOwn.never (pw_and (pt_cmpR op_lt (pe_fld (pv 0) rfl) (pe_callB call_len_str (by rfl) z_len PySem.boot_len (pa_cons (pe_fld (pv 0) rfl) pa_nil)) (nomark _)) (pw_and1 (pt_cmpR op_in_str (pe_ix ix_str (pe_fld (pv 0) rfl) (pe_fld (pv 0) rfl) (fun _ _ => rfl)) (pv 1) rfl))).pt (pss_one (ps_fldaug (pv 0) pe_int in_add)))
    (pss_one (ps_ret (pe_slice sl_str (pe_fld (pv 0) rfl) (po_some (pv 2)) (po_some (pe_fld (pv 0) rfl))))))), ?_⟩
  refine ⟨_, rfl, r, C, dx, _, .int (i : Int), rfl, hr0, T_Reader.cl, T_Reader.nA, rf_at T i, ?_⟩
  refine ⟨fun m σ' H' => ∃ j : Nat, σ' = [some (.ref r), some (.str S), some (.int (i : Int))] ∧ But r H H' ∧ RdAt C H' r T (i + j) ∧ j ≤ run.length ∧ m = run.length - j, ⟨run.length, 0, rfl, But.refl r H, rd, Nat.zero_le _, rfl⟩, ?_⟩
  rintro m σ' H1 ⟨j, rfl, g1, rd1, hj, rfl⟩
  obtain ⟨⟨dx1, hr1⟩, hi1, _⟩ := id rd1
  refine ⟨_, rfl, r, C, dx1, _, .int ((i + j : Nat) : Int), rfl, hr1, T_Reader.cl, T_Reader.nA, rf_at T _, _, rfl, r, C, dx1, _, .str T, rfl, hr1, T_Reader.cl, T_Reader.nT, rf_text T _, T, rfl, Nat.le_of_lt (small1000' (by omega)), _, _, rfl, rfl, _, rfl, ?_⟩
  refine ite2 (fun c => ?_) (fun c => ?_)
  · have c' : ((i + j : Nat) : Int) < (T.length : Int) := of_decide_eq_true c
    have hjl : j < run.length + post.length := by omega
    obtain ⟨ch, hch⟩ : ∃ ch, (run ++ post)[j]? = some ch := ⟨_, List.getElem?_eq_getElem (by rw [List.length_append]; exact hjl)⟩
    have hTc : atI T.cps.toList ((i + j : Nat) : Int) = some ch := atI_nat (by rw [hat j hjl, hch])
    refine ⟨_, rfl, r, C, dx1, _, .str T, rfl, hr1, T_Reader.cl, T_Reader.nT, rf_text T _, _, rfl, r, C, dx1, _, .int ((i + j : Nat) : Int), rfl, hr1, T_Reader.cl, T_Reader.nA, rf_at T _, T, _, ch, rfl, rfl, Nat.le_of_lt (small1000' (by omega)), hTc, _, rfl, _, _, rfl, rfl, _, rfl, ?_⟩
    rw [StrLaws.found_one]
    refine ite2 (fun c2 => ?_) (fun c2 => ?_)
    · have hjr : j < run.length := by
        rcases Nat.lt_or_ge j run.length with h | h
        · exact h
        · have e : j = run.length := by omega
          subst e
          rw [List.getElem?_append_right (Nat.le_refl _), Nat.sub_self, ← List.head?_eq_getElem?] at hch
          exact absurd (of_decide_eq_true c2) (hout ch hch)
      refine ⟨_, fun _ _ h => h, ?_⟩
      refine ⟨_, rfl, r, C, dx1, _, .int ((i + j : Nat) : Int), rfl, hr1, T_Reader.cl, T_Reader.nA, rf_at T _, _, _, rfl, rfl, dx1, _, hr1, (by show 2 < 1000; decide), ?_⟩
      refine ⟨run.length - (j + 1), by omega, j + 1, rfl, g1.trans But.set, ⟨⟨dx1, ?_⟩, by omega, hf⟩, hjr, rfl⟩
      rw [upd_same, rf_put]
      rfl
    · have hjr : j = run.length := by
        rcases Nat.lt_or_ge j run.length with h | h
        · rw [List.getElem?_append_left h] at hch
          exact absurd (decide_eq_true (hin ch (List.mem_of_getElem? hch))) c2
        · omega
      subst hjr
      refine ⟨_, rfl, r, C, dx1, _, .str T, rfl, hr1, T_Reader.cl, T_Reader.nT, rf_text T _, _, rfl, _, rfl, _, rfl, r, C, dx1, _, .int ((i + run.length : Nat) : Int), rfl, hr1, T_Reader.cl, T_Reader.nA, rf_at T _, _, rfl, T, rfl, Nat.le_of_lt (small1000' (by omega)), fun _ => ?_⟩
      rw [slice_run hd hi]
      exact q H1 g1 rd1
  · have c' : ¬ ((i + j : Nat) : Int) < (T.length : Int) := fun z => c (decide_eq_true z)
    have hjr : j = run.length := by omega
    subst hjr
    refine iteF ?_
    refine ⟨_, rfl, r, C, dx1, _, .str T, rfl, hr1, T_Reader.cl, T_Reader.nT, rf_text T _, _, rfl, _, rfl, _, rfl, r, C, dx1, _, .int ((i + run.length : Nat) : Int), rfl, hr1, T_Reader.cl, T_Reader.nA, rf_at T _, _, rfl, T, rfl, Nat.le_of_lt (small1000' (by omega)), fun _ => ?_⟩
    rw [slice_run hd hi]
    exact q H1 g1 rd1
end
end K07
set_option Elab.async false
set_option linter.all false
set_option maxRecDepth 100000
set_option maxHeartbeats 4000000
namespace L2
open PySem PySem.Spec PyProof.Rows
structure KDicW (K : PySem.W.Frag) (P : Params) (d : Addr) (ks : List Str) : Prop where
  ex : ∃ (es : Array DictEntry) (n : Nat), K.lookup d = some ⟨.type "dict", none, .dict es n, #[]⟩ ∧ PySem.W.KeysLit P es.toList ∧ Paired (fun (x : Str) (e : DictEntry) => ∃ t, e.key = .str x t) ks es.toList
  nd : ks.Nodup
  sy : (d == sysModules) = false
theorem KDicW.dic {K : PySem.W.Frag} {P : Params} {d : Addr} {ks : List Str} (h : KDicW K P d ks) : KDic K P d := by
  obtain ⟨es, n, h1, h2, _⟩ := h.ex
  exact ⟨⟨es, n, h1, h2⟩, h.sy⟩
theorem kw_pairs {P : Program} {w : World} : ∀ {ks : List Str} {l : List DictEntry}, Paired (fun (x : Str) (e : DictEntry) => ∃ t, e.key = .str x t) ks l → ∃ kvs : List (Str × Value), kvs.map (·.1) = ks ∧ PySem.Pairs (PySem.strKind P w) l kvs
  | _, _, .nil => ⟨[], rfl, .nil⟩
  | _, _, @Paired.cons _ _ _ a e _ _ ⟨t, h⟩ r => by
    obtain ⟨kvs, e1, e2⟩ := kw_pairs (P := P) (w := w) r
    exact ⟨(a, e.val) :: kvs, by rw [List.map_cons, e1], .cons (by rw [h]; exact PySem.strKind_is P w a t) rfl e2⟩
theorem kw_at {X : Cx} {pins : List (Addr × Obj)} {σ : L2.St} {H : Hp} {s : Shared} {d : Addr} {ks : List Str} {es : Array DictEntry} {n : Nat} (I : Inv X pins σ H s) (hl : X.K.lookup d = some ⟨.type "dict", none, .dict es n, #[]⟩) (hk : PySem.W.KeysLit X.w.params es.toList)
    (hp : Paired (fun (x : Str) (e : DictEntry) => ∃ t, e.key = .str x t) ks es.toList) (nd : ks.Nodup) : ∃ kvs : List (Str × Value), kvs.map (·.1) = ks ∧ s.heap.DictAt (PySem.strKind X.prog X.w) d kvs n := by
  obtain ⟨kvs, e1, e2⟩ := kw_pairs (P := X.prog) (w := X.w) hp
  refine ⟨kvs, e1, _, es, I.kIn _ _ hl, ⟨rfl, rfl, rfl⟩, rfl, fun e he => ?_, e2, by rw [e1]; exact nd⟩
  obtain ⟨x, t, h1, h2⟩ := hk.all e (Array.mem_toList_iff.mpr he)
  exact ⟨x, by rw [h1]; exact PySem.strKind_is X.prog X.w x t, h2⟩
def Itk (ks : List Str) : It := ⟨fun i _ => i < ks.length, fun i H x H' => H' = H ∧ ∃ p, ks[i]? = some p ∧ x = .str p, fun i _ => ks.length ≤ i⟩
theorem turn_dictK {P : Program} {w : World} {K : PySem.W.Frag} {tg : Expr} (d it : Addr) {ks : List Str} {es : Array DictEntry} {n : Nat} (hl : K.lookup d = some ⟨.type "dict", none, .dict es n, #[]⟩) (hk : PySem.W.KeysLit w.params es.toList)
    (hp : Paired (fun (x : Str) (e : DictEntry) => ∃ t, e.key = .str x t) ks es.toList) (nd : ks.Nodup) : Turn P w K tg (Itk ks) [it] it (fun i h => h.IsKeyIter it d i ks.length n) where
  mem := by simp
  obj := fun i h st b hb => by
    have e : b = it := by simpa using hb
    subst e
    obtain ⟨ob, e, c, d⟩ := st
    exact ⟨ob, e, fun v z => by rw [d] at z; cases z⟩
  keep := fun i h h' st k => by
    obtain ⟨ob, e, r⟩ := st
    exact ⟨ob, k it (by simp) ob e, r⟩
  item := by
    intro X hP hw hK hc i pins s σ H E I hf hit hg
    subst hP hw hK
    obtain ⟨kvs, ek, hm⟩ := kw_at I hl hk hp nd
    have hlen : ks.length = kvs.length := by rw [← ek, List.length_map]
    have hg' : i < ks.length := hg
    have hi : i < kvs.length := by omega
    have hv : kvs[i]? = some (kvs[i].1, kvs[i].2) := List.getElem?_eq_getElem hi
    have hks : ks[i]? = some kvs[i].1 := by rw [← ek, List.getElem?_map, hv]; rfl
    obtain ⟨f0, f1, f2, f3, f4, f5⟩ := hf it (by simp)
    rw [hlen] at hit
    refine wpAny_pyNext_dict_item hit hm hv fun key h' hk' hit' sb => ?_
    have I1 : Inv X pins σ H { s with heap := h' } := I.turned (t' := s.toks) (fun b o hb e => (sb.2 b hb).trans e) f0 f1 f3 f4 f5
    obtain ⟨ob, e, c, dd⟩ := id hit'
    rw [← hlen] at hit'
    obtain ⟨t, et⟩ := PySem.Value.isStrOf_shape hk'
    subst et
    exact ⟨_, rfl, go_of (s := { s with heap := h' }) e c dd (by decide) ⟨.str kvs[i].1, H, I1, ⟨t, rfl⟩, ⟨rfl, _, hks, rfl⟩, hit', fun b hb => (hf b hb).1⟩⟩
  done := by
    intro X hP hw hK hc i pins s σ H E I hf hit hg
    subst hP hw hK
    obtain ⟨kvs, ek, hm⟩ := kw_at I hl hk hp nd
    have hlen : ks.length = kvs.length := by rw [← ek, List.length_map]
    have hg' : ks.length ≤ i := hg
    obtain ⟨f0, f1, f2, f3, f4, f5⟩ := hf it (by simp)
    rw [hlen] at hit
    exact wpAny_pyNext_dict_end (I.ok.hd hc) hit hm (List.getElem?_eq_none (by omega)) fun h' eb => ⟨rfl, I.turned (t' := s.toks) (fun b o hb e => eb b o hb e) f0 f1 f3 f4 f5⟩
  self := fun A i s Q E hit h => by
    refine wpAny_pyIter_slot hit.typeIs F.slot_dict_keyiterator_iter (wpAny_call_entry F.slot_dict_keyiterator_iter hit.typeIs F.entry_dict_keyiterator_iter ?_ (F.args_dict_keyiterator_iter_1 _))
    show wpAny _ _ (ret (.ref it)) _ _ s
    exact wpAny_pure ⟨_, rfl, "dict_keyiterator", _, hit.typeIs, F.slot_dict_keyiterator_next.lookup, h⟩
def iDictK (d : Addr) (ks : List Str) (tl : TE) : TI := fun σ H R => tl σ H fun x H1 => x = .ref d ∧ R (Itk ks) H1
theorem pi_dictK {X : Cx} {tg l : Expr} {tl : TE} {d : Addr} {ks : List Str} (k : KDicW X.K X.w.params d ks) (hl : PE X l tl) : PI X tg l (iDictK d ks tl) := by
  intro pins s σ H R I h
  refine thn (hl pins s σ H _ I h) fun v s1 ⟨x, H1, I1, r1, q1⟩ => ?_
  obtain ⟨e, q⟩ := q1
  subst e
  cases r1
  obtain ⟨es, n, h1, h2, h3⟩ := k.ex
  obtain ⟨kvs, ek, hm⟩ := kw_at I1 h1 h2 h3 k.nd
  have hlen : ks.length = kvs.length := by rw [← ek, List.length_map]
  refine wpAny_pyIter_dict k.sy hm ?_
  refine ⟨s1.heap.objs.size, [s1.heap.objs.size], _, _, H1, rfl, I1.kept (t' := s1.toks) fun b o e => Heap.get?_push_of_some _ e, turn_dictK d _ h1 h2 h3 k.nd, ⟨_, Heap.get?_push_size _ rfl, rfl, by rw [hlen]; rfl⟩, fun b hb => ?_, q⟩
  have e : b = s1.heap.objs.size := by simpa using hb
  subst e
  exact I1.fpOk (Nat.le_refl _) (I1.hok.fresh (Nat.le_refl _))
theorem for_dictK {ks : List Str} {g : TG} {tb : TS} {D : Ends} {σ : L2.St} {H : Hp} (Pv : Nat → L2.St → Hp → Prop) (h0 : Pv 0 σ H)
    (hs : ∀ i p σ H, ks[i]? = some p → Pv i σ H → g (.str p) σ H fun σ2 H2 => tb { D with nx := Pv (i + 1), ct := Pv (i + 1), bk := D.nx } σ2 H2) (hd : ∀ σ H, Pv ks.length σ H → D.nx σ H) :
    ∃ W : Nat → Nat → L2.St → Hp → Prop, (∃ m, W 0 m σ H) ∧ ∀ i m σ H, W i m σ H →
      ((Itk ks).stop i H ∧ D.nx σ H) ∨ ((Itk ks).go i H ∧ ∃ N : L2.St → Hp → Prop, (∀ σ' H', N σ' H' → ∃ m', m' < m ∧ W (i + 1) m' σ' H') ∧ ∀ x H', (Itk ks).yld i H x H' → g x σ H' fun σ2 H2 => tb { D with nx := N, ct := N, bk := D.nx } σ2 H2) := by
  refine ⟨fun i m σ H => m = ks.length - i ∧ i ≤ ks.length ∧ Pv i σ H, ⟨ks.length, by simp, Nat.zero_le _, h0⟩, ?_⟩
  rintro i m σ H ⟨rfl, hi, p⟩
  by_cases hlt : i < ks.length
  · refine .inr ⟨hlt, Pv (i + 1), fun σ' H' p' => ⟨ks.length - (i + 1), by omega, rfl, hlt, p'⟩, fun x H' y => ?_⟩
    obtain ⟨e, p', hp', ex⟩ := y
    subst e ex
    exact hs i p' σ _ hp' p
  · have e : i = ks.length := by omega
    subst e
    exact .inl ⟨Nat.le_refl _, hd σ H p⟩
theorem for_str {x : Str} {g : TG} {tb : TS} {D : Ends} {σ : L2.St} {H : Hp} (Pv : Nat → L2.St → Hp → Prop) (h0 : Pv 0 σ H)
    (hs : ∀ i c σ H, x.cps[i]? = some c → Pv i σ H → g (.str ⟨#[c]⟩) σ H fun σ2 H2 => tb { D with nx := Pv (i + 1), ct := Pv (i + 1), bk := D.nx } σ2 H2) (hd : ∀ σ H, Pv x.cps.size σ H → D.nx σ H) :
    ∃ W : Nat → Nat → L2.St → Hp → Prop, (∃ m, W 0 m σ H) ∧ ∀ i m σ H, W i m σ H →
      ((Its x).stop i H ∧ D.nx σ H) ∨ ((Its x).go i H ∧ ∃ N : L2.St → Hp → Prop, (∀ σ' H', N σ' H' → ∃ m', m' < m ∧ W (i + 1) m' σ' H') ∧ ∀ x' H', (Its x).yld i H x' H' → g x' σ H' fun σ2 H2 => tb { D with nx := N, ct := N, bk := D.nx } σ2 H2) := by
  refine ⟨fun i m σ H => m = x.cps.size - i ∧ i ≤ x.cps.size ∧ Pv i σ H, ⟨x.cps.size, by simp, Nat.zero_le _, h0⟩, ?_⟩
  rintro i m σ H ⟨rfl, hi, p⟩
  by_cases hlt : i < x.cps.size
  · refine .inr ⟨hlt, Pv (i + 1), fun σ' H' p' => ⟨x.cps.size - (i + 1), by omega, rfl, hlt, p'⟩, fun v H' y => ?_⟩
    obtain ⟨e, c, hc, ex⟩ := y
    subst e ex
    exact hs i c σ _ hc p
  · have e : i = x.cps.size := by omega
    subst e
    exact .inl ⟨Nat.le_refl _, hd σ H p⟩
end L2
set_option Elab.async false
set_option linter.all false
set_option maxRecDepth 100000
set_option maxHeartbeats 4000000
namespace L2
open PySem PySem.Spec PyProof.Rows
section
variable {aA dl el wl : Addr}
end
section
variable {C : Addr} {H H' : Hp} {p aA dl el wl : Addr} {ds es ws : List V}
end
theorem paired_append {α : Type} {F : α → V → Prop} : ∀ {as bs : List α} {us vs : List V}, Paired F as us → Paired F bs vs → Paired F (as ++ bs) (us ++ vs)
  | _, _, _, _, .nil, h => h
  | _, _, _, _, .cons r t, h => .cons r (paired_append t h)
section
variable {C : Addr} {H H' : Hp} {p aA dl el wl : Addr} {a : En} {W : List Item} {E : List Int} {D : List DRow}
end
end L2
set_option Elab.async false
set_option linter.all false
set_option maxRecDepth 100000
set_option maxHeartbeats 4000000
namespace L2
open PySem
def abcS : Str := Str.ofString "abcdefghijklmnopqrstuvwxyz"
def figS : Str := Str.ofString "0123456789"
def kept11 : List Str := ["let", "in", "if", "then", "else", "say", "ask", "stop", "where", "quiet", "number"]
def KeptT (K : PySem.W.Frag) (lv : Addr) : Prop := ∃ (o : Obj) (its : Array Value) (n : Nat), K.lookup lv = some o ∧ o.cls = .type "tuple" ∧ o.data = .seq its n ∧ its.size ≤ sizeLine ∧ Vals (kept11.map V.str) its.toList
structure WOk (x : Str) : Prop where
  lo : 1 ≤ x.length
  hi : x.length ≤ 8
  ab : ∀ c ∈ x.cps.toList, c ∈ abcS.cps.toList
  kp : x ∉ kept11
theorem in_kept {x : Str} (h : x ∉ kept11) : inV (.str x) (kept11.map V.str) = false := by
  cases e : inV (.str x) (kept11.map V.str) with
  | false => rfl
  | true =>
    unfold inV at e
    obtain ⟨v, hv, e2⟩ := List.any_eq_true.mp e
    obtain ⟨y, hy, rfl⟩ := List.mem_map.mp hv
    rw [eqV_str] at e2
    exact absurd (e2 ▸ hy) h
def WEnd (post : List Nat) : Prop := ∀ c ∈ post.head?, c ∉ abcS.cps.toList
structure NOk (x : Str) (n : Int) : Prop where
  lo : 1 ≤ x.length
  hi : x.length ≤ 30
  fg : ∀ c ∈ x.cps.toList, c ∈ figS.cps.toList
  zr : 1 < x.length → x.cps.toList.head? ≠ some 48
  rd : PySem.intText? x = some n
  sm : n.natAbs.log2 < 1920
def NEnd (post : List Nat) : Prop := ∀ c ∈ post.head?, c ∉ figS.cps.toList
end L2
namespace L2
open PySem
inductive PLf where
  | num (x : Str) (n : Int) | word (x : Str)
def PLf.ok : PLf → Prop
  | .num x n => NOk x n
  | .word x => WOk x
def PLf.items : PLf → List V
  | .num _ n => [.str "num", .int n]
  | .word x => [.str "name", .str x]
def LEnd (post : List Nat) : Prop := WEnd post ∧ NEnd post
theorem fig_not_abc : ∀ c ∈ abcS.cps.toList, c ∉ figS.cps.toList := by decide +kernel
theorem But.tk {C : Addr} {r : Addr} {H H' : Hp} {dx : Addr} {fs : List (Str × V)} (hr : H r = some (.ins C dx fs)) (g : But r H H') : Tk H H' := fun b ys e => g b _ (fun z => by rw [z, hr] at e; cases e) e
theorem one_pre (c : Nat) (l : List Nat) : [c].isPrefixOf l = decide (l.head? = some c) := by
  cases l with
  | nil => rfl
  | cons d l =>
    show (c == d && List.isPrefixOf [] l) = _
    rw [List.isPrefixOf_nil_left, Bool.and_true]
    by_cases h : c = d
    · subst h; simp
    · rw [beq_eq_false_iff_ne.mpr h]
      simp
      exact fun z => h z.symm
end L2
namespace L2
open PySem
def numT (n : Int) : Str := Str.ofString (toString n)
def txA : Atom → List Nat
  | .name x => x.cps.toList
  | .num n => (numT n).cps.toList
  | .gap g => 63 :: g.cps.toList
def AOk : Atom → Prop
  | .name x => WOk x
  | .num n => NOk (numT n) n
  | .gap g => WOk g
theorem q_len : (Str.ofString "?").length = 1 := by decide +kernel
theorem q_list : (Str.ofString "?").cps.toList = [63] := by decide +kernel
theorem head_in {x : Str} (h : 1 ≤ x.length) (post : List Nat) : ∃ c, c ∈ x.cps.toList ∧ (x.cps.toList ++ post).head? = some c := by
  have lx : x.cps.toList.length = x.length := Array.length_toList
  cases hx : x.cps.toList with
  | nil => rw [hx] at lx; simp at lx; omega
  | cons c r => exact ⟨c, List.mem_cons_self, rfl⟩
end L2
namespace L2
open PySem
def moreA (as : List Atom) : List Nat := as.flatMap fun a => 32 :: txA a
def txAs : List Atom → List Nat
  | [] => []
  | a :: as => 91 :: (txA a ++ (moreA as ++ [93]))
theorem But.put {r la : Addr} {H H' : Hp} {o : HO} (g : But r H H') (h : H la = none) : But r H (upd H' la o) := fun b x n e => by
  rw [upd_ne (fun z => by rw [z, h] at e; cases e)]
  exact g b x n e
theorem br_list : (Str.ofString "[").cps.toList = [91] ∧ (Str.ofString " ").cps.toList = [32] ∧ (Str.ofString "]").cps.toList = [93] := by decide +kernel
theorem br_len : (Str.ofString "[").length = 1 ∧ (Str.ofString " ").length = 1 ∧ (Str.ofString "]").length = 1 := by decide +kernel
theorem end_of {c : Nat} {l : List Nat} (h : c = 32 ∨ c = 93 ∨ c = 41) : LEnd (c :: l) := by
  have k : ∀ d ∈ [32, 93, 41], d ∉ abcS.cps.toList ∧ d ∉ figS.cps.toList := by decide +kernel
  have hc := k c (by rcases h with rfl | rfl | rfl <;> simp)
  exact ⟨fun d hd => by cases hd; exact hc.1, fun d hd => by cases hd; exact hc.2⟩
theorem more_end (as : List Atom) (post : List Nat) : LEnd (moreA as ++ (93 :: post)) := by
  cases as with
  | nil => exact end_of (.inr (.inl rfl))
  | cons a as => exact end_of (.inl rfl)
theorem drop_more {T l m : List Nat} {i : Nat} (h : T.drop i = l ++ m) : T.drop (i + l.length) = m := by
  rw [← List.drop_drop, h]
  exact List.drop_left' rfl
end L2
namespace L2
open PySem
def tx (s : String) : List Nat := (Str.ofString s).cps.toList
def bwT : Bin → String
  | .add => " + "
  | .sub => " - "
  | .mul => " * "
  | .thn => " ; "
def txT : Tr → List Nat
  | .num n => (numT n).cps.toList
  | .name x => x.cps.toList
  | .ask x => tx "(ask " ++ (x.cps.toList ++ [41])
  | .stop x => tx "(stop " ++ (x.cps.toList ++ [41])
  | .gap g as => 63 :: (g.cps.toList ++ txAs as)
  | .say a => tx "(say " ++ (txT a ++ [41])
  | .bin o a b => 40 :: (txT a ++ (tx (bwT o) ++ (txT b ++ [41])))
  | .ite a b c => tx "(if " ++ (txT a ++ (tx " then " ++ (txT b ++ (tx " else " ++ (txT c ++ [41])))))
  | .lett x a b => tx "(let " ++ (x.cps.toList ++ (tx " = " ++ (txT a ++ (tx " in " ++ (txT b ++ [41])))))
def TOk : Tr → Prop
  | .num n => NOk (numT n) n
  | .name x => WOk x
  | .ask x => WOk x
  | .stop x => WOk x
  | .gap g as => WOk g ∧ (∀ a ∈ as, AOk a) ∧ as.length ≤ 900
  | .say a => TOk a
  | .bin _ a b => TOk a ∧ TOk b
  | .ite a b c => TOk a ∧ TOk b ∧ TOk c
  | .lett x a b => WOk x ∧ TOk a ∧ TOk b
def dpT : Tr → Nat
  | .say a => dpT a + 1
  | .bin _ a b => max (dpT a) (dpT b) + 1
  | .ite a b c => max (dpT a) (max (dpT b) (dpT c)) + 1
  | .lett _ a b => max (dpT a) (dpT b) + 1
  | _ => 0
theorem pre_app (s l : List Nat) : s.isPrefixOf (s ++ l) = true := List.isPrefixOf_iff_prefix.mpr (List.prefix_append s l)
theorem tx_len (s : String) : (tx s).length = (Str.ofString s).length := Array.length_toList
end L2
namespace L2
open PySem
def brT : Tr → Option (List Nat)
  | .ask x => some (tx "ask " ++ x.cps.toList)
  | .stop x => some (tx "stop " ++ x.cps.toList)
  | .say a => some (tx "say " ++ txT a)
  | .bin o a b => some (txT a ++ (tx (bwT o) ++ txT b))
  | .ite a b c => some (tx "if " ++ (txT a ++ (tx " then " ++ (txT b ++ (tx " else " ++ txT c)))))
  | .lett x a b => some (tx "let " ++ (x.cps.toList ++ (tx " = " ++ (txT a ++ (tx " in " ++ txT b)))))
  | _ => none
theorem tx_open : tx "(ask " = 40 :: tx "ask " ∧ tx "(stop " = 40 :: tx "stop " ∧ tx "(say " = 40 :: tx "say " ∧ tx "(if " = 40 :: tx "if " ∧ tx "(let " = 40 :: tx "let " := by decide +kernel
theorem br_txt {t : Tr} {l : List Nat} (h : brT t = some l) : txT t = 40 :: (l ++ [41]) := by
  obtain ⟨e1, e2, e3, e4, e5⟩ := tx_open
  cases t <;> simp [brT] at h <;> subst h <;> simp [txT, e1, e2, e3, e4, e5]
theorem par_list : (Str.ofString "(").cps.toList = [40] ∧ (Str.ofString ")").cps.toList = [41] ∧ (Str.ofString "(").length = 1 ∧ (Str.ofString ")").length = 1 := by decide +kernel
end L2
namespace L2
open PySem
theorem blank_no : 32 ∉ abcS.cps.toList := by decide +kernel
theorem run_same : ∀ {k x rest s : List Nat}, (∀ c ∈ k, c ∈ abcS.cps.toList) → (∀ c ∈ x, c ∈ abcS.cps.toList) → WEnd rest → k ++ 32 :: s = x ++ rest → x = k
  | [], [], _, _, _, _, _, _ => rfl
  | [], d :: x, rest, s, _, hx, _, e => by
    have h : 32 = d := by simpa using congrArg List.head? e
    exact absurd (hx d List.mem_cons_self) (by rw [← h]; exact blank_no)
  | c :: k, [], rest, s, hk, _, hr, e => by
    have h : rest.head? = some c := by
      have := congrArg List.head? e
      simpa using this.symm
    exact absurd (hk c List.mem_cons_self) (hr c h)
  | c :: k, d :: x, rest, s, hk, hx, hr, e => by
    have h : c = d ∧ k ++ 32 :: s = x ++ rest := by simpa using e
    rw [h.1, run_same (fun a ha => hk a (List.mem_cons_of_mem _ ha)) (fun a ha => hx a (List.mem_cons_of_mem _ ha)) hr h.2]
def opens : List String := ["ask", "stop", "say", "if", "let"]
theorem open_tx : ∀ s ∈ opens, tx (s ++ " ") = tx s ++ [32] ∧ (∀ c ∈ tx s, c ∈ abcS.cps.toList) ∧ Str.ofString s ∈ kept11 := by decide +kernel
theorem str_of_list {x : Str} {l : List Nat} (h : x.cps.toList = l) : x = ⟨l.toArray⟩ := by cases x; simp at h ⊢; rw [← h]
theorem no_open_word {x : Str} (ok : WOk x) {rest : List Nat} (hr : WEnd rest) {s : String} (hs : s ∈ opens) : (tx (s ++ " ")).isPrefixOf (x.cps.toList ++ rest) = false := by
  obtain ⟨e1, e2, e3⟩ := open_tx s hs
  cases h : (tx (s ++ " ")).isPrefixOf (x.cps.toList ++ rest) with
  | false => rfl
  | true =>
    obtain ⟨r, hr2⟩ := List.isPrefixOf_iff_prefix.mp h
    rw [e1, List.append_assoc] at hr2
    have e4 := run_same e2 ok.ab hr hr2
    have e5 : x = Str.ofString s := by
      have a := str_of_list e4
      have b := str_of_list (x := Str.ofString s) rfl
      rw [a, b]
      rfl
    exact absurd (e5 ▸ e3) ok.kp
theorem open_head : ∀ s ∈ opens, ∃ c, (tx (s ++ " ")).head? = some c ∧ c ∈ abcS.cps.toList := by
  intro s hs
  simp only [opens, List.mem_cons, List.not_mem_nil, or_false] at hs
  rcases hs with rfl | rfl | rfl | rfl | rfl
  · exact ⟨97, by decide +kernel, by decide +kernel⟩
  · exact ⟨115, by decide +kernel, by decide +kernel⟩
  · exact ⟨115, by decide +kernel, by decide +kernel⟩
  · exact ⟨105, by decide +kernel, by decide +kernel⟩
  · exact ⟨108, by decide +kernel, by decide +kernel⟩
theorem no_open_head {l : List Nat} {d : Nat} (h : l.head? = some d) (hd : d ∉ abcS.cps.toList) {s : String} (hs : s ∈ opens) : (tx (s ++ " ")).isPrefixOf l = false := by
  obtain ⟨c, e, hc⟩ := open_head s hs
  cases h2 : (tx (s ++ " ")).isPrefixOf l with
  | false => rfl
  | true =>
    obtain ⟨r, hr⟩ := List.isPrefixOf_iff_prefix.mp h2
    rw [← hr, List.head?_append, e] at h
    cases h
    exact absurd hc hd
theorem fig_abc : ∀ c ∈ figS.cps.toList, c ∉ abcS.cps.toList := by decide +kernel
theorem marks_no : 63 ∉ abcS.cps.toList ∧ 40 ∉ abcS.cps.toList := by decide +kernel
theorem kw_apart : ∀ s ∈ opens, ∀ s' ∈ opens, (tx (s ++ " ")).isPrefixOf (tx (s' ++ " ")) = decide (s = s') := by decide +kernel
theorem kw_pre {s s' : String} (hs : s ∈ opens) (hs' : s' ∈ opens) (m : List Nat) : (tx (s ++ " ")).isPrefixOf (tx (s' ++ " ") ++ m) = decide (s' = s) := by
  by_cases c : s' = s
  · subst c
    rw [pre_app, decide_eq_true rfl]
  · rw [decide_eq_false c]
    cases h : (tx (s ++ " ")).isPrefixOf (tx (s' ++ " ") ++ m) with
    | false => rfl
    | true =>
      have h1 := List.isPrefixOf_iff_prefix.mp h
      have h2 : tx (s' ++ " ") <+: tx (s' ++ " ") ++ m := List.prefix_append _ _
      rcases Nat.le_total (tx (s ++ " ")).length (tx (s' ++ " ")).length with hl | hl
      · have h3 := List.isPrefixOf_iff_prefix.mpr (List.prefix_of_prefix_length_le h1 h2 hl)
        rw [kw_apart s hs s' hs'] at h3
        exact absurd (of_decide_eq_true h3).symm c
      · have h3 := List.isPrefixOf_iff_prefix.mpr (List.prefix_of_prefix_length_le h2 h1 hl)
        rw [kw_apart s' hs' s hs] at h3
        exact absurd (of_decide_eq_true h3) c
end L2
namespace L2
open PySem
end L2
namespace L2
open PySem
def bins : List Bin := [.add, .sub, .mul, .thn]
def betw : List Str := ["add", "sub", "mul", "then"]
theorem betw_at {i : Nat} {p : Str} (h : betw[i]? = some p) : ∃ o, bins[i]? = some o ∧ p = o.s := by
  have hi : i < 4 := (List.getElem?_eq_some_iff.mp h).1
  rcases (show i = 0 ∨ i = 1 ∨ i = 2 ∨ i = 3 by omega) with rfl | rfl | rfl | rfl <;> (cases h; exact ⟨_, rfl, rfl⟩)
theorem bw_lists : tx " + " = [32, 43, 32] ∧ tx " - " = [32, 45, 32] ∧ tx " * " = [32, 42, 32] ∧ tx " ; " = [32, 59, 32] := by decide +kernel
theorem bw_miss {o p : Bin} (h : o ≠ p) (m : List Nat) : (tx (bwT o)).isPrefixOf (tx (bwT p) ++ m) = false := by
  obtain ⟨e1, e2, e3, e4⟩ := bw_lists
  cases o <;> cases p <;> first | exact absurd rfl h | (simp only [bwT, e1, e2, e3, e4]; rfl)
def KBtw (K : PySem.W.Frag) (d : Addr) : Prop := ∀ o : Bin, ∃ t, PySem.W.nsIn K d o.s = some (some (.str (Str.ofString (bwT o)) t))
end L2
namespace L2
open PySem
def moS (p : Nat × Nat) (c : Nat) : Nat × Nat := if c = 40 then (max p.1 (p.2 + 1), p.2 + 1) else if c = 41 then (max p.1 (p.2 - 1), p.2 - 1) else (max p.1 p.2, p.2)
def Bal (l : List Nat) (d : Nat) : Prop := ∀ m c, ∃ m', l.foldl moS (m, c) = (m', c) ∧ m' ≤ max m (c + d)
theorem Bal.app {l l' : List Nat} {d : Nat} (h : Bal l d) (h' : Bal l' d) : Bal (l ++ l') d := fun m c => by
  obtain ⟨m1, e1, b1⟩ := h m c
  obtain ⟨m2, e2, b2⟩ := h' m1 c
  exact ⟨m2, by rw [List.foldl_append, e1, e2], by omega⟩
theorem Bal.up {l : List Nat} {d d' : Nat} (h : Bal l d) (hd : d ≤ d') : Bal l d' := fun m c => by
  obtain ⟨m1, e1, b1⟩ := h m c
  exact ⟨m1, e1, by omega⟩
theorem Bal.plain : ∀ {l : List Nat}, (∀ c ∈ l, c ≠ 40 ∧ c ≠ 41) → ∀ {d : Nat}, Bal l d
  | [], _, d => fun m c => ⟨m, rfl, by omega⟩
  | x :: l, h, d => fun m c => by
    obtain ⟨h1, h2⟩ := h x List.mem_cons_self
    obtain ⟨m', e, b⟩ := Bal.plain (l := l) (fun c hc => h c (List.mem_cons_of_mem _ hc)) (d := d) (max m c) c
    refine ⟨m', ?_, by omega⟩
    rw [List.foldl_cons]
    unfold moS
    rw [if_neg h1, if_neg h2]
    exact e
theorem Bal.wrap {l : List Nat} {d : Nat} (h : Bal l d) : Bal (40 :: (l ++ [41])) (d + 1) := fun m c => by
  obtain ⟨m1, e1, b1⟩ := h (max m (c + 1)) (c + 1)
  refine ⟨max m1 c, ?_, by omega⟩
  rw [List.foldl_cons, List.foldl_append]
  have e0 : moS (m, c) 40 = (max m (c + 1), c + 1) := rfl
  rw [e0, e1]
  rfl
def opT : Tr → Nat
  | .ask _ => 1
  | .stop _ => 1
  | .say a => opT a + 1
  | .bin _ a b => max (opT a) (opT b) + 1
  | .ite a b c => max (opT a) (max (opT b) (opT c)) + 1
  | .lett _ a b => max (opT a) (opT b) + 1
  | _ => 0
theorem abc_bal : ∀ c ∈ abcS.cps.toList, c ≠ 40 ∧ c ≠ 41 := by decide +kernel
theorem fig_bal : ∀ c ∈ figS.cps.toList, c ≠ 40 ∧ c ≠ 41 := by decide +kernel
theorem tx_bal : ∀ s ∈ ["ask ", "stop ", "say ", "if ", " then ", " else ", "let ", " = ", " in ", " + ", " - ", " * ", " ; "], ∀ c ∈ tx s, c ≠ 40 ∧ c ≠ 41 := by decide +kernel
theorem WOk.bal {x : Str} (h : WOk x) {d : Nat} : Bal x.cps.toList d := Bal.plain fun c hc => abc_bal c (h.ab c hc)
theorem NOk.bal {x : Str} {n : Int} (h : NOk x n) {d : Nat} : Bal x.cps.toList d := Bal.plain fun c hc => fig_bal c (h.fg c hc)
theorem one_bal {c d : Nat} (h : c ≠ 40 ∧ c ≠ 41) : Bal [c] d := Bal.plain fun x hx => by rw [List.mem_singleton.mp hx]; exact h
theorem Bal.cons {c d : Nat} {l : List Nat} (h : c ≠ 40 ∧ c ≠ 41) (hl : Bal l d) : Bal (c :: l) d := (one_bal h).app hl
theorem txb {s : String} (h : s ∈ ["ask ", "stop ", "say ", "if ", " then ", " else ", "let ", " = ", " in ", " + ", " - ", " * ", " ; "]) {d : Nat} : Bal (tx s) d := Bal.plain (tx_bal s h)
theorem AOk.bal {a : Atom} (h : AOk a) {d : Nat} : Bal (txA a) d := by
  cases a with
  | name x => exact WOk.bal h
  | num n => exact NOk.bal h
  | gap g => exact Bal.cons (by decide) (WOk.bal h)
theorem more_bal : ∀ {as : List Atom}, (∀ a ∈ as, AOk a) → ∀ {d : Nat}, Bal (moreA as) d
  | [], _, d => Bal.plain fun c hc => by cases hc
  | a :: as, h, d => by
    show Bal (32 :: txA a ++ moreA as) d
    exact (Bal.cons (by decide) (AOk.bal (h a List.mem_cons_self))).app (more_bal fun x hx => h x (List.mem_cons_of_mem _ hx))
theorem atoms_bal {as : List Atom} (h : ∀ a ∈ as, AOk a) {d : Nat} : Bal (txAs as) d := by
  cases as with
  | nil => exact Bal.plain fun c hc => by cases hc
  | cons a as => exact Bal.cons (by decide) ((AOk.bal (h a List.mem_cons_self)).app ((more_bal fun x hx => h x (List.mem_cons_of_mem _ hx)).app (one_bal (by decide))))
theorem tree_bal : ∀ {t : Tr}, TOk t → Bal (txT t) (opT t)
  | .num n, h => NOk.bal h
  | .name x, h => WOk.bal h
  | .gap g as, h => Bal.cons (by decide) ((WOk.bal h.1).app (atoms_bal h.2.1))
  | .ask x, h => by rw [br_txt rfl]; exact Bal.wrap ((txb (by decide)).app (WOk.bal h))
  | .stop x, h => by rw [br_txt rfl]; exact Bal.wrap ((txb (by decide)).app (WOk.bal h))
  | .say a, h => by rw [br_txt rfl]; exact Bal.wrap ((txb (by decide)).app (tree_bal (t := a) h))
  | .bin o a b, h => by
    rw [br_txt rfl]
    exact Bal.wrap (((tree_bal h.1).up (Nat.le_max_left _ _)).app ((txb (by cases o <;> decide)).app ((tree_bal h.2).up (Nat.le_max_right _ _))))
  | .ite a b c, h => by
    rw [br_txt rfl]
    exact Bal.wrap ((txb (by decide)).app (((tree_bal h.1).up (by omega)).app ((txb (by decide)).app (((tree_bal h.2.1).up (by omega)).app ((txb (by decide)).app ((tree_bal h.2.2).up (by omega)))))))
  | .lett x a b, h => by
    rw [br_txt rfl]
    exact Bal.wrap ((txb (by decide)).app ((WOk.bal h.1).app ((txb (by decide)).app (((tree_bal h.2.1).up (by omega)).app ((txb (by decide)).app ((tree_bal h.2.2).up (by omega)))))))
theorem par_eq {c : Nat} : (V.str ⟨#[c]⟩ = V.str "(" ↔ c = 40) ∧ (V.str ⟨#[c]⟩ = V.str ")" ↔ c = 41) := by
  have e1 : (Str.ofString "(") = ⟨#[40]⟩ := by decide +kernel
  have e2 : (Str.ofString ")") = ⟨#[41]⟩ := by decide +kernel
  constructor
  · constructor
    · intro h; injection h with h; rw [e1] at h; injection h with h; simpa using h
    · intro h; rw [h]; exact congrArg V.str e1.symm
  · constructor
    · intro h; injection h with h; rw [e2] at h; injection h with h; simpa using h
    · intro h; rw [h]; exact congrArg V.str e2.symm
theorem max_nat (a b : Nat) : (if (b : Int) > (a : Int) then (b : Int) else (a : Int)) = ((max a b : Nat) : Int) := by split <;> omega
theorem max_pred (a : Nat) : (if (0 : Int) > (a : Int) - 1 then (0 : Int) else (a : Int) - 1) = ((a - 1 : Nat) : Int) := by split <;> omega
end L2
namespace L2
open PySem
theorem dig_split {m : Nat} (h : 10 ≤ m) : Nat.toDigits 10 m = Nat.toDigits 10 (m / 10) ++ [Nat.digitChar (m % 10)] := by
  have hm : m % 10 < 10 := Nat.mod_lt m (by decide)
  have t : Nat.toDigits 10 (m / 10) ++ Nat.toDigits 10 (m % 10) = Nat.toDigits 10 (10 * (m / 10) + m % 10) := Nat.toDigits_append_toDigits (by decide) (by omega) hm
  rw [Nat.div_add_mod, Nat.toDigits_of_lt_base hm] at t
  exact t.symm
theorem dig_len : ∀ (k m : Nat), m < 10 ^ (k + 1) → (Nat.toDigits 10 m).length ≤ k + 1
  | 0, m, h => by
    rw [Nat.toDigits_of_lt_base (by simpa using h)]
    exact Nat.le_refl _
  | k + 1, m, h => by
    by_cases c : m < 10
    · rw [Nat.toDigits_of_lt_base c]
      simp
    · rw [dig_split (by omega), List.length_append]
      have := dig_len k (m / 10) (by rw [Nat.pow_succ] at h; omega)
      simp only [List.length_singleton]
      omega
theorem dig_char : ∀ d : Nat, d < 10 → 1 ≤ d → (Nat.digitChar d).toNat ≠ 48 := by decide
theorem dig_head (m : Nat) (h : 1 ≤ m) : ((Nat.toDigits 10 m).map Char.toNat).head? ≠ some 48 := by
  induction m using Nat.strongRecOn with
  | _ m ih =>
    by_cases c : m < 10
    · rw [Nat.toDigits_of_lt_base c]
      intro z
      have z' : (Nat.digitChar m).toNat = 48 := by simpa using z
      exact dig_char m c h z'
    · rw [dig_split (by omega), List.map_append, List.head?_append]
      have e := ih (m / 10) (by omega) (by omega)
      have hl := PySem.toDigits_len_ge 10 (m / 10)
      cases hx : (Nat.toDigits 10 (m / 10)).map Char.toNat with
      | nil =>
        rw [List.map_eq_nil_iff.mp hx] at hl
        exact absurd hl (by decide)
      | cons a l =>
        rw [hx] at e
        simpa using e
theorem fig_mem : ∀ c : Nat, 48 ≤ c → c ≤ 57 → c ∈ figS.cps.toList := by
  intro c h1 h2
  have k : ∀ i : Nat, i < 10 → (48 + i) ∈ figS.cps.toList := by decide +kernel
  have := k (c - 48) (by omega)
  rwa [show 48 + (c - 48) = c by omega] at this
theorem abits {n : Int} (h0 : 0 ≤ n) (h1 : n < 10 ^ 30) : n.natAbs.log2 < 1920 := by
  rcases Nat.eq_zero_or_pos n.natAbs with z | p
  · rw [z]; decide
  · rw [Nat.log2_lt (Nat.ne_of_gt p)]
    have : n.natAbs < 10 ^ 30 := by
      have : ((10 ^ 30 : Nat) : Int) = 10 ^ 30 := by decide
      omega
    exact Nat.lt_trans this (by decide)
theorem num_ok {n : Int} (h0 : 0 ≤ n) (h1 : n < 10 ^ 30) : NOk (numT n) n := by
  obtain ⟨m, rfl⟩ := Int.eq_ofNat_of_zero_le h0
  have hm : m < 10 ^ (29 + 1) := by
    have : ((m : Nat) : Int) < ((10 ^ 30 : Nat) : Int) := by rw [show ((10 ^ 30 : Nat) : Int) = 10 ^ 30 by decide]; exact h1
    exact Int.ofNat_lt.mp this
  have es : (numT ((m : Nat) : Int)).cps.toList = (Nat.toDigits 10 m).map Char.toNat := PySem.W.KIN.signs_num m
  have ll : (numT ((m : Nat) : Int)).cps.toList.length = (numT ((m : Nat) : Int)).length := Array.length_toList
  have l1 := PySem.toDigits_len_ge 10 m
  have l2 := dig_len 29 m hm
  have hd : ∀ c ∈ (numT ((m : Nat) : Int)).cps.toList, 48 ≤ c ∧ c ≤ 57 := fun c hc => by
    rw [es] at hc
    obtain ⟨ch, hch, e⟩ := List.mem_map.mp hc
    have r := PyProof.Rows.digit_range (Nat.isDigit_of_mem_toDigits (by decide) (by decide) hch)
    rw [← e]
    exact r
  rw [es, List.length_map] at ll
  refine ⟨by omega, by omega, fun c hc => fig_mem c (hd c hc).1 (hd c hc).2, fun h => ?_, ?_, abits h0 h1⟩
  · rw [es]
    refine dig_head m ?_
    cases m with
    | zero => rw [← ll, Nat.toDigits_of_lt_base (by decide)] at h; exact absurd h (by decide)
    | succ m => omega
  · have hne : (numT ((m : Nat) : Int)).cps.toList ≠ [] := by
      rw [es]
      intro e
      rw [List.map_eq_nil_iff.mp e] at l1
      exact absurd l1 (by decide)
    have e := PySem.intText_digits hd hne (by omega)
    rw [es, PySem.W.KIN.val_back] at e
    exact e
def sOf (l : List Nat) : Str := ⟨l.toArray⟩
theorem sOf_list (l : List Nat) : (sOf l).cps.toList = l := by simp [sOf]
theorem sOf_eq {x : Str} {l : List Nat} (h : x.cps.toList = l) : x = sOf l := by cases x; simp [sOf] at h ⊢; rw [← h]
theorem sOf_len (l : List Nat) : (sOf l).length = l.length := by
  have := sOf_list l
  rw [← this, Array.length_toList]
  rw [this]
  rfl
theorem app_list (x y : Str) : (x ++ y).cps.toList = x.cps.toList ++ y.cps.toList := by
  show (x.cps ++ y.cps).toList = _
  exact Array.toList_append
theorem sOf_app (a b : List Nat) : sOf a ++ sOf b = sOf (a ++ b) := sOf_eq (by rw [app_list, sOf_list, sOf_list])
theorem str_tx (s : String) : Str.ofString s = sOf (tx s) := sOf_eq rfl
theorem tx_par : tx "(" = [40] ∧ tx ")" = [41] := by decide +kernel
theorem str_len (x : Str) : x.cps.toList.length = x.length := Array.length_toList
theorem tx_lens : (tx "(ask ").length = 5 ∧ (tx "(stop ").length = 6 ∧ (tx "(say ").length = 5 ∧ (tx "(if ").length = 4 ∧ (tx " then ").length = 6 ∧ (tx " else ").length = 6 ∧ (tx "(let ").length = 5 ∧ (tx " = ").length = 3 ∧ (tx " in ").length = 4 := by decide +kernel
theorem bw_len (o : Bin) : (tx (bwT o)).length = 3 := by cases o <;> decide +kernel
theorem line_of {n : Nat} (h : n ≤ 1000000) : n ≤ sizeLine := by rw [sizeLine_eq]; omega
theorem line_lt {n : Nat} (h : n ≤ 1000000) : n < sizeLine := by rw [sizeLine_eq]; omega
end L2
namespace L2
open PySem
end L2
namespace L2
open PySem
theorem Rep.tupo {H : Hp} {t : Tr} {v : V} (h : Rep H t v) : ∃ p xs, v = .ref p ∧ H p = some (.tup xs) := by
  obtain ⟨p, hs, us, e, hp, _⟩ := h.all
  exact ⟨p, _, e, hp⟩
end L2
namespace L2
open PySem
theorem atI_in {α : Type} {xs : List α} {i : Int} (h0 : 0 ≤ i) (h1 : i < xs.length) : ∃ v, v ∈ xs ∧ atI xs i = some v := by
  have hl : i.toNat < xs.length := by omega
  have e : ((i.toNat : Nat) : Int) = i := by omega
  refine ⟨xs[i.toNat], List.getElem_mem hl, ?_⟩
  have := atI_nat (xs := xs) (j := i.toNat) (v := xs[i.toNat]) (List.getElem?_eq_getElem hl)
  rwa [e] at this
theorem kept_in {x : Str} (h : inV (.str x) (kept11.map V.str) = true) : x ∈ kept11 := by
  unfold inV at h
  obtain ⟨v, hv, e⟩ := List.any_eq_true.mp h
  obtain ⟨y, hy, rfl⟩ := List.mem_map.mp hv
  rw [eqV_str] at e
  exact e ▸ hy
end L2
namespace L2
open PySem
def atTr : Atom → Tr
  | .name x => .name x
  | .num n => .num n
  | .gap g => .gap g []
theorem atTr_rep {H : Hp} {a : Atom} {v : V} (h : AtRep H a v) : Rep H (atTr a) v := by
  cases a with
  | name x => exact h
  | num n => exact h
  | gap g =>
    obtain ⟨p, b, e, h1, h2⟩ := h
    exact ⟨p, b, [], e, h1, h2, Nat.zero_le _, .nil⟩
end L2
set_option Elab.async false
set_option linter.all false
set_option maxRecDepth 100000
set_option maxHeartbeats 4000000
namespace L2
open PySem PySem.NumText
abbrev Sg := List Nat
def isAbc (c : Nat) : Bool := decide (c ∈ abcS.cps.toList)
def isFig (c : Nat) : Bool := decide (c ∈ figS.cps.toList)
def skP (p s : Sg) : Option Sg := if p.isPrefixOf s = true then some (s.drop p.length) else none
def wordP (s : Sg) : Option (Str × Sg) := if 1 ≤ (s.takeWhile isAbc).length ∧ (s.takeWhile isAbc).length ≤ 8 ∧ sOf (s.takeWhile isAbc) ∉ kept11 then some (sOf (s.takeWhile isAbc), s.dropWhile isAbc) else none
def numP (s : Sg) : Option (Int × Sg) := if 30 < (s.takeWhile isFig).length then none else if 1 < (s.takeWhile isFig).length ∧ (s.takeWhile isFig).head? = some 48 then none else some (((digitsVal (s.takeWhile isFig) : Nat) : Int), s.dropWhile isFig)
def figB (s : Sg) : Bool := match s.head? with | some c => isFig c | none => false
def pleafP (s : Sg) : Option (Atom × Sg) := if figB s = true then (match numP s with | none => none | some (n, r) => some (.num n, r)) else (match wordP s with | none => none | some (x, r) => some (.name x, r))
def atomP (s : Sg) : Option (Atom × Sg) := match skP [63] s with
  | some s1 => (match wordP s1 with | none => none | some (x, r) => some (.gap x, r))
  | none => pleafP s
def moreP : Nat → Sg → Option (List Atom × Sg)
  | 0, _ => none
  | n + 1, s => match skP [32] s with
    | none => some ([], s)
    | some s1 => match atomP s1 with
      | none => none
      | some (a, s2) => match moreP n s2 with
        | none => none
        | some (as, r) => some (a :: as, r)
def atomsP (s : Sg) : Option (List Atom × Sg) := match skP [91] s with
  | none => some ([], s)
  | some s1 => match atomP s1 with
    | none => none
    | some (a, s2) => match moreP (s2.length + 1) s2 with
      | none => none
      | some (as, s3) => match skP [93] s3 with
        | none => none
        | some r => some (a :: as, r)
def binP (s : Sg) : Option (Bin × Sg) := match skP (tx " + ") s with
  | some r => some (.add, r)
  | none => match skP (tx " - ") s with
    | some r => some (.sub, r)
    | none => match skP (tx " * ") s with
      | some r => some (.mul, r)
      | none => match skP (tx " ; ") s with
        | some r => some (.thn, r)
        | none => none
def twoP (R : Sg → Option (Tr × Sg)) (s : Sg) : Option (Tr × Sg) := match R s with
  | none => none
  | some (a, s1) => match binP s1 with
    | none => none
    | some (o, s2) => match R s2 with
      | none => none
      | some (b, r) => some (.bin o a b, r)
def ifP (R : Sg → Option (Tr × Sg)) (s : Sg) : Option (Tr × Sg) := match R s with
  | none => none
  | some (a, s1) => match skP (tx " then ") s1 with
    | none => none
    | some s2 => match R s2 with
      | none => none
      | some (b, s3) => match skP (tx " else ") s3 with
        | none => none
        | some s4 => match R s4 with
          | none => none
          | some (c, r) => some (.ite a b c, r)
def letP (R : Sg → Option (Tr × Sg)) (s : Sg) : Option (Tr × Sg) := match wordP s with
  | none => none
  | some (x, s1) => match skP (tx " = ") s1 with
    | none => none
    | some s2 => match R s2 with
      | none => none
      | some (a, s3) => match skP (tx " in ") s3 with
        | none => none
        | some s4 => match R s4 with
          | none => none
          | some (b, r) => some (.lett x a b, r)
def brackP (R : Sg → Option (Tr × Sg)) (s : Sg) : Option (Tr × Sg) := match skP (tx "ask ") s with
  | some s1 => (match wordP s1 with | none => none | some (x, r) => some (.ask x, r))
  | none => match skP (tx "stop ") s with
    | some s1 => (match wordP s1 with | none => none | some (x, r) => some (.stop x, r))
    | none => match skP (tx "say ") s with
      | some s1 => (match R s1 with | none => none | some (a, r) => some (.say a, r))
      | none => match skP (tx "if ") s with
        | some s1 => ifP R s1
        | none => match skP (tx "let ") s with
          | some s1 => letP R s1
          | none => twoP R s
def shapeP : Nat → Sg → Option (Tr × Sg)
  | 0, _ => none
  | n + 1, s => match skP [40] s with
    | some s1 => (match brackP (shapeP n) s1 with
      | none => none
      | some (t, s2) => match skP [41] s2 with
        | none => none
        | some r => some (t, r))
    | none => match skP [63] s with
      | some s1 => (match wordP s1 with
        | none => none
        | some (g, s2) => match atomsP s2 with
          | none => none
          | some (as, r) => some (.gap g as, r))
      | none => match pleafP s with
        | none => none
        | some (a, r) => some (atTr a, r)
def opn : Sg → Nat
  | [] => 0
  | c :: s => if c = 40 then opn s + 1 else if c = 41 then opn s - 1 else opn s
def NetZ (l : Sg) : Prop := ∀ s, opn s ≤ opn (l ++ s)
theorem opn_plain : ∀ {l : Sg}, (∀ c ∈ l, c ≠ 40 ∧ c ≠ 41) → ∀ s, opn (l ++ s) = opn s
  | [], _, _ => rfl
  | c :: l, h, s => by
    obtain ⟨h1, h2⟩ := h c List.mem_cons_self
    rw [List.cons_append, opn, if_neg h1, if_neg h2]
    exact opn_plain (fun x hx => h x (List.mem_cons_of_mem _ hx)) s
theorem NetZ.plain {l : Sg} (h : ∀ c ∈ l, c ≠ 40 ∧ c ≠ 41) : NetZ l := fun s => Nat.le_of_eq (opn_plain h s).symm
theorem NetZ.app {l m : Sg} (h : NetZ l) (h' : NetZ m) : NetZ (l ++ m) := fun s => by rw [List.append_assoc]; exact Nat.le_trans (h' s) (h _)
theorem NetZ.wrap {l : Sg} (h : NetZ l) : NetZ (40 :: (l ++ [41])) := fun s => by
  have h1 := h (41 :: s)
  have e1 : opn (40 :: (l ++ [41]) ++ s) = opn (l ++ 41 :: s) + 1 := by
    rw [List.cons_append, opn, if_pos rfl, List.append_assoc]
    rfl
  have e2 : opn (41 :: s) = opn s - 1 := by rw [opn, if_neg (by decide), if_pos rfl]
  omega
theorem skP_some {p s r : Sg} (h : skP p s = some r) : s = p ++ r ∧ p.isPrefixOf s = true := by
  unfold skP at h
  split at h
  · rename_i e
    cases h
    obtain ⟨q, rfl⟩ := List.isPrefixOf_iff_prefix.mp e
    exact ⟨by rw [List.drop_left' rfl], e⟩
  · cases h
theorem skP_app (p s : Sg) : skP p (p ++ s) = some s := by
  unfold skP
  rw [if_pos (pre_app p s), List.drop_left' rfl]
theorem skP_no {p s : Sg} (h : p.isPrefixOf s = false) : skP p s = none := by
  unfold skP
  rw [h]
  rfl
theorem tw_mem {p : Nat → Bool} {s : Sg} : ∀ c ∈ s.takeWhile p, p c = true := fun c hc => by
  induction s with
  | nil => cases hc
  | cons d s ih =>
    rw [List.takeWhile_cons] at hc
    split at hc
    · rename_i e
      rcases List.mem_cons.mp hc with rfl | h
      · exact e
      · exact ih h
    · cases hc
theorem dw_head {p : Nat → Bool} {s : Sg} : ∀ c ∈ (s.dropWhile p).head?, p c = false := fun c hc => by
  induction s with
  | nil => cases hc
  | cons d s ih =>
    rw [List.dropWhile_cons] at hc
    split at hc
    · exact ih hc
    · rename_i e
      cases hc
      exact Bool.eq_false_iff.mpr e
theorem word_net {s r : Sg} {x : Str} (h : wordP s = some (x, r)) : ∃ c, s = c ++ r ∧ NetZ c := by
  unfold wordP at h
  split at h
  · cases h
    exact ⟨s.takeWhile isAbc, List.takeWhile_append_dropWhile.symm, NetZ.plain fun c hc => abc_bal c (of_decide_eq_true (tw_mem (p := isAbc) c hc))⟩
  · cases h
theorem num_net {s r : Sg} {n : Int} (h : numP s = some (n, r)) : ∃ c, s = c ++ r ∧ NetZ c := by
  unfold numP at h
  split at h
  · cases h
  · split at h
    · cases h
    · cases h
      exact ⟨s.takeWhile isFig, List.takeWhile_append_dropWhile.symm, NetZ.plain fun c hc => fig_bal c (of_decide_eq_true (tw_mem (p := isFig) c hc))⟩
theorem pleaf_net {s r : Sg} {a : Atom} (h : pleafP s = some (a, r)) : ∃ c, s = c ++ r ∧ NetZ c := by
  unfold pleafP at h
  split at h
  · split at h
    · cases h
    · rename_i n r' e
      cases h
      exact num_net e
  · split at h
    · cases h
    · rename_i n r' e
      cases h
      exact word_net e
theorem sk_net {p s r : Sg} (hp : ∀ c ∈ p, c ≠ 40 ∧ c ≠ 41) (h : skP p s = some r) : ∃ c, s = c ++ r ∧ NetZ c := ⟨p, (skP_some h).1, NetZ.plain hp⟩
theorem net_trans {s m r : Sg} (h : ∃ c, s = c ++ m ∧ NetZ c) (h' : ∃ c, m = c ++ r ∧ NetZ c) : ∃ c, s = c ++ r ∧ NetZ c := by
  obtain ⟨c, rfl, n⟩ := h
  obtain ⟨d, rfl, n'⟩ := h'
  exact ⟨c ++ d, by rw [List.append_assoc], n.app n'⟩
theorem atom_net {s r : Sg} {a : Atom} (h : atomP s = some (a, r)) : ∃ c, s = c ++ r ∧ NetZ c := by
  unfold atomP at h
  split at h
  · rename_i s1 e
    split at h
    · cases h
    · rename_i n r' e'
      cases h
      exact net_trans (sk_net (by decide) e) (word_net e')
  · exact pleaf_net h
theorem word_len {s r : Sg} {x : Str} (h : wordP s = some (x, r)) : r.length < s.length := by
  unfold wordP at h
  split at h
  · rename_i e
    cases h
    have h1 := congrArg List.length (List.takeWhile_append_dropWhile (p := isAbc) (l := s))
    rw [List.length_append] at h1
    omega
  · cases h
theorem num_lenP {s r : Sg} {n : Int} (hf : figB s = true) (h : numP s = some (n, r)) : r.length < s.length := by
  unfold numP at h
  split at h
  · cases h
  · split at h
    · cases h
    · cases h
      cases s with
      | nil => cases hf
      | cons c l =>
        have hc : isFig c = true := hf
        rw [List.dropWhile_cons, hc, if_pos rfl]
        have h1 := congrArg List.length (List.takeWhile_append_dropWhile (p := isFig) (l := l))
        rw [List.length_append] at h1
        rw [List.length_cons]
        omega
theorem pleaf_len {s r : Sg} {a : Atom} (h : pleafP s = some (a, r)) : r.length < s.length := by
  unfold pleafP at h
  split at h
  · rename_i hf
    split at h
    · cases h
    · rename_i n r' e
      cases h
      exact num_lenP hf e
  · split at h
    · cases h
    · rename_i n r' e
      cases h
      exact word_len e
theorem atom_len {s r : Sg} {a : Atom} (h : atomP s = some (a, r)) : r.length < s.length := by
  unfold atomP at h
  split at h
  · rename_i s1 e
    split at h
    · cases h
    · rename_i n r' e'
      cases h
      have h1 := congrArg List.length (skP_some e).1
      have h2 := word_len e'
      rw [List.length_append] at h1
      omega
  · exact pleaf_len h
theorem more_net : ∀ {n : Nat} {s r : Sg} {as : List Atom}, moreP n s = some (as, r) → ∃ c, s = c ++ r ∧ NetZ c
  | 0, _, _, _, h => by cases h
  | n + 1, s, r, as, h => by
    rw [moreP] at h
    split at h
    · cases h
      exact ⟨[], rfl, fun s => Nat.le_refl _⟩
    · rename_i s1 e
      split at h
      · cases h
      · rename_i a s2 e2
        split at h
        · cases h
        · rename_i bs r' e3
          cases h
          exact net_trans (net_trans (sk_net (by decide) e) (atom_net e2)) (more_net e3)
theorem atoms_net {s r : Sg} {as : List Atom} (h : atomsP s = some (as, r)) : ∃ c, s = c ++ r ∧ NetZ c := by
  unfold atomsP at h
  split at h
  · cases h
    exact ⟨[], rfl, fun s => Nat.le_refl _⟩
  · rename_i s1 e
    split at h
    · cases h
    · rename_i a s2 e2
      split at h
      · cases h
      · rename_i bs s3 e3
        split at h
        · cases h
        · rename_i r' e4
          cases h
          exact net_trans (net_trans (net_trans (sk_net (by decide) e) (atom_net e2)) (more_net e3)) (sk_net (by decide) e4)
theorem bin_net {s r : Sg} {o : Bin} (h : binP s = some (o, r)) : ∃ c, s = c ++ r ∧ NetZ c := by
  unfold binP at h
  split at h
  · rename_i r' e; cases h; exact sk_net (tx_bal _ (by decide)) e
  · split at h
    · rename_i r' e; cases h; exact sk_net (tx_bal _ (by decide)) e
    · split at h
      · rename_i r' e; cases h; exact sk_net (tx_bal _ (by decide)) e
      · split at h
        · rename_i r' e; cases h; exact sk_net (tx_bal _ (by decide)) e
        · cases h
def Nets (R : Sg → Option (Tr × Sg)) : Prop := ∀ {s r : Sg} {t : Tr}, R s = some (t, r) → ∃ c, s = c ++ r ∧ NetZ c
theorem two_net {R : Sg → Option (Tr × Sg)} (hR : Nets R) : Nets (twoP R) := fun {s r t} h => by
  unfold twoP at h
  split at h
  · cases h
  · rename_i a s1 e
    split at h
    · cases h
    · rename_i o s2 e2
      split at h
      · cases h
      · rename_i b r' e3
        cases h
        exact net_trans (net_trans (hR e) (bin_net e2)) (hR e3)
theorem if_net {R : Sg → Option (Tr × Sg)} (hR : Nets R) : Nets (ifP R) := fun {s r t} h => by
  unfold ifP at h
  split at h
  · cases h
  · rename_i a s1 e
    split at h
    · cases h
    · rename_i s2 e2
      split at h
      · cases h
      · rename_i b s3 e3
        split at h
        · cases h
        · rename_i s4 e4
          split at h
          · cases h
          · rename_i c r' e5
            cases h
            exact net_trans (net_trans (net_trans (net_trans (hR e) (sk_net (tx_bal _ (by decide)) e2)) (hR e3)) (sk_net (tx_bal _ (by decide)) e4)) (hR e5)
theorem let_net {R : Sg → Option (Tr × Sg)} (hR : Nets R) : Nets (letP R) := fun {s r t} h => by
  unfold letP at h
  split at h
  · cases h
  · rename_i a s1 e
    split at h
    · cases h
    · rename_i s2 e2
      split at h
      · cases h
      · rename_i b s3 e3
        split at h
        · cases h
        · rename_i s4 e4
          split at h
          · cases h
          · rename_i c r' e5
            cases h
            exact net_trans (net_trans (net_trans (net_trans (word_net e) (sk_net (tx_bal _ (by decide)) e2)) (hR e3)) (sk_net (tx_bal _ (by decide)) e4)) (hR e5)
theorem brack_net {R : Sg → Option (Tr × Sg)} (hR : Nets R) : Nets (brackP R) := fun {s r t} h => by
  unfold brackP at h
  split at h
  · rename_i s1 e
    split at h
    · cases h
    · rename_i x r' e2; cases h; exact net_trans (sk_net (tx_bal _ (by decide)) e) (word_net e2)
  · split at h
    · rename_i s1 e
      split at h
      · cases h
      · rename_i x r' e2; cases h; exact net_trans (sk_net (tx_bal _ (by decide)) e) (word_net e2)
    · split at h
      · rename_i s1 e
        split at h
        · cases h
        · rename_i x r' e2; cases h; exact net_trans (sk_net (tx_bal _ (by decide)) e) (hR e2)
      · split at h
        · rename_i s1 e; exact net_trans (sk_net (tx_bal _ (by decide)) e) (if_net hR h)
        · split at h
          · rename_i s1 e; exact net_trans (sk_net (tx_bal _ (by decide)) e) (let_net hR h)
          · exact two_net hR h
theorem shape_net : ∀ n : Nat, Nets (shapeP n)
  | 0, _, _, _, h => by cases h
  | n + 1, s, r, t, h => by
    rw [shapeP] at h
    split at h
    · rename_i s1 e
      split at h
      · cases h
      · rename_i t' s2 e2
        split at h
        · cases h
        · rename_i r' e3
          cases h
          obtain ⟨c, hc, nc⟩ := brack_net (shape_net n) e2
          refine ⟨40 :: (c ++ [41]), ?_, nc.wrap⟩
          rw [(skP_some e).1, hc, (skP_some e3).1]
          simp
    · split at h
      · rename_i s1 e
        split at h
        · cases h
        · rename_i g s2 e2
          split at h
          · cases h
          · rename_i as r' e3
            cases h
            exact net_trans (net_trans (sk_net (by decide) e) (word_net e2)) (atoms_net e3)
      · split at h
        · cases h
        · rename_i a r' e; cases h; exact pleaf_net e
theorem tw_app {p : Nat → Bool} : ∀ {x r : Sg}, (∀ c ∈ x, p c = true) → (∀ c ∈ r.head?, p c = false) → (x ++ r).takeWhile p = x ∧ (x ++ r).dropWhile p = r
  | [], [], _, _ => ⟨rfl, rfl⟩
  | [], d :: r, _, h => by
    have e := h d rfl
    rw [List.nil_append, List.takeWhile_cons, List.dropWhile_cons, e]
    exact ⟨rfl, rfl⟩
  | c :: x, r, h, h' => by
    obtain ⟨h1, h2⟩ := tw_app (x := x) (r := r) (fun d hd => h d (List.mem_cons_of_mem _ hd)) h'
    rw [List.cons_append, List.takeWhile_cons, List.dropWhile_cons, h c List.mem_cons_self, if_pos rfl, if_pos rfl, h1, h2]
    exact ⟨rfl, rfl⟩
theorem word_comp {x : Str} {r : Sg} (h : WOk x) (hr : WEnd r) : wordP (x.cps.toList ++ r) = some (x, r) := by
  obtain ⟨e1, e2⟩ := tw_app (p := isAbc) (x := x.cps.toList) (r := r) (fun c hc => decide_eq_true (h.ab c hc)) (fun c hc => decide_eq_false (hr c hc))
  have ex : sOf x.cps.toList = x := (sOf_eq rfl).symm
  unfold wordP
  rw [e1, e2, ex, str_len, if_pos ⟨h.lo, h.hi, h.kp⟩]
theorem num_comp {x : Str} {n : Int} {r : Sg} (h : NOk x n) (hr : NEnd r) : numP (x.cps.toList ++ r) = some (n, r) ∧ figB (x.cps.toList ++ r) = true := by
  obtain ⟨e1, e2⟩ := tw_app (p := isFig) (x := x.cps.toList) (r := r) (fun c hc => decide_eq_true (h.fg c hc)) (fun c hc => decide_eq_false (hr c hc))
  have hl := str_len x
  have h0 := h.lo
  have hd : AllDigits x.cps.toList := fun c hc => by
    have := h.fg c hc
    have k : ∀ c ∈ figS.cps.toList, 48 ≤ c ∧ c ≤ 57 := by decide +kernel
    exact k c this
  have hne : x.cps.toList ≠ [] := fun z => by rw [z] at hl; simp at hl; omega
  have hv := intText_digits hd hne (by have := h.hi; omega)
  rw [h.rd] at hv
  have hn : n = ((digitsVal x.cps.toList : Nat) : Int) := Option.some.inj hv
  constructor
  · unfold numP
    rw [e1, e2, hl, if_neg (by have := h.hi; omega), if_neg (fun z => h.zr z.1 z.2), ← hn]
  · obtain ⟨c, hc, e⟩ := head_in h.lo r
    unfold figB
    rw [e]
    exact decide_eq_true (h.fg c hc)
theorem fig_no_abc {x : Str} {r : Sg} (h : WOk x) : figB (x.cps.toList ++ r) = false := by
  obtain ⟨c, hc, e⟩ := head_in h.lo r
  unfold figB
  rw [e]
  exact decide_eq_false (fig_not_abc c (h.ab c hc))
theorem q_no {x : Str} {r : Sg} (h : ∀ c ∈ x.cps.toList, c ∈ abcS.cps.toList ∨ c ∈ figS.cps.toList) (h1 : 1 ≤ x.length) : skP [63] (x.cps.toList ++ r) = none ∧ skP [40] (x.cps.toList ++ r) = none := by
  obtain ⟨c, hc, e⟩ := head_in h1 r
  have k : 63 ∉ abcS.cps.toList ∧ 63 ∉ figS.cps.toList ∧ 40 ∉ abcS.cps.toList ∧ 40 ∉ figS.cps.toList := by decide +kernel
  constructor
  · refine skP_no ?_
    rw [one_pre, e]
    refine decide_eq_false fun z => ?_
    cases z
    exact (h 63 hc).elim k.1 k.2.1
  · refine skP_no ?_
    rw [one_pre, e]
    refine decide_eq_false fun z => ?_
    cases z
    exact (h 40 hc).elim k.2.2.1 k.2.2.2
theorem atom_comp {a : Atom} {r : Sg} (h : AOk a) (hr : LEnd r) : atomP (txA a ++ r) = some (a, r) := by
  cases a with
  | name x =>
    have h' : WOk x := h
    show atomP (x.cps.toList ++ r) = _
    unfold atomP pleafP
    rw [(q_no (fun c hc => .inl (h'.ab c hc)) h'.lo).1, fig_no_abc h', word_comp h' hr.1]
    rfl
  | num n =>
    have h' : NOk (numT n) n := h
    show atomP ((numT n).cps.toList ++ r) = _
    unfold atomP pleafP
    rw [(q_no (fun c hc => .inr (h'.fg c hc)) h'.lo).1, (num_comp h' hr.2).2, (num_comp h' hr.2).1]
    rfl
  | gap g =>
    have h' : WOk g := h
    show atomP ([63] ++ (g.cps.toList ++ r)) = _
    unfold atomP
    rw [skP_app]
    dsimp only
    rw [word_comp h' hr.1]
theorem more_comp : ∀ {as : List Atom} {n : Nat} {r : Sg}, (∀ a ∈ as, AOk a) → as.length < n → moreP n (moreA as ++ 93 :: r) = some (as, 93 :: r)
  | [], n + 1, r, _, _ => by
    show moreP (n + 1) (93 :: r) = _
    rw [moreP, skP_no (by rw [one_pre]; simp)]
  | a :: as, n + 1, r, h, hn => by
    have e : moreA (a :: as) ++ 93 :: r = [32] ++ (txA a ++ (moreA as ++ 93 :: r)) := by
      show (32 :: txA a ++ moreA as) ++ 93 :: r = _
      simp
    rw [e, moreP, skP_app]
    dsimp only
    rw [atom_comp (h a List.mem_cons_self) (more_end as r)]
    dsimp only
    rw [more_comp (fun x hx => h x (List.mem_cons_of_mem _ hx)) (by simpa using hn)]
theorem moreA_len : ∀ as : List Atom, as.length ≤ (moreA as).length
  | [] => Nat.le_refl _
  | a :: as => by
    have := moreA_len as
    show as.length + 1 ≤ (32 :: txA a ++ moreA as).length
    rw [List.length_append, List.length_cons]
    omega
theorem atoms_comp {as : List Atom} {r : Sg} (h : ∀ a ∈ as, AOk a) (hr : ∀ c ∈ r.head?, c ≠ 91) : atomsP (txAs as ++ r) = some (as, r) := by
  cases as with
  | nil =>
    show atomsP r = _
    unfold atomsP
    rw [skP_no]
    rw [one_pre]
    exact decide_eq_false fun z => hr 91 z rfl
  | cons a as =>
    have e : txAs (a :: as) ++ r = [91] ++ (txA a ++ (moreA as ++ 93 :: r)) := by simp [txAs]
    unfold atomsP
    rw [e, skP_app]
    dsimp only
    rw [atom_comp (h a List.mem_cons_self) (more_end as r)]
    dsimp only
    rw [more_comp (fun x hx => h x (List.mem_cons_of_mem _ hx)) (by have := moreA_len as; rw [List.length_append]; omega)]
    dsimp only
    rw [show (93 :: r : Sg) = [93] ++ r from rfl, skP_app]
def EndOk (r : Sg) : Prop := LEnd r ∧ ∀ c ∈ r.head?, c ≠ 91
theorem end_cons {c : Nat} {r : Sg} (h : c ∉ abcS.cps.toList ∧ c ∉ figS.cps.toList ∧ c ≠ 91) : EndOk (c :: r) := ⟨⟨fun d hd => by cases hd; exact h.1, fun d hd => by cases hd; exact h.2.1⟩, fun d hd => by cases hd; exact h.2.2⟩
theorem end_nil : EndOk [] := ⟨⟨(fun d hd => by cases hd), (fun d hd => by cases hd)⟩, (fun d hd => by cases hd)⟩
theorem end_tx {s : String} {l : Sg} (h : (tx s).head? = some 32) : EndOk (tx s ++ l) := by
  cases e : tx s with
  | nil => rw [e] at h; cases h
  | cons c m =>
    rw [e] at h
    cases h
    exact end_cons (by decide +kernel)
theorem end_41 {l : Sg} : EndOk (41 :: l) := end_cons (by decide +kernel)
theorem no_open_end {a : Tr} (ok : TOk a) {rest : Sg} (hr : WEnd rest) {s : String} (hs : s ∈ opens) : (tx (s ++ " ")).isPrefixOf (txT a ++ rest) = false := by
  obtain ⟨e1, e2, e3, e4, e5⟩ := tx_open
  cases a with
  | num n =>
    obtain ⟨c, hc, e⟩ := head_in (NOk.lo ok) rest
    exact no_open_head e (fig_abc c (NOk.fg ok c hc)) hs
  | name x => exact no_open_word ok hr hs
  | gap g as => exact no_open_head (d := 63) rfl marks_no.1 hs
  | ask x => exact no_open_head (d := 40) (by simp [txT, e1]) marks_no.2 hs
  | stop x => exact no_open_head (d := 40) (by simp [txT, e2]) marks_no.2 hs
  | say a => exact no_open_head (d := 40) (by simp [txT, e3]) marks_no.2 hs
  | bin o a b => exact no_open_head (d := 40) rfl marks_no.2 hs
  | ite a b c => exact no_open_head (d := 40) (by simp [txT, e4]) marks_no.2 hs
  | lett x a b => exact no_open_head (d := 40) (by simp [txT, e5]) marks_no.2 hs
theorem brack_two {R : Sg → Option (Tr × Sg)} {s : Sg} (h : ∀ k ∈ opens, (tx (k ++ " ")).isPrefixOf s = false) : brackP R s = twoP R s := by
  unfold brackP
  rw [show tx "ask " = tx ("ask" ++ " ") from rfl, show tx "stop " = tx ("stop" ++ " ") from rfl, show tx "say " = tx ("say" ++ " ") from rfl, show tx "if " = tx ("if" ++ " ") from rfl, show tx "let " = tx ("let" ++ " ") from rfl,
    skP_no (h "ask" (by decide)), skP_no (h "stop" (by decide)), skP_no (h "say" (by decide)), skP_no (h "if" (by decide)), skP_no (h "let" (by decide))]
theorem bin_comp (o : Bin) (r : Sg) : binP (tx (bwT o) ++ r) = some (o, r) := by
  have miss : ∀ p : Bin, p ≠ o → skP (tx (bwT p)) (tx (bwT o) ++ r) = none := fun p h => skP_no (bw_miss h r)
  unfold binP
  cases o with
  | add => rw [show tx (bwT .add) = tx " + " from rfl, skP_app]
  | sub => rw [show skP (tx " + ") (tx (bwT .sub) ++ r) = none from miss .add (by intro z; cases z), show tx (bwT .sub) = tx " - " from rfl, skP_app]
  | mul => rw [show skP (tx " + ") (tx (bwT .mul) ++ r) = none from miss .add (by intro z; cases z), show skP (tx " - ") (tx (bwT .mul) ++ r) = none from miss .sub (by intro z; cases z), show tx (bwT .mul) = tx " * " from rfl, skP_app]
  | thn => rw [show skP (tx " + ") (tx (bwT .thn) ++ r) = none from miss .add (by intro z; cases z), show skP (tx " - ") (tx (bwT .thn) ++ r) = none from miss .sub (by intro z; cases z), show skP (tx " * ") (tx (bwT .thn) ++ r) = none from miss .mul (by intro z; cases z), show tx (bwT .thn) = tx " ; " from rfl, skP_app]
theorem kw_ot {k k' : String} (s s' : String) (e : k = s ++ " ") (e' : k' = s' ++ " ") (hs : s ∈ opens) (hs' : s' ∈ opens) (n : s' ≠ s) (m : Sg) : skP (tx k) (tx k' ++ m) = none := by
  subst e e'
  exact skP_no (by rw [kw_pre hs hs' m]; exact decide_eq_false n)
theorem shape_compB : ∀ {n : Nat} {t : Tr} {r : Sg}, TOk t → dpT t < n → (brT t = none → EndOk r) → shapeP n (txT t ++ r) = some (t, r)
  | 0, t, r, _, h, _ => absurd h (Nat.not_lt_zero _)
  | n + 1, t, r, ok, hn, hr0 => by
    have brk : ∀ {l : Sg}, brT t = some l → brackP (shapeP n) (l ++ 41 :: r) = some (t, 41 :: r) → shapeP (n + 1) (txT t ++ r) = some (t, r) := fun {l} hb h => by
      have e : txT t ++ r = [40] ++ (l ++ 41 :: r) := by rw [br_txt hb]; simp
      rw [e, shapeP, skP_app]
      dsimp only
      rw [h]
      dsimp only
      rw [show (41 :: r : Sg) = [41] ++ r from rfl, skP_app]
    cases t with
    | num m =>
      have hr := hr0 rfl
      have ok' : NOk (numT m) m := ok
      show shapeP (n + 1) ((numT m).cps.toList ++ r) = _
      rw [shapeP, (q_no (fun c hc => .inr (ok'.fg c hc)) ok'.lo).2, (q_no (fun c hc => .inr (ok'.fg c hc)) ok'.lo).1]
      unfold pleafP
      rw [(num_comp ok' hr.1.2).2, (num_comp ok' hr.1.2).1]
      rfl
    | name x =>
      have hr := hr0 rfl
      have ok' : WOk x := ok
      show shapeP (n + 1) (x.cps.toList ++ r) = _
      rw [shapeP, (q_no (fun c hc => .inl (ok'.ab c hc)) ok'.lo).2, (q_no (fun c hc => .inl (ok'.ab c hc)) ok'.lo).1]
      unfold pleafP
      rw [fig_no_abc ok', word_comp ok' hr.1.1]
      rfl
    | gap g as =>
      have hr := hr0 rfl
      obtain ⟨kg, kas, _⟩ := ok
      have e : txT (.gap g as) ++ r = [63] ++ (g.cps.toList ++ (txAs as ++ r)) := by simp [txT]
      have we : WEnd (txAs as ++ r) := by
        cases as with
        | nil => exact hr.1.1
        | cons a as =>
          intro c hc
          cases hc
          exact (show 91 ∉ abcS.cps.toList by decide +kernel)
      rw [e, shapeP, skP_no (by rw [one_pre]; simp), skP_app]
      dsimp only
      rw [word_comp kg we]
      dsimp only
      rw [atoms_comp kas hr.2]
    | ask x =>
      refine brk rfl ?_
      unfold brackP
      rw [List.append_assoc, skP_app]
      dsimp only
      rw [word_comp ok end_41.1.1]
    | stop x =>
      refine brk rfl ?_
      unfold brackP
      rw [List.append_assoc, kw_ot (k := "ask ") (k' := "stop ") "ask" "stop" rfl rfl (by decide) (by decide) (by decide), skP_app]
      dsimp only
      rw [word_comp ok end_41.1.1]
    | say a =>
      refine brk rfl ?_
      have hn' : dpT a + 1 < n + 1 := hn
      unfold brackP
      rw [List.append_assoc, kw_ot (k := "ask ") (k' := "say ") "ask" "say" rfl rfl (by decide) (by decide) (by decide), kw_ot (k := "stop ") (k' := "say ") "stop" "say" rfl rfl (by decide) (by decide) (by decide), skP_app]
      dsimp only
      rw [shape_compB (n := n) (t := a) ok (by omega) (fun _ => end_41)]
    | ite a b c =>
      refine brk rfl ?_
      have hn' : max (dpT a) (max (dpT b) (dpT c)) + 1 < n + 1 := hn
      have e : tx "if " ++ (txT a ++ (tx " then " ++ (txT b ++ (tx " else " ++ txT c)))) ++ 41 :: r = tx "if " ++ (txT a ++ (tx " then " ++ (txT b ++ (tx " else " ++ (txT c ++ 41 :: r))))) := by simp
      unfold brackP
      rw [e, kw_ot (k := "ask ") (k' := "if ") "ask" "if" rfl rfl (by decide) (by decide) (by decide), kw_ot (k := "stop ") (k' := "if ") "stop" "if" rfl rfl (by decide) (by decide) (by decide), kw_ot (k := "say ") (k' := "if ") "say" "if" rfl rfl (by decide) (by decide) (by decide), skP_app]
      dsimp only
      unfold ifP
      rw [shape_compB (n := n) (t := a) ok.1 (by omega) (fun _ => (end_tx (by decide +kernel)))]
      dsimp only
      rw [skP_app]
      dsimp only
      rw [shape_compB (n := n) (t := b) ok.2.1 (by omega) (fun _ => (end_tx (by decide +kernel)))]
      dsimp only
      rw [skP_app]
      dsimp only
      rw [shape_compB (n := n) (t := c) ok.2.2 (by omega) (fun _ => end_41)]
    | lett x a b =>
      refine brk rfl ?_
      have hn' : max (dpT a) (dpT b) + 1 < n + 1 := hn
      have e : tx "let " ++ (x.cps.toList ++ (tx " = " ++ (txT a ++ (tx " in " ++ txT b)))) ++ 41 :: r = tx "let " ++ (x.cps.toList ++ (tx " = " ++ (txT a ++ (tx " in " ++ (txT b ++ 41 :: r))))) := by simp
      unfold brackP
      rw [e, kw_ot (k := "ask ") (k' := "let ") "ask" "let" rfl rfl (by decide) (by decide) (by decide), kw_ot (k := "stop ") (k' := "let ") "stop" "let" rfl rfl (by decide) (by decide) (by decide), kw_ot (k := "say ") (k' := "let ") "say" "let" rfl rfl (by decide) (by decide) (by decide), kw_ot (k := "if ") (k' := "let ") "if" "let" rfl rfl (by decide) (by decide) (by decide), skP_app]
      dsimp only
      unfold letP
      rw [word_comp ok.1 (end_tx (s := " = ") (by decide +kernel)).1.1]
      dsimp only
      rw [skP_app]
      dsimp only
      rw [shape_compB (n := n) (t := a) ok.2.1 (by omega) (fun _ => (end_tx (by decide +kernel)))]
      dsimp only
      rw [skP_app]
      dsimp only
      rw [shape_compB (n := n) (t := b) ok.2.2 (by omega) (fun _ => end_41)]
    | bin o a b =>
      refine brk rfl ?_
      have hn' : max (dpT a) (dpT b) + 1 < n + 1 := hn
      have e : txT a ++ (tx (bwT o) ++ txT b) ++ 41 :: r = txT a ++ (tx (bwT o) ++ (txT b ++ 41 :: r)) := by simp
      have eo : EndOk (tx (bwT o) ++ (txT b ++ 41 :: r)) := end_tx (by cases o <;> decide +kernel)
      rw [e, brack_two fun k hk => no_open_end ok.1 eo.1.1 hk]
      unfold twoP
      rw [shape_compB (n := n) (t := a) ok.1 (by omega) (fun _ => eo)]
      dsimp only
      rw [bin_comp]
      dsimp only
      rw [shape_compB (n := n) (t := b) ok.2 (by omega) (fun _ => end_41)]
theorem shape_comp {n : Nat} {t : Tr} {r : Sg} (ok : TOk t) (hn : dpT t < n) (hr : EndOk r) : shapeP n (txT t ++ r) = some (t, r) := shape_compB ok hn fun _ => hr
end L2
set_option Elab.async false
set_option linter.all false
set_option maxRecDepth 100000
set_option maxHeartbeats 4000000
namespace L2
open PySem PySem.NumText
structure FnMF (P : Program) (w : World) (K : PySem.W.Frag) (mg : Str → Option Value) (base : Heap) (k : Nat) (C : Addr) (m : Str) (f : Addr) (fd : FuncData) (ps : List Str) (sp : Sp) : Prop where
  ok : FnOk P w K mg base (CXF P w) k f fd ps sp
  bd : Binds K fd ps []
  mt : Meth K C m f
theorem FnMF.up {P : Program} {w : World} {K : PySem.W.Frag} {mg : Str → Option Value} {base : Heap} {j k : Nat} {C : Addr} {m : Str} {f : Addr} {fd : FuncData} {ps : List Str} {sp : Sp} (F : FnMF P w K mg base j C m f fd ps sp) (h : j ≤ k) : FnMF P w K mg base k C m f fd ps sp := ⟨F.ok.mono h, F.bd, F.mt⟩
def OutP {α : Type} (C cN : Addr) (H : Hp) (r : Addr) (T : Str) (o : Option (α × Sg)) (Rp : Hp → α → V → Prop) (Q : VK) (E : XK) : Prop := match o with
  | none => ∀ H', But r H H' → E (.ref cN) none H'
  | some (x, s) => ∀ (v : V) (H' : Hp) (j : Nat), But r H H' → RdAt C H' r T j → T.cps.toList.drop j = s → Rp H' x v → Q v H'
theorem OutP.bad {α : Type} {C cN : Addr} {H : Hp} {r : Addr} {T : Str} {o : Option (α × Sg)} {Rp : Hp → α → V → Prop} {Q : VK} {E : XK} (h : OutP C cN H r T o Rp Q E) (e : o = none) : ∀ H', But r H H' → E (.ref cN) none H' := by
  subst e
  exact h
theorem OutP.good {α : Type} {C cN : Addr} {H : Hp} {r : Addr} {T : Str} {o : Option (α × Sg)} {Rp : Hp → α → V → Prop} {Q : VK} {E : XK} (h : OutP C cN H r T o Rp Q E) {x : α} {s : Sg} (e : o = some (x, s)) : ∀ (v : V) (H' : Hp) (j : Nat), But r H H' → RdAt C H' r T j → T.cps.toList.drop j = s → Rp H' x v → Q v H' := by
  subst e
  exact h
theorem OutP.mk {α : Type} {C cN : Addr} {H : Hp} {r : Addr} {T : Str} {o : Option (α × Sg)} {Rp : Hp → α → V → Prop} {Q : VK} {E : XK} (hb : o = none → ∀ H', But r H H' → E (.ref cN) none H') (hg : ∀ x s, o = some (x, s) → ∀ (v : V) (H' : Hp) (j : Nat), But r H H' → RdAt C H' r T j → T.cps.toList.drop j = s → Rp H' x v → Q v H') : OutP C cN H r T o Rp Q E := by
  cases o with
  | none => exact hb rfl
  | some p => obtain ⟨x, s⟩ := p; exact hg x s rfl
def RpS (_ : Hp) (x : Str) (v : V) : Prop := v = .str x
def RpI (_ : Hp) (n : Int) (v : V) : Prop := v = .int n
end L2
namespace K07
open PySem PySem.Spec L2 PyProof.Rows PySem.NumText
abbrev s_Reader_skip : Stmt := inClass (top 14) 3
theorem sc_Reader_skip : FnScope ["self", "piece"] ["self", "piece"] (defScope s_Reader_skip) := ⟨rfl, rfl, rfl, by decide +kernel, rfl, by decide +kernel, by decide +kernel⟩
abbrev s_Reader_skip_end : Stmt := inClass (top 14) 5
theorem sc_Reader_skip_end : FnScope ["self"] ["self"] (defScope s_Reader_skip_end) := ⟨rfl, rfl, rfl, by decide +kernel, rfl, by decide +kernel, by decide +kernel⟩
abbrev s_word_from : Stmt := top 17
theorem sc_word_from : FnScope ["reader", "word"] ["reader"] (defScope s_word_from) := ⟨rfl, rfl, rfl, by decide +kernel, rfl, by decide +kernel, by decide +kernel⟩
abbrev s_number_from : Stmt := top 18
theorem sc_number_from : FnScope ["reader", "figures"] ["reader"] (defScope s_number_from) := ⟨rfl, rfl, rfl, by decide +kernel, rfl, by decide +kernel, by decide +kernel⟩
section
variable {P : Program} {w : World} {K : PySem.W.Frag} {mg : Str → Option Value} {base : Heap}
def sp_skipF (C cN : Addr) : Sp := fun vs H Q E => ∃ (r : Addr) (T p : Str) (i : Nat), vs = [.ref r, .str p] ∧ RdAt C H r T i ∧ (PySem.reprText p).length ≤ 1000 ∧
  (skP p.cps.toList (T.cps.toList.drop i) = none → E (.ref cN) none H) ∧ ∀ s, skP p.cps.toList (T.cps.toList.drop i) = some s → ∀ (H' : Hp) (j : Nat), But r H H' → RdAt C H' r T j → T.cps.toList.drop j = s → Q .non H'
theorem okF_skip {k : Nat} {f C cN g1 : Addr} {fd gd1 : FuncData} (F : Fun K "skip" "Reader.skip" s_Reader_skip f fd) (T_Reader : TxtR K mg C) (m_NoText : mg "NoText" = some (.ref cN)) (x_NoText : PySem.W.excIn K cN bmVE "ValueError.__new__" = true) (G_Reader_skipped : FnM P w K mg base k C "skipped" g1 gd1 ["self", "piece"] (sp_skipped C)) :
    FnOk P w K mg base (CXF P w) (k + 1) f fd ["self", "piece"] (sp_skipF C cN) := by
  refine F.okF sc_Reader_skip (fun vs H Q E h => ?_) (fun cdv A outer s H vs Q E hr h => ?_)
  · obtain ⟨r, T, p, i, rfl, _⟩ := h
    rfl
  obtain ⟨r, T, p, i, rfl, rd, hp, qn, qs⟩ := h
  obtain ⟨⟨dx, hr0⟩, hi, hf⟩ := id rd
  refine ⟨_, (pss_one (ps_if (pt_not (pt_val (pe_meth (pv 0) T_Reader.cl G_Reader_skipped.mt G_Reader_skipped.ok hr G_Reader_skipped.bd .nil pass0 (pa_cons (pv 1) pa_nil)))) (pss_one (ps_raise (by rfl) m_NoText x_NoText (pa_cons (pe_fRep (pv 1)) pa_nil))) pss_nil)), ?_⟩
  refine ⟨_, rfl, r, dx, _, rfl, hr0, rfl, _, rfl, r, T, p, i, rfl, rd, fun hb => ?_, fun hb H' g rd' => ?_⟩
  · refine ⟨_, rfl, iteT ⟨_, rfl, p, rfl, line_of (by rw [show (Str.ofString " is missing").length = 11 by decide +kernel]; omega), (by show 1 ≤ sizeLine; decide), qn (skP_no hb)⟩⟩
  · refine ⟨_, rfl, iteF ?_⟩
    have e : skP p.cps.toList (T.cps.toList.drop i) = some ((T.cps.toList.drop i).drop p.cps.toList.length) := if_pos hb
    refine qs _ e H' _ g rd' ?_
    rw [List.drop_drop, str_len]
def sp_skip_endF (C cN : Addr) : Sp := fun vs H Q E => ∃ (r : Addr) (T : Str) (i : Nat), vs = [.ref r] ∧ RdAt C H r T i ∧ (T.cps.toList.drop i = [] → Q .non H) ∧ (T.cps.toList.drop i ≠ [] → E (.ref cN) none H)
theorem okF_skip_end {k : Nat} {f C cN : Addr} {fd : FuncData} (F : Fun K "skip_end" "Reader.skip_end" s_Reader_skip_end f fd) (T_Reader : TxtR K mg C) (z_len : mg "len" = none) (m_NoText : mg "NoText" = some (.ref cN)) (x_NoText : PySem.W.excIn K cN bmVE "ValueError.__new__" = true) : FnOk P w K mg base (CXF P w) (k + 1) f fd ["self"] (sp_skip_endF C cN) := by
  refine F.okF sc_Reader_skip_end (fun vs H Q E h => ?_) (fun cdv A outer s H vs Q E hr h => ?_)
  · obtain ⟨r, T, i, rfl, _⟩ := h
    rfl
  obtain ⟨r, T, i, rfl, ⟨⟨dx, hr0⟩, hi, hf⟩, q0, q1⟩ := h
  refine ⟨_, (pss_one (ps_if (pt_cmpR op_lt (pe_fld (pv 0) rfl) (pe_callB call_len_str (by rfl) z_len PySem.boot_len (pa_cons (pe_fld (pv 0) rfl) pa_nil)) (nomark _)) (pss_one (ps_raise (by rfl) m_NoText x_NoText (pa_cons pe_str pa_nil))) pss_nil)), ?_⟩
  have hl := str_len T
  refine ⟨_, rfl, r, C, dx, _, .int (i : Int), rfl, hr0, T_Reader.cl, T_Reader.nA, rf_at T _, _, rfl, r, C, dx, _, .str T, rfl, hr0, T_Reader.cl, T_Reader.nT, rf_text T _, T, rfl, Nat.le_of_lt (small1000' (by omega)), _, _, rfl, rfl, _, rfl, ite2 (fun c => ?_) (fun c => ?_)⟩
  · refine ⟨(by show 1 ≤ sizeLine; decide), q1 fun z => ?_⟩
    have h1 := congrArg List.length z
    rw [List.length_drop, hl, List.length_nil] at h1
    have h2 : ((i : Int) < (T.length : Int)) := of_decide_eq_true c
    omega
  · refine q0 (List.drop_of_length_le ?_)
    have h2 : ¬ ((i : Int) < (T.length : Int)) := fun z => c (decide_eq_true z)
    rw [hl]
    omega
def sp_wordF (C cN : Addr) : Sp := fun vs H Q E => ∃ (r : Addr) (T : Str) (i : Nat), vs = [.ref r] ∧ RdAt C H r T i ∧ OutP C cN H r T (wordP (T.cps.toList.drop i)) RpS Q E
theorem abc_small : ∀ c ∈ abcS.cps.toList, c < 16 ^ 8 := by decide +kernel
theorem okF_word {k : Nat} {f C cN g1 lv : Addr} {fd gd1 : FuncData} {tk tk2 : Tok} (F : Fun K "word_from" "word_from" s_word_from f fd) (T_Reader : TxtR K mg C) (z_len : mg "len" = none) (m_LETTERS : mg "LETTERS" = some (.str abcS tk)) (m_MOST_LETTERS : mg "MOST_LETTERS" = some (.int 8 tk2)) (m_KEPT_WORDS : mg "KEPT_WORDS" = some (.ref lv)) (hK : KeptT K lv)
    (m_NoText : mg "NoText" = some (.ref cN)) (x_NoText : PySem.W.excIn K cN bmVE "ValueError.__new__" = true) (G_Reader_run_of : FnM P w K mg base k C "run_of" g1 gd1 ["self", "signs"] (sp_run C)) : FnOk P w K mg base (CXF P w) (k + 1) f fd ["reader"] (sp_wordF C cN) := by
  refine F.okF sc_word_from (fun vs H Q E h => ?_) (fun cdv A outer s H vs Q E hr h => ?_)
  · obtain ⟨r, T, i, rfl, _⟩ := h
    rfl
  obtain ⟨r, T, i, rfl, rd, q⟩ := h
  obtain ⟨⟨dx, hr0⟩, hi, hf⟩ := id rd
  refine ⟨_, (pss_cons (ps_set (i := 1) sc_word_from.nd rfl (Or.inl rfl) (pe_meth (pv 0) T_Reader.cl G_Reader_run_of.mt G_Reader_run_of.ok hr G_Reader_run_of.bd .nil pass0 (pa_cons (pe_glob (v := .str abcS) (by rfl) m_LETTERS ⟨_, rfl⟩) pa_nil)))
    (pss_cons (ps_if (pw_or (pt_not (pt_chain op_le op_le pe_int (pe_callB call_len_str (by rfl) z_len PySem.boot_len (pa_cons (pv 1) pa_nil)) (pe_glob (v := .int 8) (by rfl) m_MOST_LETTERS ⟨_, rfl⟩))) (pw_or1 (pt_cmpR (r := rIn K false) op_in_seq (pv 1) (pe_glob (v := .ref _) (by rfl) m_KEPT_WORDS (by rfl)) rfl))).pt (pss_one (ps_raise (by rfl) m_NoText x_NoText (pa_cons (pe_fRep (pv 1)) pa_nil))) pss_nil)
    (pss_one (ps_ret (pv 1))))), ?_⟩
  have hT := str_len T
  obtain ⟨x, hx⟩ : ∃ x, (T.cps.toList.drop i).takeWhile isAbc = x := ⟨_, rfl⟩
  have hd : T.cps.toList.drop i = x ++ (T.cps.toList.drop i).dropWhile isAbc := by rw [← hx]; exact List.takeWhile_append_dropWhile.symm
  have hab : ∀ c ∈ x, c ∈ abcS.cps.toList := fun c hc => of_decide_eq_true (tw_mem (p := isAbc) c (hx ▸ hc))
  have hlx : x.length ≤ 4000 := by
    have := congrArg List.length hd
    rw [List.length_drop, List.length_append] at this
    omega
  have lx : (sOf x).length = x.length := sOf_len x
  have rp := PySem.StrLaws.reprText_len (sOf x) (fun c hc => abc_small c (hab c (by rw [sOf_list] at hc; exact hc)))
  refine ⟨_, rfl, r, dx, _, rfl, hr0, rfl, r, T, abcS, i, x, _, rfl, rd, hd, hab, (fun c hc => of_decide_eq_false (dw_head (p := isAbc) c hc)), fun H1 g1 rd1 => ?_⟩
  have bad : ¬ (1 ≤ x.length ∧ x.length ≤ 8 ∧ sOf x ∉ kept11) → E (.ref cN) none H1 := fun z => q.bad (by unfold wordP; rw [hx]; exact if_neg z) H1 g1
  have rs : ∀ (Z : Prop), Z → (PySem.reprText (sOf x)).length + (Str.ofString " is no word").length ≤ sizeLine ∧ Z := fun Z z => ⟨line_of (by rw [show (Str.ofString " is no word").length = 11 by decide +kernel]; omega), z⟩
  have d1 : 1 ≤ sizeLine := by decide
  have raise_ : ¬ (1 ≤ x.length ∧ x.length ≤ 8 ∧ sOf x ∉ kept11) → _ := fun z => (⟨_, rfl, sOf x, rfl, (rs _ trivial).1, d1, bad z⟩ : ∃ v, [some (V.ref r), some (V.str (sOf x))][1]? = some (some v) ∧ ∃ y : Str, v = .str y ∧ (PySem.reprText y).length + (Str.ofString " is no word").length ≤ sizeLine ∧ 1 ≤ sizeLine ∧ E (.ref cN) none H1)
  refine ⟨_, rfl, sOf x, rfl, line_of (by omega), _, _, rfl, rfl, _, rfl, ?_⟩
  by_cases k1 : 1 ≤ x.length
  · rw [decide_eq_true (show (1 : Int) ≤ ((sOf x).length : Int) by omega)]
    refine iteT ⟨_, _, rfl, rfl, _, rfl, ?_⟩
    by_cases k2 : x.length ≤ 8
    · rw [decide_eq_true (show ((sOf x).length : Int) ≤ 8 by omega)]
      refine iteF ⟨_, rfl, lv, kept11.map V.str, rfl, .inr (.inr hK), rfl, rfl, _, rfl, ?_⟩
      show if inV (.str (sOf x)) (kept11.map V.str) = true then _ else _
      by_cases k3 : sOf x ∈ kept11
      · rw [show inV (.str (sOf x)) (kept11.map V.str) = true by unfold inV; exact List.any_eq_true.mpr ⟨.str (sOf x), List.mem_map_of_mem k3, by rw [eqV_str]⟩]
        exact iteT (raise_ fun z => z.2.2 k3)
      · rw [in_kept k3]
        refine iteF ⟨_, rfl, q.good (x := sOf x) (s := (T.cps.toList.drop i).dropWhile isAbc) (by unfold wordP; rw [hx]; exact if_pos ⟨k1, k2, k3⟩) _ H1 _ g1 rd1 (drop_more hd) rfl⟩
    · rw [decide_eq_false (show ¬ ((sOf x).length : Int) ≤ 8 by omega)]
      exact iteT (raise_ fun z => k2 z.2.1)
  · rw [decide_eq_false (show ¬ (1 : Int) ≤ ((sOf x).length : Int) by omega)]
    exact iteF ⟨_, rfl, iteT (raise_ fun z => k1 z.1)⟩
def sp_numberF (C cN : Addr) : Sp := fun vs H Q E => ∃ (r : Addr) (T : Str) (i : Nat), vs = [.ref r] ∧ RdAt C H r T i ∧ figB (T.cps.toList.drop i) = true ∧ OutP C cN H r T (numP (T.cps.toList.drop i)) RpI Q E
theorem okF_number {k : Nat} {f C cN g1 : Addr} {fd gd1 : FuncData} {tk tk2 : Tok} (F : Fun K "number_from" "number_from" s_number_from f fd) (T_Reader : TxtR K mg C) (z_len : mg "len" = none) (z_int : mg "int" = none) (m_FIGURES : mg "FIGURES" = some (.str figS tk)) (m_MOST_FIGURES : mg "MOST_FIGURES" = some (.int 30 tk2))
    (m_NoText : mg "NoText" = some (.ref cN)) (x_NoText : PySem.W.excIn K cN bmVE "ValueError.__new__" = true) (G_Reader_run_of : FnM P w K mg base k C "run_of" g1 gd1 ["self", "signs"] (sp_run C)) : FnOk P w K mg base (CXF P w) (k + 1) f fd ["reader"] (sp_numberF C cN) := by
  refine F.okF sc_number_from (fun vs H Q E h => ?_) (fun cdv A outer s H vs Q E hr h => ?_)
  · obtain ⟨r, T, i, rfl, _⟩ := h
    rfl
  obtain ⟨r, T, i, rfl, rd, hfig, q⟩ := h
  obtain ⟨⟨dx, hr0⟩, hi, hf⟩ := id rd
  refine ⟨_, (pss_cons (ps_set (i := 1) sc_number_from.nd rfl (Or.inl rfl) (pe_meth (pv 0) T_Reader.cl G_Reader_run_of.mt G_Reader_run_of.ok hr G_Reader_run_of.bd .nil pass0 (pa_cons (pe_glob (v := .str figS) (by rfl) m_FIGURES ⟨_, rfl⟩) pa_nil)))
    (pss_cons (ps_if (pt_cmpR op_gt (pe_callB call_len_str (by rfl) z_len PySem.boot_len (pa_cons (pv 1) pa_nil)) (pe_glob (v := .int 30) (by rfl) m_MOST_FIGURES ⟨_, rfl⟩) (nomark _)) (pss_one (ps_raise (by rfl) m_NoText x_NoText (pa_cons pe_str pa_nil))) pss_nil)
    (pss_cons (ps_if (pw_and (pt_cmpR op_gt (pe_callB call_len_str (by rfl) z_len PySem.boot_len (pa_cons (pv 1) pa_nil)) pe_int (nomark _)) (pw_and1 (pt_cmpR op_eq (pe_ix ix_str (pv 1) pe_int (fun _ _ => rfl)) pe_str (nomark _)))).pt (pss_one (ps_raise (by rfl) m_NoText x_NoText (pa_cons pe_str pa_nil))) pss_nil)
    (pss_one (ps_ret (pe_callTy call_intS (by rfl) z_int PyProof.Rows.boot_int (pa_cons (pv 1) pa_nil))))))), ?_⟩
  have hT := str_len T
  obtain ⟨x, hx⟩ : ∃ x, (T.cps.toList.drop i).takeWhile isFig = x := ⟨_, rfl⟩
  have hd : T.cps.toList.drop i = x ++ (T.cps.toList.drop i).dropWhile isFig := by rw [← hx]; exact List.takeWhile_append_dropWhile.symm
  have hab : ∀ c ∈ x, c ∈ figS.cps.toList := fun c hc => of_decide_eq_true (tw_mem (p := isFig) c (hx ▸ hc))
  have hlx : x.length ≤ 4000 := by
    have := congrArg List.length hd
    rw [List.length_drop, List.length_append] at this
    omega
  have lx : (sOf x).length = x.length := sOf_len x
  have hne : x ≠ [] := fun z => by
    unfold figB at hfig
    cases hs : T.cps.toList.drop i with
    | nil => rw [hs] at hfig; cases hfig
    | cons c l =>
      rw [hs] at hfig hx
      have hfig' : isFig c = true := hfig
      rw [List.takeWhile_cons, hfig', if_pos rfl, z] at hx
      cases hx
  obtain ⟨ch, xr, hxc⟩ : ∃ ch xr, x = ch :: xr := by
    cases x with
    | nil => exact absurd rfl hne
    | cons c l => exact ⟨c, l, rfl⟩
  have d1 : 1 ≤ sizeLine := by decide
  refine ⟨_, rfl, r, dx, _, rfl, hr0, rfl, r, T, figS, i, x, _, rfl, rd, hd, hab, (fun c hc => of_decide_eq_false (dw_head (p := isFig) c hc)), fun H1 g1 rd1 => ?_⟩
  refine ⟨_, rfl, sOf x, rfl, line_of (by omega), _, _, rfl, rfl, _, rfl, ite2 (fun c1 => ?_) (fun c1 => ?_)⟩
  · have c1' : (30 : Int) < ((sOf x).length : Int) := of_decide_eq_true c1
    exact ⟨d1, q.bad (by unfold numP; rw [hx]; exact if_pos (by omega)) H1 g1⟩
  have c1' : ¬ (30 < x.length) := fun z => c1 (decide_eq_true (by show (30 : Int) < ((sOf x).length : Int); omega))
  have hdg : AllDigits (sOf x).cps.toList := fun c hc => by
    rw [sOf_list] at hc
    have k : ∀ c ∈ figS.cps.toList, 48 ≤ c ∧ c ≤ 57 := by decide +kernel
    exact k c (hab c hc)
  have hv := intText_digits hdg (by rw [sOf_list]; exact hne) (by omega)
  rw [sOf_list] at hv
  have good : ¬ (1 < x.length ∧ x.head? = some 48) → _ := fun z => (⟨_, rfl, sOf x, _, rfl, by omega, hv, q.good (x := ((digitsVal x : Nat) : Int)) (s := (T.cps.toList.drop i).dropWhile isFig) (by unfold numP; rw [hx, if_neg c1', if_neg z]) _ H1 _ g1 rd1 (drop_more hd) rfl⟩ : ∃ v, [some (V.ref r), some (V.str (sOf x))][1]? = some (some v) ∧ ∃ (y : Str) (n : Int), [v] = [.str y] ∧ y.length ≤ 640 ∧ PySem.intText? y = some n ∧ Q (.int n) H1)
  refine ⟨_, rfl, sOf x, rfl, line_of (by omega), _, _, rfl, rfl, _, rfl, ite2 (fun c2 => ?_) (fun c2 => ?_)⟩
  · have c2' : (1 : Int) < ((sOf x).length : Int) := of_decide_eq_true c2
    have hch : (sOf x).cps.toList[0]? = some ch := by rw [sOf_list, hxc]; rfl
    refine ⟨_, rfl, sOf x, 0, ch, rfl, rfl, line_of (by omega), atI_nat (j := 0) hch, rfl, _, rfl, ite2 (fun c3 => ?_) (fun c3 => ?_)⟩
    · have e : V.str ⟨#[ch]⟩ = V.str "0" := of_decide_eq_true c3
      injection e with e
      have e3 : ch = 48 := by
        have := congrArg (fun z : Str => z.cps.toList) e
        have z0 : (Str.ofString "0").cps.toList = [48] := by decide +kernel
        rw [z0] at this
        simpa using this
      exact ⟨d1, q.bad (by unfold numP; rw [hx, if_neg c1', if_pos ⟨by omega, by rw [hxc, e3]; rfl⟩]) H1 g1⟩
    · refine good fun z => c3 (decide_eq_true ?_)
      have : ch = 48 := by have := z.2; rw [hxc] at this; simpa using this
      rw [this]
      exact congrArg V.str (by decide +kernel)
  · exact iteF (good fun z => c2 (decide_eq_true (by show (1 : Int) < ((sOf x).length : Int); omega)))
end
end K07
set_option Elab.async false
set_option linter.all false
set_option maxRecDepth 100000
set_option maxHeartbeats 4000000
namespace L2
open PySem
theorem any_fig (s : Sg) : (figS.cps.toList.any (id ∘ fun c => [c].isPrefixOf s)) = figB s := by
  rw [Bool.eq_iff_iff, List.any_eq_true]
  unfold figB
  cases h : s.head? with
  | none =>
    constructor
    · rintro ⟨c, hc, e⟩
      have e' : [c].isPrefixOf s = true := e
      rw [one_pre, h] at e'
      exact absurd (of_decide_eq_true e') (by simp)
    · intro z; cases z
  | some d =>
    constructor
    · rintro ⟨c, hc, e⟩
      have e' : [c].isPrefixOf s = true := e
      rw [one_pre, h] at e'
      have := Option.some.inj (of_decide_eq_true e')
      subst this
      exact decide_eq_true hc
    · intro z
      refine ⟨d, of_decide_eq_true z, ?_⟩
      show [d].isPrefixOf s = true
      rw [one_pre, h]
      exact decide_eq_true rfl
theorem But.upd_new {C : Addr} {r : Addr} {H H' : Hp} {p : Addr} {o : HO} (b : But r H H') (h : H' p = none) : But r H (upd H' p o) := b.trans fun x u _ e => same_upd h _ _ e
theorem RdAt.new {C : Addr} {H : Hp} {r : Addr} {T : Str} {i : Nat} {p : Addr} {o : HO} (rd : RdAt C H r T i) (h : H p = none) : RdAt C (upd H p o) r T i := by
  obtain ⟨⟨dx, hr⟩, h1, h2⟩ := rd
  exact ⟨⟨dx, same_upd h _ _ hr⟩, h1, h2⟩
end L2
namespace K07
open PySem PySem.Spec L2 PyProof.Rows
abbrev s_plain_leaf_from : Stmt := top 19
theorem sc_plain_leaf_from : FnScope ["reader"] ["reader"] (defScope s_plain_leaf_from) := ⟨rfl, rfl, rfl, by decide +kernel, rfl, by decide +kernel, by decide +kernel⟩
abbrev s_atom_from : Stmt := top 20
theorem sc_atom_from : FnScope ["reader"] ["reader"] (defScope s_atom_from) := ⟨rfl, rfl, rfl, by decide +kernel, rfl, by decide +kernel, by decide +kernel⟩
abbrev s_atoms_from : Stmt := top 21
theorem sc_atoms_from : FnScope ["reader", "atoms"] ["reader"] (defScope s_atoms_from) := ⟨rfl, rfl, rfl, by decide +kernel, rfl, by decide +kernel, by decide +kernel⟩
section
variable {P : Program} {w : World} {K : PySem.W.Frag} {mg : Str → Option Value} {base : Heap}
def sp_pleafF (C cN : Addr) : Sp := fun vs H Q E => ∃ (r : Addr) (T : Str) (i : Nat), vs = [.ref r] ∧ RdAt C H r T i ∧ OutP C cN H r T (pleafP (T.cps.toList.drop i)) AtRep Q E
theorem okF_pleaf {k : Nat} {f C cN g1 g2 g3 : Addr} {fd gd1 gd2 gd3 : FuncData} {tk : Tok} (F : Fun K "plain_leaf_from" "plain_leaf_from" s_plain_leaf_from f fd) (T_Reader : TxtR K mg C) (z_any : mg "any" = none) (m_FIGURES : mg "FIGURES" = some (.str figS tk))
    (G_Reader_stands : FnM P w K mg base k C "stands" g1 gd1 ["self", "piece"] (sp_stands C)) (G_number_from : FnF P w K mg base k "number_from" g2 gd2 ["reader"] (sp_numberF C cN)) (G_word_from : FnF P w K mg base k "word_from" g3 gd3 ["reader"] (sp_wordF C cN)) :
    FnOk P w K mg base (CXF P w) (k + 1) f fd ["reader"] (sp_pleafF C cN) := by
  refine F.okF sc_plain_leaf_from (fun vs H Q E h => ?_) (fun cdv A outer s H vs Q E hr h => ?_)
  · obtain ⟨r, T, i, rfl, _⟩ := h
    rfl
  obtain ⟨r, T, i, rfl, rd, q⟩ := h
  obtain ⟨⟨dx, hr0⟩, hi, hf⟩ := id rd
  refine ⟨_, (pss_cons (ps_if (pt_val (pe_callB (call_anyL rfl) (by rfl) z_any PyProof.Rows.boot_any (pa_cons (pe_compB ["figure", "reader"] [none, some 0] rfl (pi_str (pe_glob (v := .str figS) (by rfl) m_FIGURES ⟨_, rfl⟩)) (fun _ _ _ _ _ => (pg_name (i := 0) (show List.Nodup (["figure", "reader"] : List Str) by decide +kernel) rfl (Or.inl rfl))) (fun _ _ _ _ _ => pts_nil) (fun _ _ _ _ _ => (pe_meth (pv 1) T_Reader.cl G_Reader_stands.mt G_Reader_stands.ok hr G_Reader_stands.bd .nil pass0 (pa_cons (pv 0) pa_nil))) rfl) pa_nil))) (pss_one (ps_ret (pe_tup (pa_cons pe_str (pa_cons (pe_call G_number_from.ok hr (by rfl) G_number_from.gl G_number_from.kp G_number_from.bd .nil cxf_pass (pa_cons (pv 0) pa_nil)) pa_nil)) : PE _ _ _))) pss_nil)
    (pss_one (ps_ret (pe_tup (pa_cons pe_str (pa_cons (pe_call G_word_from.ok hr (by rfl) G_word_from.gl G_word_from.kp G_word_from.bd .nil cxf_pass (pa_cons (pv 0) pa_nil)) pa_nil)) : PE _ _ _)))), ?_⟩
  refine ⟨figS, rfl, fun acc hacc => ?_⟩
  have d2 : 2 ≤ sizeLine := by decide
  refine comp_strR (x := figS) (fun j H' => Same H H' ∧ H' acc = some (.lst (((figS.cps.toList.take j).map fun c => [c].isPrefixOf (T.cps.toList.drop i)).map V.bl))) ⟨same_upd hacc, upd_same⟩ ?_ ?_
  · rintro j c H1 hj ⟨g1, ea⟩
    have hr1 := g1 _ _ hr0
    have hc : figS.cps.toList[j]? = some c := by rw [Array.getElem?_toList]; exact hj
    have hj10 : j < 10 := by
      have h1 := (List.getElem?_eq_some_iff.mp hc).1
      have h2 : figS.cps.toList.length = 10 := by decide +kernel
      omega
    refine ⟨.skip (.keep .nil), ?_⟩
    refine ⟨_, rfl, r, dx, _, rfl, hr1, rfl, _, rfl, r, T, ⟨#[c]⟩, i, rfl, ⟨⟨dx, hr1⟩, hi, hf⟩, ?_⟩
    refine ⟨_, ea, small1000 (by rw [List.length_map, List.length_map, List.length_take]; omega), same_set g1 hacc, ?_⟩
    rw [upd_same, take_next hc, List.map_append, List.map_append]
    rfl
  · rintro H1 ⟨g1, ea⟩
    have e10 : figS.cps.toList.take figS.cps.size = figS.cps.toList := List.take_of_length_le (by rw [Array.length_toList]; exact Nat.le_refl _)
    rw [e10] at ea
    have b1 : But r H H1 := fun b o _ e => g1 _ _ e
    have rd1 : RdAt C H1 r T i := ⟨⟨dx, g1 _ _ hr0⟩, hi, hf⟩
    refine ⟨acc, _, rfl, ea, _, rfl, ?_⟩
    rw [List.any_map, any_fig]
    cases hfb : figB (T.cps.toList.drop i) with
    | true =>
      refine iteT ⟨_, rfl, r, T, i, rfl, rd1, hfb, OutP.mk (fun e H' b => ?_) fun n s e v H' j b rd' hs hv => ?_⟩
      · exact q.bad (by unfold pleafP; rw [hfb, if_pos rfl, e]) H' (b1.trans b)
      · have hv' : v = .int n := hv
        subst hv'
        refine ⟨d2, fun p hp => ?_⟩
        exact q.good (x := .num n) (s := s) (by unfold pleafP; rw [hfb, if_pos rfl, e]) _ _ j ((b1.trans b).upd_new (C := C) hp) (rd'.new hp) hs ⟨p, rfl, upd_same⟩
    | false =>
      refine iteF ⟨_, rfl, r, T, i, rfl, rd1, OutP.mk (fun e H' b => ?_) fun n s e v H' j b rd' hs hv => ?_⟩
      · exact q.bad (by unfold pleafP; rw [hfb, e]; rfl) H' (b1.trans b)
      · have hv' : v = .str n := hv
        subst hv'
        refine ⟨d2, fun p hp => ?_⟩
        exact q.good (x := .name n) (s := s) (by unfold pleafP; rw [hfb, e]; rfl) _ _ j ((b1.trans b).upd_new (C := C) hp) (rd'.new hp) hs ⟨p, rfl, upd_same⟩
def sp_atomF (C cN : Addr) : Sp := fun vs H Q E => ∃ (r : Addr) (T : Str) (i : Nat), vs = [.ref r] ∧ RdAt C H r T i ∧ OutP C cN H r T (atomP (T.cps.toList.drop i)) AtRep Q E
theorem okF_atom {k : Nat} {f C cN g1 g2 g3 : Addr} {fd gd1 gd2 gd3 : FuncData} (F : Fun K "atom_from" "atom_from" s_atom_from f fd) (T_Reader : TxtR K mg C)
    (G_Reader_skipped : FnM P w K mg base k C "skipped" g1 gd1 ["self", "piece"] (sp_skipped C)) (G_plain_leaf_from : FnF P w K mg base k "plain_leaf_from" g2 gd2 ["reader"] (sp_pleafF C cN)) (G_word_from : FnF P w K mg base k "word_from" g3 gd3 ["reader"] (sp_wordF C cN)) :
    FnOk P w K mg base (CXF P w) (k + 1) f fd ["reader"] (sp_atomF C cN) := by
  refine F.okF sc_atom_from (fun vs H Q E h => ?_) (fun cdv A outer s H vs Q E hr h => ?_)
  · obtain ⟨r, T, i, rfl, _⟩ := h
    rfl
  obtain ⟨r, T, i, rfl, rd, q⟩ := h
  obtain ⟨⟨dx, hr0⟩, hi, hf⟩ := id rd
  refine ⟨_, (pss_cons (ps_if (pt_val (pe_meth (pv 0) T_Reader.cl G_Reader_skipped.mt G_Reader_skipped.ok hr G_Reader_skipped.bd .nil pass0 (pa_cons pe_str pa_nil))) (pss_one (ps_ret (pe_tup (pa_cons pe_str (pa_cons (pe_call G_word_from.ok hr (by rfl) G_word_from.gl G_word_from.kp G_word_from.bd .nil cxf_pass (pa_cons (pv 0) pa_nil)) (pa_cons (pe_tup pa_nil : PE _ _ _) pa_nil))) : PE _ _ _))) pss_nil)
    (pss_one (ps_ret (pe_call G_plain_leaf_from.ok hr (by rfl) G_plain_leaf_from.gl G_plain_leaf_from.kp G_plain_leaf_from.bd .nil cxf_pass (pa_cons (pv 0) pa_nil))))), ?_⟩
  have d0 : 0 ≤ sizeLine := by decide
  have d3 : 3 ≤ sizeLine := by decide
  refine ⟨_, rfl, r, dx, _, rfl, hr0, rfl, r, T, "?", i, rfl, rd, fun hq => ?_, fun hq H1 b1 rd1 => ?_⟩
  · rw [q_list] at hq
    refine ⟨_, rfl, iteF ⟨_, rfl, r, T, i, rfl, rd, OutP.mk (fun e H' b => ?_) fun a s e v H' j b rd' hs hv => ?_⟩⟩
    · exact q.bad (by unfold atomP; rw [skP_no hq]; exact e) H' b
    · exact q.good (x := a) (s := s) (by unfold atomP; rw [skP_no hq]; exact e) v H' j b rd' hs hv
  · rw [q_list] at hq
    have es : skP [63] (T.cps.toList.drop i) = some (T.cps.toList.drop (i + 1)) := by unfold skP; rw [if_pos hq, List.drop_drop]; rfl
    rw [q_len] at rd1
    refine ⟨_, rfl, iteT ⟨_, rfl, r, T, i + 1, rfl, rd1, OutP.mk (fun e H' b => ?_) fun x s e v H' j b rd' hs hv => ?_⟩⟩
    · exact q.bad (by unfold atomP; rw [es]; dsimp only; rw [e]) H' (b1.trans b)
    · have hv' : v = .str x := hv
      subst hv'
      refine ⟨d0, fun p0 hp0 => ⟨d3, fun p hp => ?_⟩⟩
      exact q.good (x := .gap x) (s := s) (by unfold atomP; rw [es]; dsimp only; rw [e]) _ _ j (((b1.trans b).upd_new (C := C) hp0).upd_new (C := C) hp) ((rd'.new hp0).new hp) hs ⟨p, p0, rfl, upd_same, same_upd hp _ _ upd_same⟩
def RpAs (H : Hp) (as : List Atom) (v : V) : Prop := ∃ p us, v = .ref p ∧ H p = some (.tup us) ∧ Paired (AtRep H) as us ∧ us.length ≤ 1000
def sp_atomsF (C cN : Addr) : Sp := fun vs H Q E => ∃ (r : Addr) (T : Str) (i : Nat), vs = [.ref r] ∧ RdAt C H r T i ∧ OutP C cN H r T (atomsP (T.cps.toList.drop i)) RpAs Q E
theorem okF_atoms {k : Nat} {f C cN g1 g2 g3 : Addr} {fd gd1 gd2 gd3 : FuncData} (F : Fun K "atoms_from" "atoms_from" s_atoms_from f fd) (T_Reader : TxtR K mg C) (z_tuple : mg "tuple" = none)
    (G_Reader_skipped : FnM P w K mg base k C "skipped" g1 gd1 ["self", "piece"] (sp_skipped C)) (G_Reader_skip : FnMF P w K mg base k C "skip" g2 gd2 ["self", "piece"] (sp_skipF C cN)) (G_atom_from : FnF P w K mg base k "atom_from" g3 gd3 ["reader"] (sp_atomF C cN)) :
    FnOk P w K mg base (CXF P w) (k + 1) f fd ["reader"] (sp_atomsF C cN) := by
  refine F.okF sc_atoms_from (fun vs H Q E h => ?_) (fun cdv A outer s H vs Q E hr h => ?_)
  · obtain ⟨r, T, i, rfl, _⟩ := h
    rfl
  obtain ⟨r, T, i, rfl, rd, q⟩ := h
  obtain ⟨⟨dx, hr0⟩, hi, hf⟩ := id rd
  refine ⟨_, (pss_cons (ps_if (pt_not (pt_val (pe_meth (pv 0) T_Reader.cl G_Reader_skipped.mt G_Reader_skipped.ok hr G_Reader_skipped.bd .nil pass0 (pa_cons pe_str pa_nil)))) (pss_one (ps_ret (pe_tup pa_nil : PE _ _ _))) pss_nil)
    (pss_cons (ps_set (i := 1) sc_atoms_from.nd rfl (Or.inl rfl) (pe_lst (pa_cons (pe_call G_atom_from.ok hr (by rfl) G_atom_from.gl G_atom_from.kp G_atom_from.bd .nil cxf_pass (pa_cons (pv 0) pa_nil)) pa_nil) : PE _ _ _))
    (pss_cons (ps_while own_cx (pt_val (pe_meth (pv 0) T_Reader.cl G_Reader_skipped.mt G_Reader_skipped.ok hr G_Reader_skipped.bd .nil pass0 (pa_cons pe_str pa_nil))) (pss_one (ps_expr (pe_bm PySem.F.plainAttrs_list PySem.F.slot_list_append PySem.F.type_list_append mt_append (pv 1) (pa_cons (pe_call G_atom_from.ok hr (by rfl) G_atom_from.gl G_atom_from.kp G_atom_from.bd .nil cxf_pass (pa_cons (pv 0) pa_nil)) pa_nil)))))
    (pss_cons (ps_expr (pe_meth (pv 0) T_Reader.cl G_Reader_skip.mt G_Reader_skip.ok hr G_Reader_skip.bd .nil cxf_pass (pa_cons pe_str pa_nil)))
    (pss_one (ps_ret (pe_callTy call_tuple_of (by rfl) z_tuple PyProof.Rows.boot_tuple (pa_cons (pv 1) pa_nil)))))))), ?_⟩
  have d0 : 0 ≤ sizeLine := by decide
  have d1 : 1 ≤ sizeLine := by decide
  refine ⟨_, rfl, r, dx, _, rfl, hr0, rfl, r, T, "[", i, rfl, rd, fun hq => ?_, fun hq H1 b1 rd1 => ?_⟩
  · rw [br_list.1] at hq
    refine ⟨_, rfl, iteT ⟨d0, fun p hp => ?_⟩⟩
    exact q.good (x := []) (s := T.cps.toList.drop i) (by unfold atomsP; rw [skP_no hq]) _ _ i ((But.refl r H).upd_new (C := C) hp) (rd.new hp) rfl ⟨p, [], rfl, upd_same, .nil, Nat.zero_le _⟩
  · rw [br_list.1] at hq
    have es : skP [91] (T.cps.toList.drop i) = some (T.cps.toList.drop (i + 1)) := by unfold skP; rw [if_pos hq, List.drop_drop]; rfl
    rw [br_len.1] at rd1
    refine ⟨_, rfl, iteF ?_⟩
    refine ⟨_, rfl, r, T, i + 1, rfl, rd1, OutP.mk (fun e H' b => ?_) fun a s2 e v H2 j b2 rd2 hs2 hv => ⟨d1, fun la hla => ?_⟩⟩
    · exact q.bad (by unfold atomsP; rw [es]; dsimp only; rw [e]) H' (b1.trans b)
    have hlaH : H la = none := by
      cases z : H la with
      | none => rfl
      | some o =>
        have nla : la ≠ r := fun y => by obtain ⟨⟨dx2, h2⟩, _, _⟩ := rd2; rw [y, h2] at hla; cases hla
        have := (b1.trans b2) la o nla z
        rw [hla] at this
        cases this
    have hT := str_len T
    have hat : ∀ as r', moreP (s2.length + 1) s2 = some (as, r') → (skP [93] r' = none → atomsP (T.cps.toList.drop i) = none) ∧ ∀ z, skP [93] r' = some z → atomsP (T.cps.toList.drop i) = some (a :: as, z) := fun as r' hm =>
      ⟨fun h => by unfold atomsP; rw [es]; dsimp only; rw [e]; dsimp only; rw [hm]; dsimp only; rw [h], fun z h => by unfold atomsP; rw [es]; dsimp only; rw [e]; dsimp only; rw [hm]; dsimp only; rw [h]⟩
    have hno : moreP (s2.length + 1) s2 = none → atomsP (T.cps.toList.drop i) = none := fun hm => by unfold atomsP; rw [es]; dsimp only; rw [e]; dsimp only; rw [hm]
    refine ⟨fun m σ' H' => ∃ (as : List Atom) (us : List V) (j : Nat) (n : Nat), σ' = [some (.ref r), some (.ref la)] ∧ But r H H' ∧ RdAt C H' r T j ∧ H' la = some (.lst us) ∧ Paired (AtRep H') (a :: as) us ∧ m = (T.cps.toList.drop j).length ∧ 2 * us.length + (T.cps.toList.drop j).length ≤ 2000 ∧ (T.cps.toList.drop j).length < n ∧
        (∀ bs z, moreP n (T.cps.toList.drop j) = some (bs, z) → moreP (s2.length + 1) s2 = some (as ++ bs, z)) ∧ (moreP n (T.cps.toList.drop j) = none → moreP (s2.length + 1) s2 = none), ?_, ?_⟩
    · refine ⟨_, [], [v], j, s2.length + 1, rfl, (b1.trans b2).upd_new (C := C) hla, rd2.new hla, upd_same, .cons (hv.mono (same_upd hla).tk) .nil, rfl, ?_, by rw [hs2]; omega, ?_, ?_⟩
      · have h1 := congrArg List.length (skP_some es).1
        have h2 := atom_len e
        rw [hs2]
        rw [List.length_append] at h1
        rw [List.length_drop] at h1
        simp only [List.length_singleton] at h1 ⊢
        omega
      · intro bs z h
        rw [hs2] at h
        exact h
      · intro h
        rw [hs2] at h
        exact h
    rintro m σ' H3 ⟨as, us, j3, n, rfl, b3, rd3, e3, p3, rfl, l3, hn, hg, hb⟩
    obtain ⟨⟨dx3, hr3⟩, hi3, _⟩ := id rd3
    have nra : la ≠ r := fun y => by rw [y, hr3] at e3; cases e3
    obtain ⟨n', rfl⟩ : ∃ n', n = n' + 1 := ⟨n - 1, by omega⟩
    refine ⟨_, rfl, r, dx3, _, rfl, hr3, rfl, r, T, " ", j3, rfl, rd3, fun hq3 => ?_, fun hq3 H4 b4 rd4 => ?_⟩
    · rw [br_list.2.1] at hq3
      refine ⟨_, rfl, iteF ?_⟩
      have hm := hg [] (T.cps.toList.drop j3) (by rw [moreP, skP_no hq3])
      rw [List.append_nil] at hm
      obtain ⟨h93n, h93s⟩ := hat as _ hm
      refine ⟨_, rfl, r, dx3, _, rfl, hr3, rfl, r, T, "]", j3, rfl, rd3, Nat.le_trans (show (PySem.reprText (Str.ofString "]")).length ≤ 3 by decide +kernel) (by decide), fun h => ?_, fun z h H5 j5 b5 rd5 hs5 => ?_⟩
      · rw [br_list.2.2] at h
        exact q.bad (h93n h) H3 b3
      · rw [br_list.2.2] at h
        have e5 := b5 _ _ nra e3
        refine ⟨_, rfl, la, _, rfl, .inl ⟨SqL.of e5, fun p hp => ?_⟩⟩
        have s6 := same_upd (o := .tup us) hp
        exact q.good (x := a :: as) (s := z) (h93s z h) _ _ j5 ((b3.trans b5).upd_new (C := C) hp) (rd5.new hp) hs5 ⟨p, us, rfl, upd_same, Paired.mapP p3 fun _ _ y => y.mono ((But.tk hr3 b5).trans s6.tk), by omega⟩
    · rw [br_list.2.1] at hq3
      rw [br_len.2.1] at rd4
      have es3 : skP [32] (T.cps.toList.drop j3) = some (T.cps.toList.drop (j3 + 1)) := by unfold skP; rw [if_pos hq3, List.drop_drop]; rfl
      have hm1 : ∀ o, atomP (T.cps.toList.drop (j3 + 1)) = o → moreP (n' + 1) (T.cps.toList.drop j3) = (match o with | none => none | some (x, s3) => match moreP n' s3 with | none => none | some (bs, z) => some (x :: bs, z)) := fun o ho => by
        rw [moreP, es3]
        dsimp only
        rw [ho]
        all_goals (cases o <;> rfl)
      have e4 := b4 _ _ nra e3
      have l4 : (T.cps.toList.drop j3).length = (T.cps.toList.drop (j3 + 1)).length + 1 := by
        have := congrArg List.length (skP_some es3).1
        simpa [Nat.add_comm] using this
      refine ⟨_, rfl, iteT ⟨_, fun _ _ h => h, ?_⟩⟩
      refine ⟨_, rfl, .inl ⟨rfl, _, SqL.of e4⟩, _, rfl, r, T, j3 + 1, rfl, rd4, OutP.mk (fun e9 H' b => ?_) fun x s3 e9 v9 H5 j5 b5 rd5 hs5 hv9 => ?_⟩
      · exact q.bad (hno (hb (hm1 none e9))) H' ((b3.trans b4).trans b)
      · have e5 := b5 _ _ nra e4
        obtain ⟨⟨dx4, hr4⟩, _, _⟩ := id rd4
        refine ⟨la, us, _, rfl, rfl, e5, line_lt (by omega), ?_⟩
        have l5 := atom_len e9
        have k6 : Tk H5 (upd H5 la (.lst (us ++ [v9]))) := Tk.lst e5
        refine ⟨(T.cps.toList.drop j5).length, by rw [hs5]; omega, as ++ [x], us ++ [v9], j5, n', rfl, ?_, ?_, upd_same, ?_, rfl, ?_, by rw [hs5]; omega, ?_, ?_⟩
        · exact ((b3.trans b4).trans b5).put hlaH
        · obtain ⟨⟨dx5, hr5⟩, h5, h5'⟩ := rd5
          exact ⟨⟨dx5, by rw [upd_ne (Ne.symm nra)]; exact hr5⟩, h5, h5'⟩
        · exact paired_append (as := a :: as) (Paired.mapP p3 fun _ _ y => y.mono (((But.tk hr3 b4).trans (But.tk hr4 b5)).trans k6)) (.cons (hv9.mono k6) .nil)
        · rw [hs5, List.length_append, List.length_singleton]
          omega
        · intro bs z h
          rw [hs5] at h
          have := hg (x :: bs) z (by rw [hm1 _ e9]; dsimp only; rw [h])
          rw [this, List.append_assoc]
          rfl
        · intro h
          rw [hs5] at h
          exact hb (by rw [hm1 _ e9]; dsimp only; rw [h])
end
end K07
set_option Elab.async false
set_option linter.all false
set_option maxRecDepth 100000
set_option maxHeartbeats 4000000
namespace L2
open PySem
theorem opn_sk {p s r : Sg} (hp : ∀ c ∈ p, c ≠ 40 ∧ c ≠ 41) (h : skP p s = some r) : opn s = opn r := by rw [(skP_some h).1, opn_plain hp]
theorem opn_net {s r : Sg} (h : ∃ c, s = c ++ r ∧ NetZ c) : opn r ≤ opn s := by
  obtain ⟨c, rfl, n⟩ := h
  exact n r
theorem RdAt.tk {C : Addr} {H H' : Hp} {r : Addr} {T : Str} {i : Nat} (rd : RdAt C H r T i) (b : But r H H') : Tk H H' := by
  obtain ⟨⟨dx, hr⟩, _, _⟩ := rd
  exact But.tk hr b
theorem rep_piece : ∀ s ∈ [" then ", " else ", " = ", " in ", ")", "]", " -> ", " "], (PySem.reprText (Str.ofString s)).length ≤ 1000 := by decide +kernel
end L2
namespace K07
open PySem PySem.Spec L2 PyProof.Rows
abbrev s_if_from : Stmt := top 24
theorem sc_if_from : FnScope ["reader", "asked", "first"] ["reader"] (defScope s_if_from) := ⟨rfl, rfl, rfl, by decide +kernel, rfl, by decide +kernel, by decide +kernel⟩
abbrev s_let_from : Stmt := top 25
theorem sc_let_from : FnScope ["reader", "name", "first"] ["reader"] (defScope s_let_from) := ⟨rfl, rfl, rfl, by decide +kernel, rfl, by decide +kernel, by decide +kernel⟩
abbrev s_two_from : Stmt := top 26
theorem sc_two_from : FnScope ["reader", "first", "sign"] ["reader"] (defScope s_two_from) := ⟨rfl, rfl, rfl, by decide +kernel, rfl, by decide +kernel, by decide +kernel⟩
section
variable {P : Program} {w : World} {K : PySem.W.Frag} {mg : Str → Option Value} {base : Heap}
def sp_shapeF (C cN : Addr) (n : Nat) : Sp := fun vs H Q E => ∃ (r : Addr) (T : Str) (i : Nat), vs = [.ref r] ∧ RdAt C H r T i ∧ opn (T.cps.toList.drop i) < n ∧ OutP C cN H r T (shapeP n (T.cps.toList.drop i)) Rep Q E
def sp_ifF (C cN : Addr) (n : Nat) : Sp := fun vs H Q E => ∃ (r : Addr) (T : Str) (i : Nat), vs = [.ref r] ∧ RdAt C H r T i ∧ opn (T.cps.toList.drop i) < n ∧ OutP C cN H r T (ifP (shapeP n) (T.cps.toList.drop i)) Rep Q E
def sp_letF (C cN : Addr) (n : Nat) : Sp := fun vs H Q E => ∃ (r : Addr) (T : Str) (i : Nat), vs = [.ref r] ∧ RdAt C H r T i ∧ opn (T.cps.toList.drop i) < n ∧ OutP C cN H r T (letP (shapeP n) (T.cps.toList.drop i)) Rep Q E
def sp_twoF (C cN : Addr) (n : Nat) : Sp := fun vs H Q E => ∃ (r : Addr) (T : Str) (i : Nat), vs = [.ref r] ∧ RdAt C H r T i ∧ opn (T.cps.toList.drop i) < n ∧ OutP C cN H r T (twoP (shapeP n) (T.cps.toList.drop i)) Rep Q E
theorem okF_if {k n : Nat} {f C cN g1 g2 : Addr} {fd gd1 gd2 : FuncData} (F : Fun K "if_from" "if_from" s_if_from f fd) (T_Reader : TxtR K mg C) (G_Reader_skip : FnMF P w K mg base k C "skip" g1 gd1 ["self", "piece"] (sp_skipF C cN)) (G_shape_from : FnF P w K mg base k "shape_from" g2 gd2 ["reader"] (sp_shapeF C cN n)) :
    FnOk P w K mg base (CXF P w) (k + 1) f fd ["reader"] (sp_ifF C cN n) := by
  refine F.okF sc_if_from (fun vs H Q E h => ?_) (fun cdv A outer s H vs Q E hr h => ?_)
  · obtain ⟨r, T, i, rfl, _⟩ := h
    rfl
  obtain ⟨r, T, i, rfl, rd, ho, q⟩ := h
  refine ⟨_, (pss_cons (ps_set (i := 1) sc_if_from.nd rfl (Or.inl rfl) (pe_call G_shape_from.ok hr (by rfl) G_shape_from.gl G_shape_from.kp G_shape_from.bd .nil cxf_pass (pa_cons (pv 0) pa_nil)))
    (pss_cons (ps_expr (pe_meth (pv 0) T_Reader.cl G_Reader_skip.mt G_Reader_skip.ok hr G_Reader_skip.bd .nil cxf_pass (pa_cons pe_str pa_nil)))
    (pss_cons (ps_set (i := 2) sc_if_from.nd rfl (Or.inl rfl) (pe_call G_shape_from.ok hr (by rfl) G_shape_from.gl G_shape_from.kp G_shape_from.bd .nil cxf_pass (pa_cons (pv 0) pa_nil)))
    (pss_cons (ps_expr (pe_meth (pv 0) T_Reader.cl G_Reader_skip.mt G_Reader_skip.ok hr G_Reader_skip.bd .nil cxf_pass (pa_cons pe_str pa_nil)))
    (pss_one (ps_ret (pe_tup (pa_cons pe_str (pa_cons (pv 1) (pa_cons (pv 2) (pa_cons (pe_call G_shape_from.ok hr (by rfl) G_shape_from.gl G_shape_from.kp G_shape_from.bd .nil cxf_pass (pa_cons (pv 0) pa_nil)) pa_nil)))) : PE _ _ _))))))), ?_⟩
  have hN : Nets (shapeP n) := @shape_net n
  refine ⟨_, rfl, r, T, i, rfl, rd, ho, OutP.mk (fun e H' b => ?_) fun a s1 e va H1 j1 b1 rd1 hs1 ra => ?_⟩
  · exact q.bad (by unfold ifP; rw [e]) H' b
  obtain ⟨⟨dx1, hr1⟩, _, _⟩ := id rd1
  have o1 := opn_net (hN e)
  refine ⟨_, rfl, r, dx1, _, rfl, hr1, rfl, r, T, " then ", j1, rfl, rd1, rep_piece " then " (by decide), fun h => ?_, fun s2 h H2 j2 b2 rd2 hs2 => ?_⟩
  · rw [hs1] at h
    exact q.bad (by unfold ifP; rw [e]; dsimp only; rw [show skP (tx " then ") s1 = none from h]) H1 b1
  rw [hs1] at h
  have o2 := opn_sk (tx_bal " then " (by decide)) h
  refine ⟨_, rfl, r, T, j2, rfl, rd2, by rw [hs2]; omega, OutP.mk (fun e2 H' b => ?_) fun c s3 e2 vb H3 j3 b3 rd3 hs3 rb => ?_⟩
  · rw [hs2] at e2
    exact q.bad (by unfold ifP; rw [e]; dsimp only; rw [show skP (tx " then ") s1 = some s2 from h]; dsimp only; rw [e2]) H' ((b1.trans b2).trans b)
  rw [hs2] at e2
  obtain ⟨⟨dx3, hr3⟩, _, _⟩ := id rd3
  have o3 := opn_net (hN e2)
  refine ⟨_, rfl, r, dx3, _, rfl, hr3, rfl, r, T, " else ", j3, rfl, rd3, rep_piece " else " (by decide), fun h4 => ?_, fun s4 h4 H4 j4 b4 rd4 hs4 => ?_⟩
  · rw [hs3] at h4
    exact q.bad (by unfold ifP; rw [e]; dsimp only; rw [show skP (tx " then ") s1 = some s2 from h]; dsimp only; rw [e2]; dsimp only; rw [show skP (tx " else ") s3 = none from h4]) H3 ((b1.trans b2).trans b3)
  rw [hs3] at h4
  have o4 := opn_sk (tx_bal " else " (by decide)) h4
  refine ⟨_, rfl, _, rfl, _, rfl, r, T, j4, rfl, rd4, by rw [hs4]; omega, OutP.mk (fun e5 H' b => ?_) fun d s5 e5 vc H5 j5 b5 rd5 hs5 rc => ⟨(by show 4 ≤ sizeLine; decide), fun p hp => ?_⟩⟩
  · rw [hs4] at e5
    exact q.bad (by unfold ifP; rw [e]; dsimp only; rw [show skP (tx " then ") s1 = some s2 from h]; dsimp only; rw [e2]; dsimp only; rw [show skP (tx " else ") s3 = some s4 from h4]; dsimp only; rw [e5]) H' (((b1.trans b2).trans (b3.trans b4)).trans b)
  rw [hs4] at e5
  have s6 := same_upd (o := .tup [.str "if", va, vb, vc]) hp
  have t5 := rd4.tk b5
  have t4 := rd3.tk b4
  have t3 := rd2.tk b3
  have t2 := rd1.tk b2
  exact q.good (x := .ite a c d) (s := s5) (by unfold ifP; rw [e]; dsimp only; rw [show skP (tx " then ") s1 = some s2 from h]; dsimp only; rw [e2]; dsimp only; rw [show skP (tx " else ") s3 = some s4 from h4]; dsimp only; rw [e5]) _ _ j5 ((((b1.trans b2).trans (b3.trans b4)).trans b5).upd_new (C := C) hp) (rd5.new hp) hs5
    ⟨p, va, vb, vc, rfl, upd_same, ra.mono (t2.trans (t3.trans (t4.trans (t5.trans s6.tk)))), rb.mono (t4.trans (t5.trans s6.tk)), rc.mono s6.tk⟩
theorem okF_let {k n : Nat} {f C cN g1 g2 g3 : Addr} {fd gd1 gd2 gd3 : FuncData} (F : Fun K "let_from" "let_from" s_let_from f fd) (T_Reader : TxtR K mg C) (G_Reader_skip : FnMF P w K mg base k C "skip" g1 gd1 ["self", "piece"] (sp_skipF C cN)) (G_shape_from : FnF P w K mg base k "shape_from" g2 gd2 ["reader"] (sp_shapeF C cN n))
    (G_word_from : FnF P w K mg base k "word_from" g3 gd3 ["reader"] (sp_wordF C cN)) : FnOk P w K mg base (CXF P w) (k + 1) f fd ["reader"] (sp_letF C cN n) := by
  refine F.okF sc_let_from (fun vs H Q E h => ?_) (fun cdv A outer s H vs Q E hr h => ?_)
  · obtain ⟨r, T, i, rfl, _⟩ := h
    rfl
  obtain ⟨r, T, i, rfl, rd, ho, q⟩ := h
  refine ⟨_, (pss_cons (ps_set (i := 1) sc_let_from.nd rfl (Or.inl rfl) (pe_call G_word_from.ok hr (by rfl) G_word_from.gl G_word_from.kp G_word_from.bd .nil cxf_pass (pa_cons (pv 0) pa_nil)))
    (pss_cons (ps_expr (pe_meth (pv 0) T_Reader.cl G_Reader_skip.mt G_Reader_skip.ok hr G_Reader_skip.bd .nil cxf_pass (pa_cons pe_str pa_nil)))
    (pss_cons (ps_set (i := 2) sc_let_from.nd rfl (Or.inl rfl) (pe_call G_shape_from.ok hr (by rfl) G_shape_from.gl G_shape_from.kp G_shape_from.bd .nil cxf_pass (pa_cons (pv 0) pa_nil)))
    (pss_cons (ps_expr (pe_meth (pv 0) T_Reader.cl G_Reader_skip.mt G_Reader_skip.ok hr G_Reader_skip.bd .nil cxf_pass (pa_cons pe_str pa_nil)))
    (pss_one (ps_ret (pe_tup (pa_cons pe_str (pa_cons (pv 1) (pa_cons (pv 2) (pa_cons (pe_call G_shape_from.ok hr (by rfl) G_shape_from.gl G_shape_from.kp G_shape_from.bd .nil cxf_pass (pa_cons (pv 0) pa_nil)) pa_nil)))) : PE _ _ _))))))), ?_⟩
  have hN : Nets (shapeP n) := @shape_net n
  refine ⟨_, rfl, r, T, i, rfl, rd, OutP.mk (fun e H' b => ?_) fun x s1 e vx H1 j1 b1 rd1 hs1 hx => ?_⟩
  · exact q.bad (by unfold letP; rw [e]) H' b
  have hx' : vx = .str x := hx
  subst hx'
  obtain ⟨⟨dx1, hr1⟩, _, _⟩ := id rd1
  have o1 := opn_net (word_net e)
  refine ⟨_, rfl, r, dx1, _, rfl, hr1, rfl, r, T, " = ", j1, rfl, rd1, rep_piece " = " (by decide), fun h => ?_, fun s2 h H2 j2 b2 rd2 hs2 => ?_⟩
  · rw [hs1] at h
    exact q.bad (by unfold letP; rw [e]; dsimp only; rw [show skP (tx " = ") s1 = none from h]) H1 b1
  rw [hs1] at h
  have o2 := opn_sk (tx_bal " = " (by decide)) h
  refine ⟨_, rfl, r, T, j2, rfl, rd2, by rw [hs2]; omega, OutP.mk (fun e2 H' b => ?_) fun c s3 e2 vb H3 j3 b3 rd3 hs3 rb => ?_⟩
  · rw [hs2] at e2
    exact q.bad (by unfold letP; rw [e]; dsimp only; rw [show skP (tx " = ") s1 = some s2 from h]; dsimp only; rw [e2]) H' ((b1.trans b2).trans b)
  rw [hs2] at e2
  obtain ⟨⟨dx3, hr3⟩, _, _⟩ := id rd3
  have o3 := opn_net (hN e2)
  refine ⟨_, rfl, r, dx3, _, rfl, hr3, rfl, r, T, " in ", j3, rfl, rd3, rep_piece " in " (by decide), fun h4 => ?_, fun s4 h4 H4 j4 b4 rd4 hs4 => ?_⟩
  · rw [hs3] at h4
    exact q.bad (by unfold letP; rw [e]; dsimp only; rw [show skP (tx " = ") s1 = some s2 from h]; dsimp only; rw [e2]; dsimp only; rw [show skP (tx " in ") s3 = none from h4]) H3 ((b1.trans b2).trans b3)
  rw [hs3] at h4
  have o4 := opn_sk (tx_bal " in " (by decide)) h4
  refine ⟨_, rfl, _, rfl, _, rfl, r, T, j4, rfl, rd4, by rw [hs4]; omega, OutP.mk (fun e5 H' b => ?_) fun d s5 e5 vc H5 j5 b5 rd5 hs5 rc => ⟨(by show 4 ≤ sizeLine; decide), fun p hp => ?_⟩⟩
  · rw [hs4] at e5
    exact q.bad (by unfold letP; rw [e]; dsimp only; rw [show skP (tx " = ") s1 = some s2 from h]; dsimp only; rw [e2]; dsimp only; rw [show skP (tx " in ") s3 = some s4 from h4]; dsimp only; rw [e5]) H' (((b1.trans b2).trans (b3.trans b4)).trans b)
  rw [hs4] at e5
  have s6 := same_upd (o := .tup [.str "let", .str x, vb, vc]) hp
  have t5 := rd4.tk b5
  have t4 := rd3.tk b4
  exact q.good (x := .lett x c d) (s := s5) (by unfold letP; rw [e]; dsimp only; rw [show skP (tx " = ") s1 = some s2 from h]; dsimp only; rw [e2]; dsimp only; rw [show skP (tx " in ") s3 = some s4 from h4]; dsimp only; rw [e5]) _ _ j5 ((((b1.trans b2).trans (b3.trans b4)).trans b5).upd_new (C := C) hp) (rd5.new hp) hs5
    ⟨p, vb, vc, rfl, upd_same, rb.mono (t4.trans (t5.trans s6.tk)), rc.mono s6.tk⟩
theorem bin_at (s : Sg) : (∀ o, bins.find? (fun o => (tx (bwT o)).isPrefixOf s) = some o → binP s = some (o, s.drop 3)) ∧ (bins.find? (fun o => (tx (bwT o)).isPrefixOf s) = none → binP s = none) := by
  obtain ⟨e1, e2, e3, e4⟩ := bw_lists
  have l : ∀ o, (tx (bwT o)).length = 3 := bw_len
  have key : ∀ o : Bin, skP (tx (bwT o)) s = if (tx (bwT o)).isPrefixOf s = true then some (s.drop 3) else none := fun o => by unfold skP; rw [l]
  have ka := key .add
  have kb := key .sub
  have kc := key .mul
  have kd := key .thn
  unfold binP
  rw [show tx " + " = tx (bwT .add) from rfl, show tx " - " = tx (bwT .sub) from rfl, show tx " * " = tx (bwT .mul) from rfl, show tx " ; " = tx (bwT .thn) from rfl, ka, kb, kc, kd]
  simp only [bins, List.find?_cons]
  cases (tx (bwT .add)).isPrefixOf s <;> cases (tx (bwT .sub)).isPrefixOf s <;> cases (tx (bwT .mul)).isPrefixOf s <;> cases (tx (bwT .thn)).isPrefixOf s <;> simp
theorem find_next {p : Bin → Bool} {j : Nat} {o : Bin} (ho : bins[j]? = some o) (hb : ∀ j' o', j' < j → bins[j']? = some o' → p o' = false) : (p o = true → bins.find? p = some o) ∧ ((∀ j' o', j' < 4 → bins[j']? = some o' → p o' = false) → bins.find? p = none) := by
  constructor
  · intro hp
    have hj : j < 4 := (List.getElem?_eq_some_iff.mp ho).1
    rcases (show j = 0 ∨ j = 1 ∨ j = 2 ∨ j = 3 by omega) with rfl | rfl | rfl | rfl
    · cases ho; simp [bins, List.find?_cons, hp]
    · cases ho; simp [bins, List.find?_cons, hp, hb 0 .add (by decide) rfl]
    · cases ho; simp [bins, List.find?_cons, hp, hb 0 .add (by decide) rfl, hb 1 .sub (by decide) rfl]
    · cases ho; simp [bins, List.find?_cons, hp, hb 0 .add (by decide) rfl, hb 1 .sub (by decide) rfl, hb 2 .mul (by decide) rfl]
  · intro h
    simp [bins, List.find?_cons, h 0 .add (by decide) rfl, h 1 .sub (by decide) rfl, h 2 .mul (by decide) rfl, h 3 .thn (by decide) rfl]
theorem okF_two {k n : Nat} {f C cN bd g1 g2 : Addr} {fd gd1 gd2 : FuncData} (F : Fun K "two_from" "two_from" s_two_from f fd) (T_Reader : TxtR K mg C) (m_BETWEEN : mg "BETWEEN" = some (.ref bd)) (h_BETWEEN : KDicW K w.params bd betw) (hB : KBtw K bd) (m_NoText : mg "NoText" = some (.ref cN)) (x_NoText : PySem.W.excIn K cN bmVE "ValueError.__new__" = true)
    (G_Reader_skipped : FnM P w K mg base k C "skipped" g1 gd1 ["self", "piece"] (sp_skipped C)) (G_shape_from : FnF P w K mg base k "shape_from" g2 gd2 ["reader"] (sp_shapeF C cN n)) :
    FnOk P w K mg base (CXF P w) (k + 1) f fd ["reader"] (sp_twoF C cN n) := by
  refine F.okF sc_two_from (fun vs H Q E h => ?_) (fun cdv A outer s H vs Q E hr h => ?_)
  · obtain ⟨r, T, i, rfl, _⟩ := h
    rfl
  obtain ⟨r, T, i, rfl, rd, ho, q⟩ := h
  refine ⟨_, (pss_cons (ps_set (i := 1) sc_two_from.nd rfl (Or.inl rfl) (pe_call G_shape_from.ok hr (by rfl) G_shape_from.gl G_shape_from.kp G_shape_from.bd .nil cxf_pass (pa_cons (pv 0) pa_nil)))
    (pss_cons (ps_for own_cx rfl (pi_dictK h_BETWEEN (pe_glob (v := .ref _) (by rfl) m_BETWEEN (by rfl))) (pg_name (i := 2) sc_two_from.nd rfl (Or.inl rfl)) (pss_one (ps_if (pt_val (pe_meth (pv 0) T_Reader.cl G_Reader_skipped.mt G_Reader_skipped.ok hr G_Reader_skipped.bd .nil pass0 (pa_cons (pe_ix (ix_kd h_BETWEEN.dic) (pe_glob (v := .ref _) (by rfl) m_BETWEEN (by rfl)) (pv 2) (fun _ _ => rfl)) pa_nil))) (pss_one (ps_ret (pe_tup (pa_cons (pv 2) (pa_cons (pv 1) (pa_cons (pe_call G_shape_from.ok hr (by rfl) G_shape_from.gl G_shape_from.kp G_shape_from.bd .nil cxf_pass (pa_cons (pv 0) pa_nil)) pa_nil))) : PE _ _ _))) pss_nil)))
    (pss_one (ps_raise (by rfl) m_NoText x_NoText (pa_cons pe_str pa_nil))))), ?_⟩
  have hN : Nets (shapeP n) := @shape_net n
  refine ⟨_, rfl, r, T, i, rfl, rd, ho, OutP.mk (fun e H' b => ?_) fun a s1 e va H1 j1 b1 rd1 hs1 ra => ?_⟩
  · exact q.bad (by unfold twoP; rw [e]) H' b
  obtain ⟨⟨dx1, hr1⟩, _, hf⟩ := id rd1
  have o1 := opn_net (hN e)
  obtain ⟨hg, hn⟩ := bin_at s1
  refine ⟨rfl, ?_⟩
  refine for_dictK (ks := betw) (fun j σ' H' => ∃ s2 : Option V, σ' = [some (.ref r), some va, s2] ∧ H' = H1 ∧ ∀ j' o', j' < j → bins[j']? = some o' → (tx (bwT o')).isPrefixOf s1 = false) ⟨none, rfl, rfl, fun j' o' h => absurd h (Nat.not_lt_zero _)⟩ ?_ ?_
  · rintro j p σ' H' hp ⟨s2, rfl, rfl, nb⟩
    obtain ⟨o', ho', rfl⟩ := betw_at hp
    obtain ⟨t, hB'⟩ := hB o'
    refine ⟨_, rfl, r, dx1, _, rfl, hr1, rfl, _, rfl, _, _, .str (Str.ofString (bwT o')), rfl, rfl, hB', ⟨_, rfl⟩, r, T, _, _, rfl, rd1, fun hq => ?_, fun hq H2 b2 rd2 => ?_⟩
    · rw [hs1] at hq
      refine ⟨_, rfl, iteF ⟨_, rfl, rfl, fun j' o2 hj' h2 => ?_⟩⟩
      rcases Nat.lt_or_ge j' j with h | h
      · exact nb j' o2 h h2
      · have ej : j' = j := by omega
        subst ej
        rw [ho'] at h2
        cases h2
        exact hq
    · rw [hs1] at hq
      have hfo := (find_next ho' nb).1 hq
      have hbin := hg o' hfo
      have hl3 : (Str.ofString (bwT o')).length = 3 := by rw [← tx_len]; exact bw_len o'
      have hs2 : T.cps.toList.drop (j1 + (Str.ofString (bwT o')).length) = s1.drop 3 := by rw [hl3, ← List.drop_drop, hs1]
      have o2 := opn_net (bin_net hbin)
      refine ⟨_, rfl, iteT ⟨_, rfl, _, rfl, _, rfl, r, T, _, rfl, rd2, by rw [hs2]; omega, OutP.mk (fun e3 H' b => ?_) fun c s3 e3 vb H3 j3 b3 rd3 hs3 rb => ⟨(by show 3 ≤ sizeLine; decide), fun p hp => ?_⟩⟩⟩
      · rw [hs2] at e3
        exact q.bad (by unfold twoP; rw [e]; dsimp only; rw [hbin]; dsimp only; rw [e3]) H' ((b1.trans b2).trans b)
      · rw [hs2] at e3
        have s4 := same_upd (o := .tup [.str o'.s, va, vb]) hp
        have t3 := rd2.tk b3
        have t2 := rd1.tk b2
        exact q.good (x := .bin o' a c) (s := s3) (by unfold twoP; rw [e]; dsimp only; rw [hbin]; dsimp only; rw [e3]) _ _ j3 (((b1.trans b2).trans b3).upd_new (C := C) hp) (rd3.new hp) hs3 ⟨p, va, vb, rfl, upd_same, ra.mono (t2.trans (t3.trans s4.tk)), rb.mono s4.tk⟩
  · rintro σ' H' ⟨s2, rfl, rfl, nb⟩
    have hb := hn ((find_next (p := fun o => (tx (bwT o)).isPrefixOf s1) (j := 0) (o := .add) rfl (fun _ _ h => absurd h (Nat.not_lt_zero _))).2 nb)
    exact ⟨(by show 1 ≤ sizeLine; decide), q.bad (by unfold twoP; rw [e]; dsimp only; rw [hb]) _ b1⟩
end
end K07
set_option Elab.async false
set_option linter.all false
set_option maxRecDepth 100000
set_option maxHeartbeats 4000000
namespace L2
open PySem
theorem kw_cat : (Str.ofString "ask" ++ Str.ofString " ").cps.toList = tx "ask " ∧ (Str.ofString "stop" ++ Str.ofString " ").cps.toList = tx "stop " := by decide +kernel
theorem sk_yes {p s : Sg} (h : p.isPrefixOf s = true) : skP p s = some (s.drop p.length) := if_pos h
theorem OutP.same {α : Type} {C cN : Addr} {H H1 : Hp} {r : Addr} {T : Str} {o o' : Option (α × Sg)} {Rp : Hp → α → V → Prop} {Q : VK} {E : XK} (q : OutP C cN H r T o Rp Q E) (e : o' = o) (b : But r H H1) : OutP C cN H1 r T o' Rp Q E := by
  subst e
  exact OutP.mk (fun e H' b' => q.bad e H' (b.trans b')) fun x s e v H' j b' rd hs hv => q.good e v H' j (b.trans b') rd hs hv
theorem opn_40 {s s1 : Sg} (h : skP [40] s = some s1) : opn s = opn s1 + 1 := by
  rw [(skP_some h).1]
  show opn (40 :: s1) = _
  rw [opn, if_pos rfl]
end L2
namespace K07
open PySem PySem.Spec L2 PyProof.Rows
abbrev s_bracket_from : Stmt := top 23
theorem sc_bracket_from : FnScope ["reader", "sign"] ["reader"] (defScope s_bracket_from) := ⟨rfl, rfl, rfl, by decide +kernel, rfl, by decide +kernel, by decide +kernel⟩
abbrev s_shape_from : Stmt := top 22
theorem sc_shape_from : FnScope ["reader", "tree", "gap"] ["reader"] (defScope s_shape_from) := ⟨rfl, rfl, rfl, by decide +kernel, rfl, by decide +kernel, by decide +kernel⟩
section
variable {P : Program} {w : World} {K : PySem.W.Frag} {mg : Str → Option Value} {base : Heap}
def sp_brkF (C cN : Addr) (n : Nat) : Sp := fun vs H Q E => ∃ (r : Addr) (T : Str) (i : Nat), vs = [.ref r] ∧ RdAt C H r T i ∧ opn (T.cps.toList.drop i) < n ∧ OutP C cN H r T (brackP (shapeP n) (T.cps.toList.drop i)) Rep Q E
theorem okF_bracket {k n : Nat} {f C cN g1 g2 g3 g4 g5 g6 : Addr} {fd gd1 gd2 gd3 gd4 gd5 gd6 : FuncData} (F : Fun K "bracket_from" "bracket_from" s_bracket_from f fd) (T_Reader : TxtR K mg C) (G_Reader_skipped : FnM P w K mg base k C "skipped" g1 gd1 ["self", "piece"] (sp_skipped C))
    (G_word_from : FnF P w K mg base k "word_from" g2 gd2 ["reader"] (sp_wordF C cN)) (G_shape_from : FnF P w K mg base k "shape_from" g3 gd3 ["reader"] (sp_shapeF C cN n)) (G_if_from : FnF P w K mg base k "if_from" g4 gd4 ["reader"] (sp_ifF C cN n)) (G_let_from : FnF P w K mg base k "let_from" g5 gd5 ["reader"] (sp_letF C cN n)) (G_two_from : FnF P w K mg base k "two_from" g6 gd6 ["reader"] (sp_twoF C cN n)) :
    FnOk P w K mg base (CXF P w) (k + 1) f fd ["reader"] (sp_brkF C cN n) := by
  refine F.okF sc_bracket_from (fun vs H Q E h => ?_) (fun cdv A outer s H vs Q E hr h => ?_)
  · obtain ⟨r, T, i, rfl, _⟩ := h
    rfl
  obtain ⟨r, T, i, rfl, rd, ho, q⟩ := h
  obtain ⟨⟨dx, hr0⟩, hi, hf⟩ := id rd
  refine ⟨_, (pss_cons (ps_for own_cx rfl (pi_tup (pe_tup (pa_cons pe_str (pa_cons pe_str pa_nil)) : PE _ _ _)) (pg_name (i := 1) sc_bracket_from.nd rfl (Or.inl rfl)) (pss_one (ps_if (pt_val (pe_meth (pv 0) T_Reader.cl G_Reader_skipped.mt G_Reader_skipped.ok hr G_Reader_skipped.bd .nil pass0 (pa_cons (pe_op op_add_str (pv 1) pe_str) pa_nil))) (pss_one (ps_ret (pe_tup (pa_cons (pv 1) (pa_cons (pe_call G_word_from.ok hr (by rfl) G_word_from.gl G_word_from.kp G_word_from.bd .nil cxf_pass (pa_cons (pv 0) pa_nil)) pa_nil)) : PE _ _ _))) pss_nil)))
    (pss_cons (ps_if (pt_val (pe_meth (pv 0) T_Reader.cl G_Reader_skipped.mt G_Reader_skipped.ok hr G_Reader_skipped.bd .nil pass0 (pa_cons pe_str pa_nil))) (pss_one (ps_ret (pe_tup (pa_cons pe_str (pa_cons (pe_call G_shape_from.ok hr (by rfl) G_shape_from.gl G_shape_from.kp G_shape_from.bd .nil cxf_pass (pa_cons (pv 0) pa_nil)) pa_nil)) : PE _ _ _))) pss_nil)
    (pss_cons (ps_if (pt_val (pe_meth (pv 0) T_Reader.cl G_Reader_skipped.mt G_Reader_skipped.ok hr G_Reader_skipped.bd .nil pass0 (pa_cons pe_str pa_nil))) (pss_one (ps_ret (pe_call G_if_from.ok hr (by rfl) G_if_from.gl G_if_from.kp G_if_from.bd .nil cxf_pass (pa_cons (pv 0) pa_nil)))) pss_nil)
    (pss_cons (ps_if (pt_val (pe_meth (pv 0) T_Reader.cl G_Reader_skipped.mt G_Reader_skipped.ok hr G_Reader_skipped.bd .nil pass0 (pa_cons pe_str pa_nil))) (pss_one (ps_ret (pe_call G_let_from.ok hr (by rfl) G_let_from.gl G_let_from.kp G_let_from.bd .nil cxf_pass (pa_cons (pv 0) pa_nil)))) pss_nil)
    (pss_one (ps_ret (pe_call G_two_from.ok hr (by rfl) G_two_from.gl G_two_from.kp G_two_from.bd .nil cxf_pass (pa_cons (pv 0) pa_nil)))))))), ?_⟩
  have d2 : 2 ≤ sizeLine := by decide
  refine ⟨d2, fun tp htp => ⟨tp, rfl, ⟨_, SqT.of upd_same⟩, ?_⟩⟩
  have s0 := same_upd (o := .tup [.str "ask", .str "stop"]) htp
  have b0 : But r H (upd H tp (.tup [.str "ask", .str "stop"])) := fun b o _ e => s0 _ _ e
  have rd0 : RdAt C (upd H tp (.tup [.str "ask", .str "stop"])) r T i := ⟨⟨dx, s0 _ _ hr0⟩, hi, hf⟩
  have et : (upd H tp (.tup [.str "ask", .str "stop"])) tp = some (.tup [.str "ask", .str "stop"]) := upd_same
  generalize upd H tp (.tup [.str "ask", .str "stop"]) = H0 at s0 b0 rd0 et ⊢
  have hr00 := s0 _ _ hr0
  have nxt : ∀ (p : Str) (H1 : Hp), RdAt C H1 r T (i + p.length) → p.cps.toList.isPrefixOf (T.cps.toList.drop i) = true → T.cps.toList.drop (i + p.length) = (T.cps.toList.drop i).drop p.cps.toList.length := fun p _ _ _ => by rw [List.drop_drop, str_len]
  refine for_tup (xs := [V.str "ask", V.str "stop"]) (fun j σ' H' => ∃ s1 : Option V, σ' = [some (.ref r), s1] ∧ H' = H0 ∧ (1 ≤ j → (tx "ask ").isPrefixOf (T.cps.toList.drop i) = false) ∧ (2 ≤ j → (tx "stop ").isPrefixOf (T.cps.toList.drop i) = false)) ⟨none, rfl, rfl, (by omega), (by omega)⟩ ?_ ?_ ?_
  · rintro j σ' H' _ ⟨s1, rfl, rfl, _⟩
    exact SqT.of et
  · rintro j x σ' H' hx ⟨s1, rfl, rfl, n1, n2⟩
    have hj : j < 2 := (List.getElem?_eq_some_iff.mp hx).1
    rcases (show j = 0 ∨ j = 1 by omega) with rfl | rfl
    · cases hx
      refine ⟨_, rfl, r, dx, _, rfl, hr00, rfl, _, rfl, _, _, rfl, rfl, line1000 (by decide +kernel), r, T, _, i, rfl, rd0, fun hq => ?_, fun hq H1 b1 rd1 => ?_⟩
      · rw [kw_cat.1] at hq
        exact ⟨_, rfl, iteF ⟨_, rfl, rfl, fun _ => hq, fun z => by omega⟩⟩
      · have hd := nxt _ _ rd1 hq
        rw [kw_cat.1] at hq hd
        have hsk := sk_yes hq
        refine ⟨_, rfl, iteT ⟨_, rfl, _, rfl, r, T, _, rfl, rd1, OutP.mk (fun e H' b => ?_) fun x s2 e v H2 j2 b2 rd2 hs2 hv => ?_⟩⟩
        · rw [hd] at e
          exact q.bad (by unfold brackP; rw [hsk]; dsimp only; rw [e]) H' ((b0.trans b1).trans b)
        · rw [hd] at e
          have hv' : v = .str x := hv
          subst hv'
          refine ⟨d2, fun p hp => ?_⟩
          exact q.good (x := .ask x) (s := s2) (by unfold brackP; rw [hsk]; dsimp only; rw [e]) _ _ j2 (((b0.trans b1).trans b2).upd_new (C := C) hp) (rd2.new hp) hs2 ⟨p, rfl, upd_same⟩
    · cases hx
      have hk1 := skP_no (n1 (by omega))
      refine ⟨_, rfl, r, dx, _, rfl, hr00, rfl, _, rfl, _, _, rfl, rfl, line1000 (by decide +kernel), r, T, _, i, rfl, rd0, fun hq => ?_, fun hq H1 b1 rd1 => ?_⟩
      · rw [kw_cat.2] at hq
        exact ⟨_, rfl, iteF ⟨_, rfl, rfl, fun _ => n1 (by omega), fun _ => hq⟩⟩
      · have hd := nxt _ _ rd1 hq
        rw [kw_cat.2] at hq hd
        have hsk := sk_yes hq
        refine ⟨_, rfl, iteT ⟨_, rfl, _, rfl, r, T, _, rfl, rd1, OutP.mk (fun e H' b => ?_) fun x s2 e v H2 j2 b2 rd2 hs2 hv => ?_⟩⟩
        · rw [hd] at e
          exact q.bad (by unfold brackP; rw [hk1]; dsimp only; rw [hsk]; dsimp only; rw [e]) H' ((b0.trans b1).trans b)
        · rw [hd] at e
          have hv' : v = .str x := hv
          subst hv'
          refine ⟨d2, fun p hp => ?_⟩
          exact q.good (x := .stop x) (s := s2) (by unfold brackP; rw [hk1]; dsimp only; rw [hsk]; dsimp only; rw [e]) _ _ j2 (((b0.trans b1).trans b2).upd_new (C := C) hp) (rd2.new hp) hs2 ⟨p, rfl, upd_same⟩
  · rintro σ' H' ⟨s1, rfl, rfl, n1, n2⟩
    have hk1 := skP_no (n1 (by decide))
    have hk2 := skP_no (n2 (by decide))
    refine ⟨_, rfl, r, dx, _, rfl, hr00, rfl, r, T, "say ", i, rfl, rd0, fun hq => ?_, fun hq H1 b1 rd1 => ?_⟩
    · have hk3 : skP (tx "say ") (T.cps.toList.drop i) = none := skP_no hq
      refine ⟨_, rfl, iteF ?_⟩
      refine ⟨_, rfl, r, dx, _, rfl, hr00, rfl, r, T, "if ", i, rfl, rd0, fun hq2 => ?_, fun hq2 H1 b1 rd1 => ?_⟩
      · have hk4 : skP (tx "if ") (T.cps.toList.drop i) = none := skP_no hq2
        refine ⟨_, rfl, iteF ?_⟩
        refine ⟨_, rfl, r, dx, _, rfl, hr00, rfl, r, T, "let ", i, rfl, rd0, fun hq3 => ?_, fun hq3 H1 b1 rd1 => ?_⟩
        · have hk5 : skP (tx "let ") (T.cps.toList.drop i) = none := skP_no hq3
          refine ⟨_, rfl, iteF ⟨_, rfl, r, T, i, rfl, rd0, ho, q.same ?_ b0⟩⟩
          unfold brackP
          rw [hk1, hk2, hk3, hk4, hk5]
        · have hd := nxt _ _ rd1 hq3
          have hk5 : skP (tx "let ") (T.cps.toList.drop i) = some _ := sk_yes hq3
          have oo := opn_sk (tx_bal "let " (by decide)) hk5
          refine ⟨_, rfl, iteT ⟨_, rfl, r, T, _, rfl, rd1, by rw [hd]; exact Nat.lt_of_le_of_lt (Nat.le_of_eq oo.symm) ho, q.same ?_ (b0.trans b1)⟩⟩
          rw [hd]
          unfold brackP
          rw [hk1, hk2, hk3, hk4, hk5]
          rfl
      · have hd := nxt _ _ rd1 hq2
        have hk4 : skP (tx "if ") (T.cps.toList.drop i) = some _ := sk_yes hq2
        have oo := opn_sk (tx_bal "if " (by decide)) hk4
        refine ⟨_, rfl, iteT ⟨_, rfl, r, T, _, rfl, rd1, by rw [hd]; exact Nat.lt_of_le_of_lt (Nat.le_of_eq oo.symm) ho, q.same ?_ (b0.trans b1)⟩⟩
        rw [hd]
        unfold brackP
        rw [hk1, hk2, hk3, hk4]
        rfl
    · have hd := nxt _ _ rd1 hq
      have hk3 : skP (tx "say ") (T.cps.toList.drop i) = some _ := sk_yes hq
      have oo := opn_sk (tx_bal "say " (by decide)) hk3
      refine ⟨_, rfl, iteT ⟨_, rfl, r, T, _, rfl, rd1, by rw [hd]; exact Nat.lt_of_le_of_lt (Nat.le_of_eq oo.symm) ho, OutP.mk (fun e H' b => ?_) fun a s2 e v H2 j2 b2 rd2 hs2 rv => ⟨d2, fun p hp => ?_⟩⟩⟩
      · rw [hd] at e
        exact q.bad (by unfold brackP; rw [hk1, hk2, hk3]; dsimp only; exact (by rw [show shapeP n (List.drop (tx "say ").length (List.drop i T.cps.toList)) = none from e])) H' ((b0.trans b1).trans b)
      · rw [hd] at e
        have s3 := same_upd (o := .tup [.str "say", v]) hp
        exact q.good (x := .say a) (s := s2) (by unfold brackP; rw [hk1, hk2, hk3]; dsimp only; rw [show shapeP n (List.drop (tx "say ").length (List.drop i T.cps.toList)) = some (a, s2) from e]) _ _ j2 (((b0.trans b1).trans b2).upd_new (C := C) hp) (rd2.new hp) hs2 ⟨p, v, rfl, upd_same, rv.mono s3.tk⟩
theorem okF_shape {k n : Nat} {f C cN g1 g2 g3 g4 g5 g6 : Addr} {fd gd1 gd2 gd3 gd4 gd5 gd6 : FuncData} (F : Fun K "shape_from" "shape_from" s_shape_from f fd) (T_Reader : TxtR K mg C) (G_Reader_skipped : FnM P w K mg base k C "skipped" g1 gd1 ["self", "piece"] (sp_skipped C)) (G_Reader_skip : FnMF P w K mg base k C "skip" g2 gd2 ["self", "piece"] (sp_skipF C cN))
    (G_bracket_from : FnF P w K mg base k "bracket_from" g3 gd3 ["reader"] (sp_brkF C cN n)) (G_word_from : FnF P w K mg base k "word_from" g4 gd4 ["reader"] (sp_wordF C cN)) (G_atoms_from : FnF P w K mg base k "atoms_from" g5 gd5 ["reader"] (sp_atomsF C cN)) (G_plain_leaf_from : FnF P w K mg base k "plain_leaf_from" g6 gd6 ["reader"] (sp_pleafF C cN)) :
    FnOk P w K mg base (CXF P w) (k + 1) f fd ["reader"] (sp_shapeF C cN (n + 1)) := by
  refine F.okF sc_shape_from (fun vs H Q E h => ?_) (fun cdv A outer s H vs Q E hr h => ?_)
  · obtain ⟨r, T, i, rfl, _⟩ := h
    rfl
  obtain ⟨r, T, i, rfl, rd, ho, q⟩ := h
  obtain ⟨⟨dx, hr0⟩, hi, hf⟩ := id rd
  refine ⟨_, (pss_cons (ps_if (pt_val (pe_meth (pv 0) T_Reader.cl G_Reader_skipped.mt G_Reader_skipped.ok hr G_Reader_skipped.bd .nil pass0 (pa_cons pe_str pa_nil))) (pss_cons (ps_set (i := 1) sc_shape_from.nd rfl (Or.inl rfl) (pe_call G_bracket_from.ok hr (by rfl) G_bracket_from.gl G_bracket_from.kp G_bracket_from.bd .nil cxf_pass (pa_cons (pv 0) pa_nil)))
    (pss_cons (ps_expr (pe_meth (pv 0) T_Reader.cl G_Reader_skip.mt G_Reader_skip.ok hr G_Reader_skip.bd .nil cxf_pass (pa_cons pe_str pa_nil)))
    (pss_one (ps_ret (pv 1))))) pss_nil)
    (pss_cons (ps_if (pt_val (pe_meth (pv 0) T_Reader.cl G_Reader_skipped.mt G_Reader_skipped.ok hr G_Reader_skipped.bd .nil pass0 (pa_cons pe_str pa_nil))) (pss_cons (ps_set (i := 2) sc_shape_from.nd rfl (Or.inl rfl) (pe_call G_word_from.ok hr (by rfl) G_word_from.gl G_word_from.kp G_word_from.bd .nil cxf_pass (pa_cons (pv 0) pa_nil)))
    (pss_one (ps_ret (pe_tup (pa_cons pe_str (pa_cons (pv 2) (pa_cons (pe_call G_atoms_from.ok hr (by rfl) G_atoms_from.gl G_atoms_from.kp G_atoms_from.bd .nil cxf_pass (pa_cons (pv 0) pa_nil)) pa_nil))) : PE _ _ _)))) pss_nil)
    (pss_one (ps_ret (pe_call G_plain_leaf_from.ok hr (by rfl) G_plain_leaf_from.gl G_plain_leaf_from.kp G_plain_leaf_from.bd .nil cxf_pass (pa_cons (pv 0) pa_nil)))))), ?_⟩
  have d3 : 3 ≤ sizeLine := by decide
  refine ⟨_, rfl, r, dx, _, rfl, hr0, rfl, r, T, "(", i, rfl, rd, fun hq => ?_, fun hq H1 b1 rd1 => ?_⟩
  · rw [par_list.1] at hq
    have hk1 := skP_no hq
    refine ⟨_, rfl, iteF ?_⟩
    refine ⟨_, rfl, r, dx, _, rfl, hr0, rfl, r, T, "?", i, rfl, rd, fun hq2 => ?_, fun hq2 H1 b1 rd1 => ?_⟩
    · rw [q_list] at hq2
      have hk2 := skP_no hq2
      refine ⟨_, rfl, iteF ⟨_, rfl, r, T, i, rfl, rd, OutP.mk (fun e H' b => ?_) fun a s2 e v H2 j2 b2 rd2 hs2 hv => ?_⟩⟩
      · exact q.bad (by rw [shapeP, hk1, hk2]; dsimp only; rw [e]) H' b
      · exact q.good (x := atTr a) (s := s2) (by rw [shapeP, hk1, hk2]; dsimp only; rw [e]) v H2 j2 b2 rd2 hs2 (atTr_rep hv)
    · rw [q_list] at hq2
      have hk2 : skP [63] (T.cps.toList.drop i) = some (T.cps.toList.drop (i + 1)) := by rw [sk_yes hq2, List.drop_drop]; rfl
      rw [q_len] at rd1
      refine ⟨_, rfl, iteT ?_⟩
      refine ⟨_, rfl, r, T, i + 1, rfl, rd1, OutP.mk (fun e H' b => ?_) fun g s2 e v H2 j2 b2 rd2 hs2 hv => ?_⟩
      · exact q.bad (by rw [shapeP, hk1, hk2]; dsimp only; rw [e]) H' (b1.trans b)
      · have hv' : v = .str g := hv
        subst hv'
        refine ⟨_, rfl, _, rfl, r, T, j2, rfl, rd2, OutP.mk (fun e3 H' b => ?_) fun as s3 e3 va H3 j3 b3 rd3 hs3 ha => ⟨d3, fun p hp => ?_⟩⟩
        · rw [hs2] at e3
          exact q.bad (by rw [shapeP, hk1, hk2]; dsimp only; rw [e]; dsimp only; rw [e3]) H' ((b1.trans b2).trans b)
        · rw [hs2] at e3
          obtain ⟨pa, us, rfl, hpa, pu, lu⟩ := ha
          have s4 := same_upd (o := .tup [.str "gap", .str g, .ref pa]) hp
          exact q.good (x := .gap g as) (s := s3) (by rw [shapeP, hk1, hk2]; dsimp only; rw [e]; dsimp only; rw [e3]) _ _ j3 (((b1.trans b2).trans b3).upd_new (C := C) hp) (rd3.new hp) hs3 ⟨p, pa, us, rfl, upd_same, s4 _ _ hpa, lu, Paired.mapP pu fun _ _ z => z.mono s4.tk⟩
  · rw [par_list.1] at hq
    have hk1 : skP [40] (T.cps.toList.drop i) = some (T.cps.toList.drop (i + 1)) := by rw [sk_yes hq, List.drop_drop]; rfl
    rw [par_list.2.2.1] at rd1
    have oo := opn_40 hk1
    refine ⟨_, rfl, iteT ?_⟩
    refine ⟨_, rfl, r, T, i + 1, rfl, rd1, by omega, OutP.mk (fun e H' b => ?_) fun t s2 e v H2 j2 b2 rd2 hs2 hv => ?_⟩
    · exact q.bad (by rw [shapeP, hk1]; dsimp only; rw [e]) H' (b1.trans b)
    obtain ⟨⟨dx2, hr2⟩, _, _⟩ := id rd2
    refine ⟨_, rfl, r, dx2, _, rfl, hr2, rfl, r, T, ")", j2, rfl, rd2, rep_piece ")" (by decide), fun h => ?_, fun s3 h H3 j3 b3 rd3 hs3 => ?_⟩
    · rw [hs2, par_list.2.1] at h
      exact q.bad (by rw [shapeP, hk1]; dsimp only; rw [e]; dsimp only; rw [h]) H2 (b1.trans b2)
    · rw [hs2, par_list.2.1] at h
      exact ⟨_, rfl, q.good (x := t) (s := s3) (by rw [shapeP, hk1]; dsimp only; rw [e]; dsimp only; rw [h]) v H3 j3 ((b1.trans b2).trans b3) rd3 hs3 (hv.mono (rd2.tk b3))⟩
theorem noF_shape {k : Nat} {f C cN : Addr} {fd : FuncData} : FnOk P w K mg base (CXF P w) k f fd ["reader"] (sp_shapeF C cN 0) := by
  have no : ∀ vs H Q E, ¬ sp_shapeF C cN 0 vs H Q E := fun vs H Q E h => by
    obtain ⟨r, T, i, _, _, h1, _⟩ := h
    omega
  exact ⟨fun vs H Q E h => absurd h (no vs H Q E), fun A outer s H args us vs Q E _ _ _ _ h => absurd h (no vs H Q E)⟩
theorem allF_shape {k : Nat} {C cN f0 f1 f2 f3 f4 bd g1 g2 g3 g4 g5 : Addr} {fd0 fd1 fd2 fd3 fd4 gd1 gd2 gd3 gd4 gd5 : FuncData} (F0 : Fun K "shape_from" "shape_from" s_shape_from f0 fd0) (F1 : Fun K "bracket_from" "bracket_from" s_bracket_from f1 fd1) (F2 : Fun K "if_from" "if_from" s_if_from f2 fd2) (F3 : Fun K "let_from" "let_from" s_let_from f3 fd3) (F4 : Fun K "two_from" "two_from" s_two_from f4 fd4)
    (b0 : Binds K fd0 ["reader"] []) (b1 : Binds K fd1 ["reader"] []) (b2 : Binds K fd2 ["reader"] []) (b3 : Binds K fd3 ["reader"] []) (b4 : Binds K fd4 ["reader"] []) (m0 : mg "shape_from" = some (.ref f0)) (m1 : mg "bracket_from" = some (.ref f1)) (m2 : mg "if_from" = some (.ref f2)) (m3 : mg "let_from" = some (.ref f3)) (m4 : mg "two_from" = some (.ref f4))
    (T_Reader : TxtR K mg C) (m_BETWEEN : mg "BETWEEN" = some (.ref bd)) (h_BETWEEN : KDicW K w.params bd betw) (hB : KBtw K bd) (m_NoText : mg "NoText" = some (.ref cN)) (x_NoText : PySem.W.excIn K cN bmVE "ValueError.__new__" = true)
    (G1 : FnM P w K mg base k C "skipped" g1 gd1 ["self", "piece"] (sp_skipped C)) (G2 : FnMF P w K mg base k C "skip" g2 gd2 ["self", "piece"] (sp_skipF C cN)) (G3 : FnF P w K mg base k "word_from" g3 gd3 ["reader"] (sp_wordF C cN)) (G4 : FnF P w K mg base k "atoms_from" g4 gd4 ["reader"] (sp_atomsF C cN)) (G5 : FnF P w K mg base k "plain_leaf_from" g5 gd5 ["reader"] (sp_pleafF C cN)) :
    ∀ n : Nat, FnF P w K mg base (k + 3 * n) "shape_from" f0 fd0 ["reader"] (sp_shapeF C cN n)
  | 0 => ⟨noF_shape, b0, F0.kp, m0⟩
  | n + 1 => by
    have S := allF_shape F0 F1 F2 F3 F4 b0 b1 b2 b3 b4 m0 m1 m2 m3 m4 T_Reader m_BETWEEN h_BETWEEN hB m_NoText x_NoText G1 G2 G3 G4 G5 n
    have l0 : k ≤ k + 3 * n := Nat.le_add_right _ _
    have l1 : k ≤ k + 3 * n + 1 := Nat.le_trans l0 (Nat.le_add_right _ _)
    have l2 : k ≤ k + 3 * n + 1 + 1 := Nat.le_trans l1 (Nat.le_add_right _ _)
    have I : FnF P w K mg base (k + 3 * n + 1) "if_from" f2 fd2 ["reader"] (sp_ifF C cN n) := ⟨okF_if F2 T_Reader (G2.up l0) S, b2, F2.kp, m2⟩
    have L : FnF P w K mg base (k + 3 * n + 1) "let_from" f3 fd3 ["reader"] (sp_letF C cN n) := ⟨okF_let F3 T_Reader (G2.up l0) S (G3.up l0), b3, F3.kp, m3⟩
    have W : FnF P w K mg base (k + 3 * n + 1) "two_from" f4 fd4 ["reader"] (sp_twoF C cN n) := ⟨okF_two F4 T_Reader m_BETWEEN h_BETWEEN hB m_NoText x_NoText (G1.up l0) S, b4, F4.kp, m4⟩
    have B : FnF P w K mg base (k + 3 * n + 1 + 1) "bracket_from" f1 fd1 ["reader"] (sp_brkF C cN n) := ⟨okF_bracket F1 T_Reader (G1.up l1) (G3.up l1) (S.up (Nat.le_add_right _ _)) I L W, b1, F1.kp, m1⟩
    exact ⟨okF_shape F0 T_Reader (G1.up l2) (G2.up l2) B (G3.up l2) (G4.up l2) (G5.up l2), b0, F0.kp, m0⟩
end
end K07
set_option Elab.async false
set_option linter.all false
set_option maxRecDepth 100000
set_option maxHeartbeats 4000000
namespace L2
open PySem
def moF (s : Sg) : Nat := (s.foldl moS (0, 0)).1
theorem mo_up : ∀ (s : Sg) (m c : Nat), m ≤ (s.foldl moS (m, c)).1
  | [], m, c => Nat.le_refl _
  | d :: s, m, c => by
    rw [List.foldl_cons]
    have h := mo_up s (moS (m, c) d).1 (moS (m, c) d).2
    have h2 : m ≤ (moS (m, c) d).1 := by
      unfold moS
      split
      · exact Nat.le_max_left _ _
      · split
        · exact Nat.le_max_left _ _
        · exact Nat.le_max_left _ _
    exact Nat.le_trans h2 h
theorem opn_mo : ∀ (s : Sg) (m c : Nat), c ≤ m → c + opn s ≤ (s.foldl moS (m, c)).1
  | [], m, c, h => h
  | d :: s, m, c, h => by
    rw [List.foldl_cons]
    by_cases h1 : d = 40
    · have e : moS (m, c) d = (max m (c + 1), c + 1) := if_pos h1
      have ih := opn_mo s (max m (c + 1)) (c + 1) (Nat.le_max_right _ _)
      rw [e, opn, if_pos h1]
      omega
    · by_cases h2 : d = 41
      · have e : moS (m, c) d = (max m (c - 1), c - 1) := by unfold moS; rw [if_neg h1, if_pos h2]
        have ih := opn_mo s (max m (c - 1)) (c - 1) (Nat.le_max_right _ _)
        have up := mo_up s (max m (c - 1)) (c - 1)
        rw [e, opn, if_neg h1, if_pos h2]
        omega
      · have e : moS (m, c) d = (max m c, c) := by unfold moS; rw [if_neg h1, if_neg h2]
        have ih := opn_mo s (max m c) c (Nat.le_max_right _ _)
        rw [e, opn, if_neg h1, if_neg h2]
        omega
theorem opn_le (s : Sg) : opn s ≤ moF s := by
  have := opn_mo s 0 0 (Nat.le_refl _)
  unfold moF
  omega
def Great (T : Str) : Prop := 2000 < T.length ∨ 16 < moF T.cps.toList
instance (T : Str) : Decidable (Great T) := inferInstanceAs (Decidable (_ ∨ _))
theorem rep_arrow : (PySem.reprText (Str.ofString " -> ")).length ≤ 1000 := rep_piece " -> " (by decide)
end L2
namespace K07
open PySem PySem.Spec L2 PyProof.Rows
abbrev s_most_open : Stmt := top 15
theorem sc_most_open : FnScope ["text", "most", "count", "sign"] ["text"] (defScope s_most_open) := ⟨rfl, rfl, rfl, by decide +kernel, rfl, by decide +kernel, by decide +kernel⟩
abbrev s_begun : Stmt := top 16
theorem sc_begun : FnScope ["text"] ["text"] (defScope s_begun) := ⟨rfl, rfl, rfl, by decide +kernel, rfl, by decide +kernel, by decide +kernel⟩
abbrev s_read : Stmt := top 29
theorem sc_read : FnScope ["text", "reader", "tree"] ["text"] (defScope s_read) := ⟨rfl, rfl, rfl, by decide +kernel, rfl, by decide +kernel, by decide +kernel⟩
abbrev s_read_rule : Stmt := top 30
theorem sc_read_rule : FnScope ["text", "reader", "left", "right", "kinds"] ["text"] (defScope s_read_rule) := ⟨rfl, rfl, rfl, by decide +kernel, rfl, by decide +kernel, by decide +kernel⟩
section
variable {P : Program} {w : World} {K : PySem.W.Frag} {mg : Str → Option Value} {base : Heap}
def sp_most : Sp := fun vs H Q _ => ∃ (T : Str), vs = [.str T] ∧ Q (.int (moF T.cps.toList : Int)) H
theorem ok_most {k : Nat} {f : Addr} {fd : FuncData} (F : Fun K "most_open" "most_open" s_most_open f fd) (z_max : mg "max" = none) : FnOk P w K mg base CX0 (k + 1) f fd ["text"] sp_most := by
  refine F.ok sc_most_open (fun vs H Q E h => ?_) (fun cdv A outer s H vs Q E hr h => ?_)
  · obtain ⟨T, rfl, _⟩ := h
    rfl
  obtain ⟨T, rfl, q⟩ := h
  refine ⟨_, (pss_cons (ps_set (i := 1) sc_most_open.nd rfl (Or.inl rfl) pe_int)
    (pss_cons (ps_set (i := 2) sc_most_open.nd rfl (Or.inl rfl) pe_int)
    (pss_cons (ps_for PassesOwn.never rfl (pi_str (pv 0)) (pg_name (i := 3) sc_most_open.nd rfl (Or.inl rfl)) (pss_cons (ps_if (pt_cmpR op_eq (pv 3) pe_str (nomark _)) (pss_one (ps_aug (i := 2) sc_most_open.nd rfl (Or.inl rfl) pe_int ip_add)) (pss_one (ps_if (pt_cmpR op_eq (pv 3) pe_str (nomark _)) (pss_one (ps_set (i := 2) sc_most_open.nd rfl (Or.inl rfl) (pe_callB (call_max2 rfl) (by rfl) z_max PyProof.Rows.boot_max (pa_cons (pe_op op_sub (pv 2) pe_int) (pa_cons pe_int pa_nil))))) pss_nil)))
    (pss_one (ps_set (i := 1) sc_most_open.nd rfl (Or.inl rfl) (pe_callB (call_max2 rfl) (by rfl) z_max PyProof.Rows.boot_max (pa_cons (pv 1) (pa_cons (pv 2) pa_nil)))))))
    (pss_one (ps_ret (pv 1)))))), ?_⟩
  refine ⟨_, rfl, _, rfl, ?_⟩
  refine for_str (x := T) (fun i σ' H' => ∃ s3 : Option V, σ' = [some (.str T), some (.int (((T.cps.toList.take i).foldl moS (0, 0)).1 : Int)), some (.int (((T.cps.toList.take i).foldl moS (0, 0)).2 : Int)), s3] ∧ H' = H) ⟨none, rfl, rfl⟩ ?_ ?_
  · rintro i c σ' H' hc ⟨s3, rfl, rfl⟩
    have hc' : T.cps.toList[i]? = some c := by rw [Array.getElem?_toList]; exact hc
    have en : (T.cps.toList.take (i + 1)).foldl moS (0, 0) = moS ((T.cps.toList.take i).foldl moS (0, 0)) c := by
      rw [take_next hc', List.foldl_append]
      rfl
    generalize (T.cps.toList.take i).foldl moS (0, 0) = p at en ⊢
    rw [en]
    refine ⟨_, rfl, rfl, _, rfl, ite2 (fun z => ?_) (fun z => ?_)⟩
    · have e : c = 40 := par_eq.1.mp (of_decide_eq_true z)
      have e2 : moS p c = (max p.1 (p.2 + 1), p.2 + 1) := by rw [e]; rfl
      refine ⟨_, rfl, _, _, rfl, rfl, _, rfl, _, rfl, _, _, rfl, some (.str ⟨#[c]⟩), ?_, rfl⟩
      rw [e2]
      have := max_nat p.1 (p.2 + 1)
      rw [show ((p.2 + 1 : Nat) : Int) = (p.2 : Int) + 1 from rfl] at this ⊢
      rw [this]
      rfl
    · have n1 : c ≠ 40 := fun h => z (decide_eq_true (par_eq.1.mpr h))
      refine ⟨_, rfl, rfl, _, rfl, ite2 (fun z2 => ?_) (fun z2 => ?_)⟩
      · have e : c = 41 := par_eq.2.mp (of_decide_eq_true z2)
        have e2 : moS p c = (max p.1 (p.2 - 1), p.2 - 1) := by rw [e]; rfl
        refine ⟨_, rfl, _, _, rfl, rfl, _, _, rfl, _, rfl, _, rfl, _, _, rfl, some (.str ⟨#[c]⟩), ?_, rfl⟩
        rw [e2]
        dsimp only
        rw [max_pred, max_nat]
        rfl
      · have n2 : c ≠ 41 := fun h => z2 (decide_eq_true (par_eq.2.mpr h))
        have e2 : moS p c = (max p.1 p.2, p.2) := by unfold moS; rw [if_neg n1, if_neg n2]
        refine ⟨_, rfl, _, rfl, _, _, rfl, some (.str ⟨#[c]⟩), ?_, rfl⟩
        rw [e2, max_nat]
        rfl
  · rintro σ' H' ⟨s3, rfl, rfl⟩
    have et : T.cps.toList.take T.cps.size = T.cps.toList := List.take_of_length_le (by rw [Array.length_toList]; exact Nat.le_refl _)
    rw [et]
    exact ⟨_, rfl, q⟩
def sp_begunF (C cG : Addr) : Sp := fun vs H Q E => ∃ (T : Str), vs = [.str T] ∧ T.length ≤ 10000 ∧ (Great T → E (.ref cG) none H) ∧ (¬ Great T → ∀ (r : Addr) (H' : Hp), Same H H' → H r = none → RdAt C H' r T 0 → Q (.ref r) H')
theorem okF_begun {k : Nat} {f C cG g1 g2 : Addr} {fd gd1 gd2 : FuncData} {tk tk2 : Tok} (F : Fun K "begun" "begun" s_begun f fd) (z_len : mg "len" = none) (m_MOST_SIGNS : mg "MOST_SIGNS" = some (.int 2000 tk)) (m_MOST_OPEN : mg "MOST_OPEN" = some (.int 16 tk2)) (T_Reader : TxtR K mg C) (MK_Reader : Mk K C g2) (m_TooGreat : mg "TooGreat" = some (.ref cG)) (x_TooGreat : PySem.W.excIn K cG bmVE "ValueError.__new__" = true)
    (G_most_open : FnB P w K mg base (k + 1) "most_open" g1 gd1 ["text"] sp_most) (G_Reader___init__ : FnM P w K mg base k C "__init__" g2 gd2 ["self", "text"] (sp_init C)) : FnOk P w K mg base (CXF P w) (k + 1 + 1) f fd ["text"] (sp_begunF C cG) := by
  refine F.okF sc_begun (fun vs H Q E h => ?_) (fun cdv A outer s H vs Q E hr h => ?_)
  · obtain ⟨T, rfl, _⟩ := h
    rfl
  obtain ⟨T, rfl, hT, qG, q⟩ := h
  refine ⟨_, (pss_cons (ps_if (pt_cmpR op_gt (pe_callB call_len_str (by rfl) z_len PySem.boot_len (pa_cons (pv 0) pa_nil)) (pe_glob (v := .int 2000) (by rfl) m_MOST_SIGNS ⟨_, rfl⟩) (nomark _)) (pss_one (ps_raise (by rfl) m_TooGreat x_TooGreat (pa_cons pe_str pa_nil))) pss_nil)
    (pss_cons (ps_if (pt_cmpR op_gt (pe_call G_most_open.ok hr (by rfl) G_most_open.gl G_most_open.kp G_most_open.bd .nil pass0 (pa_cons (pv 0) pa_nil)) (pe_glob (v := .int 16) (by rfl) m_MOST_OPEN ⟨_, rfl⟩) (nomark _)) (pss_one (ps_raise (by rfl) m_TooGreat x_TooGreat (pa_cons pe_str pa_nil))) pss_nil)
    (pss_one (ps_ret (pe_make MK_Reader G_Reader___init__.ok hr (by rfl) T_Reader.mgC G_Reader___init__.bd .nil pass0 (pa_cons (pv 0) pa_nil)))))), ?_⟩
  have d1 : 1 ≤ sizeLine := by decide
  refine ⟨_, rfl, T, rfl, line_of (by omega), _, _, rfl, rfl, _, rfl, ite2 (fun c => ?_) (fun c => ?_)⟩
  · have c' : (2000 : Int) < (T.length : Int) := of_decide_eq_true c
    exact ⟨d1, qG (.inl (by omega))⟩
  have c' : ¬ (2000 < T.length) := fun z => c (decide_eq_true (by show (2000 : Int) < (T.length : Int); omega))
  refine ⟨_, rfl, T, rfl, _, _, rfl, rfl, _, rfl, ite2 (fun c2 => ?_) (fun c2 => ?_)⟩
  · have c2' : (16 : Int) < (moF T.cps.toList : Int) := of_decide_eq_true c2
    exact ⟨d1, qG (.inr (by omega))⟩
  have c2' : ¬ (16 < moF T.cps.toList) := fun z => c2 (decide_eq_true (by show (16 : Int) < (moF T.cps.toList : Int); omega))
  refine ⟨_, rfl, ?_⟩
  intro x dx nx ndx nex
  refine ⟨x, dx, T, rfl, upd_same, by omega, fun H1 b1 rd1 => ⟨rfl, ?_⟩⟩
  refine q (fun z => z.elim c' c2') x H1 (fun b o e => ?_) nx rd1
  have nb : b ≠ x := ne_of_none e nx
  have nd : b ≠ dx := ne_of_none e ndx
  exact b1 b o nb (by rw [upd_ne nb, upd_ne nd]; exact e)
def sp_readF (cN cG : Addr) : Sp := fun vs H Q E => ∃ (T : Str), vs = [.str T] ∧ T.length ≤ 10000 ∧ (Great T → ∀ H', Same H H' → E (.ref cG) none H') ∧ (¬ Great T → (∀ t, shapeP 17 T.cps.toList = some (t, []) → ∀ v H', Same H H' → Rep H' t v → Q v H') ∧ ((∀ t, shapeP 17 T.cps.toList ≠ some (t, [])) → ∀ H', Same H H' → E (.ref cN) none H'))
theorem okF_read {k : Nat} {f C cN cG g1 g2 g3 : Addr} {fd gd1 gd2 gd3 : FuncData} (F : Fun K "read" "read" s_read f fd) (T_Reader : TxtR K mg C) (G_begun : FnF P w K mg base k "begun" g1 gd1 ["text"] (sp_begunF C cG)) (G_shape_from : FnF P w K mg base k "shape_from" g2 gd2 ["reader"] (sp_shapeF C cN 17))
    (G_Reader_skip_end : FnMF P w K mg base k C "skip_end" g3 gd3 ["self"] (sp_skip_endF C cN)) : FnOk P w K mg base (CXF P w) (k + 1) f fd ["text"] (sp_readF cN cG) := by
  refine F.okF sc_read (fun vs H Q E h => ?_) (fun cdv A outer s H vs Q E hr h => ?_)
  · obtain ⟨T, rfl, _⟩ := h
    rfl
  obtain ⟨T, rfl, hT, qG, q⟩ := h
  refine ⟨_, (pss_cons (ps_set (i := 1) sc_read.nd rfl (Or.inl rfl) (pe_call G_begun.ok hr (by rfl) G_begun.gl G_begun.kp G_begun.bd .nil cxf_pass (pa_cons (pv 0) pa_nil)))
    (pss_cons (ps_set (i := 2) sc_read.nd rfl (Or.inl rfl) (pe_call G_shape_from.ok hr (by rfl) G_shape_from.gl G_shape_from.kp G_shape_from.bd .nil cxf_pass (pa_cons (pv 1) pa_nil)))
    (pss_cons (ps_expr (pe_meth0 (pv 1) T_Reader.cl G_Reader_skip_end.mt G_Reader_skip_end.ok hr G_Reader_skip_end.bd .nil cxf_pass))
    (pss_one (ps_ret (pv 2)))))), ?_⟩
  refine ⟨_, rfl, T, rfl, hT, fun g => qG g H (.refl _), fun g r H1 g1 nr rd1 => ?_⟩
  obtain ⟨qs, qn⟩ := q g
  have sm : ∀ H', But r H1 H' → Same H H' := fun H' b x o e => b x o (ne_of_none e nr) (g1 x o e)
  have ho : opn T.cps.toList < 17 := by
    have := opn_le T.cps.toList
    have : ¬ 16 < moF T.cps.toList := fun z => g (.inr z)
    omega
  refine ⟨_, rfl, r, T, 0, rfl, rd1, by rw [List.drop_zero]; exact ho, OutP.mk (fun e H' b => ?_) fun t s2 e v H2 j2 b2 rd2 hs2 hv => ?_⟩
  · rw [List.drop_zero] at e
    exact qn (fun t z => by rw [e] at z; cases z) H' (sm H' b)
  rw [List.drop_zero] at e
  obtain ⟨⟨dx2, hr2⟩, _, _⟩ := id rd2
  refine ⟨_, rfl, r, dx2, _, rfl, hr2, rfl, r, T, j2, rfl, rd2, fun h => ?_, fun h => ?_⟩
  · rw [hs2] at h
    subst h
    exact ⟨_, rfl, qs t e v H2 (sm H2 b2) hv⟩
  · rw [hs2] at h
    exact qn (fun t' z => by rw [e] at z; cases z; exact h rfl) H2 (sm H2 b2)
def sp_ruleF (cN cG : Addr) : Sp := fun vs H Q E => ∃ (T : Str), vs = [.str T] ∧ T.length ≤ 10000 ∧ (Great T → ∀ H', Same H H' → E (.ref cG) none H') ∧ (¬ Great T → (∀ t s, shapeP 17 T.cps.toList = some (t, s) → (tx " -> ").isPrefixOf s = false) ∧ ∀ H', Same H H' → E (.ref cN) none H')
theorem okF_rule {k : Nat} {f C cN cG g1 g2 g3 : Addr} {fd gd1 gd2 gd3 : FuncData} (F : Fun K "read_rule" "read_rule" s_read_rule f fd) (T_Reader : TxtR K mg C) (G_begun : FnF P w K mg base k "begun" g1 gd1 ["text"] (sp_begunF C cG)) (G_shape_from : FnF P w K mg base k "shape_from" g2 gd2 ["reader"] (sp_shapeF C cN 17))
    (G_Reader_skip : FnMF P w K mg base k C "skip" g3 gd3 ["self", "piece"] (sp_skipF C cN)) : FnOk P w K mg base (CXF P w) (k + 1) f fd ["text"] (sp_ruleF cN cG) := by
  refine F.okF sc_read_rule (fun vs H Q E h => ?_) (fun cdv A outer s H vs Q E hr h => ?_)
  · obtain ⟨T, rfl, _⟩ := h
    rfl
  obtain ⟨T, rfl, hT, qG, q⟩ := h
  refine ⟨_, (pss_cons (ps_set (i := 1) sc_read_rule.nd rfl (Or.inl rfl) (pe_call G_begun.ok hr (by rfl) G_begun.gl G_begun.kp G_begun.bd .nil cxf_pass (pa_cons (pv 0) pa_nil)))
    (pss_cons (ps_set (i := 2) sc_read_rule.nd rfl (Or.inl rfl) (pe_call G_shape_from.ok hr (by rfl) G_shape_from.gl G_shape_from.kp G_shape_from.bd .nil cxf_pass (pa_cons (pv 1) pa_nil)))
    (pss_cons (ps_expr (pe_meth (pv 1) T_Reader.cl G_Reader_skip.mt G_Reader_skip.ok hr G_Reader_skip.bd .nil cxf_pass (pa_cons pe_str pa_nil)))
    (pss_cons ps_never (pss_cons ps_never (pss_cons ps_never (pss_one ps_never))))))), ?_⟩
  refine ⟨_, rfl, T, rfl, hT, fun g => qG g H (.refl _), fun g r H1 g1 nr rd1 => ?_⟩
  obtain ⟨qs, qn⟩ := q g
  have sm : ∀ H', But r H1 H' → Same H H' := fun H' b x o e => b x o (ne_of_none e nr) (g1 x o e)
  have ho : opn T.cps.toList < 17 := by
    have := opn_le T.cps.toList
    have : ¬ 16 < moF T.cps.toList := fun z => g (.inr z)
    omega
  refine ⟨_, rfl, r, T, 0, rfl, rd1, by rw [List.drop_zero]; exact ho, OutP.mk (fun e H' b => ?_) fun t s2 e v H2 j2 b2 rd2 hs2 hv => ?_⟩
  · exact qn H' (sm H' b)
  rw [List.drop_zero] at e
  obtain ⟨⟨dx2, hr2⟩, _, _⟩ := id rd2
  refine ⟨_, rfl, r, dx2, _, rfl, hr2, rfl, r, T, " -> ", j2, rfl, rd2, rep_arrow, fun h => ?_, fun s3 h H3 j3 b3 rd3 hs3 => ?_⟩
  · exact qn H2 (sm H2 b2)
  · rw [hs2] at h
    exact absurd (skP_some h).2 (by rw [show (Str.ofString " -> ").cps.toList.isPrefixOf s2 = false from qs t s2 e]; decide)
end
end K07
set_option Elab.async false
set_option linter.all false
set_option maxRecDepth 100000
set_option maxHeartbeats 4000000
namespace L2
open PySem PySem.Spec PyProof.Rows
section
variable {X : Cx}
def rEqSm (b : Bool) : R2 := fun x y H Q => ∃ (p r : Addr) (xs : List V), x = .ref p ∧ y = .ref r ∧ H p = some (.lst xs) ∧ H r = some (.lst xs) ∧ xs.all flatV = true ∧ (∀ x ∈ xs, eqV x x = true) ∧ Q (.bl b) H
theorem same_all {e : Nat → Bool} {xs : List V} (h : ∀ j x y, xs[j]? = some x → xs[j]? = some y → e j = eqV x y) (hs : ∀ x ∈ xs, eqV x x = true) : (List.range xs.length).all e = true := by
  rw [List.all_eq_true]
  intro j hj
  have hl := List.mem_range.mp hj
  have g := List.getElem?_eq_getElem hl
  rw [h j _ _ g g]
  exact hs _ (List.getElem_mem hl)
theorem op_eqSm (hu : X.A.units < cLine) : OpR X (compareOp .Eq) (rEqSm true) := by
  intro pins s σ H x y v u Q I rx ry h
  obtain ⟨p, r, xs, rfl, rfl, hp, hr, fx, hs, q⟩ := h
  cases rx
  cases ry
  obtain ⟨_, its, n, r1, l1, e1⟩ := I.lstM hp
  obtain ⟨_, its2, n2, r2, l2, e2⟩ := I.lstM hr
  have L1 : s.heap.IsList p its.toArray := ⟨_, e1, rfl, _, rfl⟩
  have L2 : s.heap.IsList r its2.toArray := ⟨_, e2, rfl, _, rfl⟩
  obtain ⟨e, h1, h2⟩ := eqL_all (A := X.A.in1) (s := s) r1 r2 fx fx
  refine SeqAt.eq_listAt L1 L2 (by simp; omega) hu h1 ?_
  have ez : its.toArray.size = xs.length := by simp; omega
  rw [ez, same_all h2 hs]
  exact ⟨.bl true, H, I, rfl, q⟩
theorem op_neSm (hu : X.A.units < cLine) : OpR X (compareOp .NotEq) (rEqSm false) := by
  intro pins s σ H x y v u Q I rx ry h
  obtain ⟨p, r, xs, rfl, rfl, hp, hr, fx, hs, q⟩ := h
  cases rx
  cases ry
  obtain ⟨_, its, n, r1, l1, e1⟩ := I.lstM hp
  obtain ⟨_, its2, n2, r2, l2, e2⟩ := I.lstM hr
  have L1 : s.heap.IsList p its.toArray := ⟨_, e1, rfl, _, rfl⟩
  have L2 : s.heap.IsList r its2.toArray := ⟨_, e2, rfl, _, rfl⟩
  obtain ⟨e, h1, h2⟩ := eqL_all (A := X.A.in1) (s := s) r1 r2 fx fx
  refine SeqAt.RcNeAt.lists L1 L2 (by simp; omega) hu h1 _ _ _ _ ?_
  have ez : its.toArray.size = xs.length := by simp; omega
  rw [ez, same_all h2 hs]
  exact ⟨.bl false, H, I, rfl, q⟩
def rMulS : R2 := fun x y H Q => ∃ (z : Str) (n : Int), x = .str z ∧ y = .int n ∧ n ≤ 100000 ∧ -100000 ≤ n ∧ z.length ≤ 100 ∧ Q (.str (Txt.mul z n)) H
theorem op_mulS : OpR X (binaryOp .Mult) rMulS := by
  intro pins s σ H x y v u Q I rx ry h
  obtain ⟨z, n, rfl, rfl, h1, h0, hz, q⟩ := h
  obtain ⟨t, rfl⟩ := rx
  obtain ⟨t', rfl⟩ := ry
  refine SB.mul ⟨?_, ?_, ?_⟩ fun t' k => ⟨.str _, H, I.tok k, ⟨t', rfl⟩, q⟩
  · rw [decide_eq_false (by omega), decide_eq_false (by omega)]
    rfl
  · intro h2 _ h3
    have h5 : (n : Int) * 100 ≤ 2 ^ 63 - 1 := by omega
    have h6 : (100 : Int) ≤ (2 ^ 63 - 1) / n := Int.le_ediv_of_mul_le (by omega) (by omega)
    omega
  · intro h2 _
    have : z.length * n.toNat ≤ 100 * 100000 := Nat.mul_le_mul hz (by omega)
    unfold Builtin.Str.tooLong
    exact decide_eq_false (by rw [sizeLine_eq]; omega)
end
theorem mul_list {z : Str} {n : Int} (h : 1 ≤ n) : (Txt.mul z n).cps.toList = (List.replicate n.toNat z.cps.toList).flatten := by
  have fold : ∀ (k : Nat) (a : Array Nat), ((List.replicate k z.cps).foldl (· ++ ·) a).toList = a.toList ++ (List.replicate k z.cps.toList).flatten := fun k => by
    induction k with
    | zero => intro a; simp
    | succ k ih => intro a; rw [List.replicate_succ, List.foldl_cons, ih, List.replicate_succ, List.flatten_cons]; simp
  unfold Txt.mul
  rw [if_neg (by omega)]
  split
  · rename_i hc
    rw [Bool.or_eq_true, beq_iff_eq, beq_iff_eq] at hc
    rcases hc with e | e
    · subst e
      simp
    · have : z.cps.toList = [] := by
        have := Array.length_toList (xs := z.cps)
        exact List.eq_nil_of_length_eq_zero (by rw [this]; exact e)
      rw [this]
      simp
  · have := fold n.toNat #[]
    simpa using this
theorem mul_zero {z : Str} {n : Int} (h : n < 1) : (Txt.mul z n).cps.toList = [] := by
  unfold Txt.mul
  rw [if_pos h]
  rfl
end L2
set_option Elab.async false
set_option linter.all false
set_option maxRecDepth 100000
set_option maxHeartbeats 4000000
namespace L2
open PySem PySem.Spec PyProof.Rows
section
variable {X : Cx} {o e : Expr} {es : List Expr} {te to : TE} {t : TA} {name x : Str} {apos cpos pos p : Pos} {T id : String}
theorem ps_exprS (he : Sd (PE X e te)) (hs : swapsWith e none pos.line X.env = pure false := by rfl) : Sd (PS X (.Expr e pos) (tDrop te)) := ⟨ps_expr he.un hs⟩
theorem pe_callTyS {r : List V → Hp → VK → Prop} (hc : CallR X (.type T) r) (hg : Gl X x) (hm : X.mg x = none) (hv : bootBuiltins x = some (.type T)) (ha : Sd (PA X (e :: es) t)) (hn : x ≠ "__name__" := by decide) (hdb : (x == ("__debug__" : Str)) = false := by decide)
    (he : starEach (e :: es) X.env = (false, eval e X.env) :: starEach es X.env := by rfl) (hpl : (backTo pos (starEach es X.env)).any (·.1) = false := by rfl) : Sd (PE X (.Call (.Name x p) (e :: es) [] pos) (tCB r t)) := ⟨pe_callTy hc hg hm hv ha.un hn hdb he hpl⟩
end
instance instDecDt : DecidableEq Dt := fun a b => decidable_of_iff (Dt.beq a b = true) Dt.beq_iff
def lookB (x : Str) : List Str → Option Nat
  | [] => none
  | y :: r => if y = x then some 0 else (lookB x r).map (· + 1)
def keyB (x : Str) (rs : List Str) : Nat ⊕ Str := match lookB x rs with
  | some k => .inl k
  | none => .inr x
def keyD : Nat ⊕ Str → Dt
  | .inl k => .tup [.str "bound", .int k]
  | .inr z => .tup [.str "free", .str z]
def bareN (x : Str) (bs : List Str) : Dt := keyD (keyB x bs.reverse)
def sn (x y : Str) : List (Str × Str) → Bool
  | [] => decide (x = y)
  | p :: r => if p.1 = x ∨ p.2 = y then decide (p.1 = x ∧ p.2 = y) else sn x y r
inductive Lf where
  | name (x : Str) | num (n : Int) | gap (g : Str) | ask (x : Str) | stop (x : Str)
def dtL : Lf → List Dt
  | .name x => [.str "name", .str x] | .num n => [.str "num", .int n] | .gap g => [.str "gap", .str g, .tup []] | .ask x => [.str "ask", .str x] | .stop x => [.str "stop", .str x]
def bareL (l : Lf) (bs : List Str) : Dt := match l with
  | .name x => bareN x bs
  | l => .tup (dtL l)
def Atom.lf : Atom → Lf
  | .name x => .name x | .num n => .num n | .gap g => .gap g
def bareA (bs : List Str) (a : Atom) : Dt := bareL a.lf bs
def bare : Tr → List Str → Dt
  | .num n, _ => .tup [.str "num", .int n]
  | .name x, bs => bareN x bs
  | .ask x, _ => .tup [.str "ask", .str x]
  | .stop x, _ => .tup [.str "stop", .str x]
  | .gap g as, bs => .tup [.str "gap", .str g, .tup (as.map (bareA bs))]
  | .say a, bs => .tup [.str "say", bare a bs]
  | .bin o a b, bs => .tup [.str o.s, bare a bs, bare b bs]
  | .ite a b c, bs => .tup [.str "if", bare a bs, bare b bs, bare c bs]
  | .lett x a b, bs => .tup [.str "let", bare a bs, bare b (bs ++ [x])]
end L2
set_option Elab.async false
set_option linter.all false
set_option maxRecDepth 100000
set_option maxHeartbeats 4000000
namespace L2
open PySem
theorem kept_m : ∀ y ∈ kept11, 1 ≤ (Str.ofString "m" ++ Txt.slice y (some 1) none).length ∧ (Str.ofString "m" ++ Txt.slice y (some 1) none).length ≤ 8 ∧ (∀ c ∈ (Str.ofString "m" ++ Txt.slice y (some 1) none).cps.toList, c ∈ abcS.cps.toList) ∧ (Str.ofString "m" ++ Txt.slice y (some 1) none) ∉ kept11 := by decide +kernel
theorem sIx_int {n d : Nat} {v : Int} (h0 : 0 ≤ v) (h1 : v ≤ n) : HT.sIx n d (some v) = v.toNat := by
  have e : ((v.toNat : Nat) : Int) = v := by omega
  rw [← e, HT.sIx_nat, Int.toNat_natCast]
  omega
theorem cutInts {ns : List Int} {lo hi : Option Int} {i j : Nat} (h1 : HT.sIx ns.length 0 lo = i) (h2 : HT.sIx ns.length ns.length hi = j) (h : j ≤ ns.length) : ∃ ms : List Int, cutV (ns.map V.int) lo hi = ms.map V.int ∧ ms.length = j - i := by
  refine ⟨(ns.drop i).take (j - i), ?_, ?_⟩
  · unfold cutV
    rw [List.length_map, h1, h2, ← List.map_drop, ← List.map_take]
  · rw [List.length_take, List.length_drop]
    omega
def isGap : Tr → Bool
  | .gap _ _ => true
  | _ => false
structure GdT (t : Tr) (n : Nat) (d : Int) : Prop where
  ok : TOk t
  len : (txT t).length ≤ 45 * n + 3
  op : (opT t : Int) ≤ d + 1
  dp : (dpT t : Int) ≤ d
  ng : isGap t = false
theorem gd_say {a : Tr} {n m : Nat} {d : Int} (h : GdT a m (d - 1)) (hn : m + 1 ≤ n) : GdT (.say a) n d := by
  obtain ⟨l1, l2, l3, l4, l5, l6, l7, l8, l9⟩ := tx_lens
  obtain ⟨h1, h2, h3, h4, _⟩ := h
  refine ⟨h1, ?_, by show ((opT a + 1 : Nat) : Int) ≤ _; omega, by show ((dpT a + 1 : Nat) : Int) ≤ _; omega, rfl⟩
  simp only [txT, List.length_append, l3, List.length_singleton]
  omega
theorem gd_bin {o : Bin} {a b : Tr} {n m k : Nat} {d : Int} (h : GdT a m (d - 1)) (h' : GdT b k (d - 1)) (hn : m + k + 1 ≤ n) : GdT (.bin o a b) n d := by
  obtain ⟨h1, h2, h3, h4, _⟩ := h
  obtain ⟨h1', h2', h3', h4', _⟩ := h'
  refine ⟨⟨h1, h1'⟩, ?_, by show ((max (opT a) (opT b) + 1 : Nat) : Int) ≤ _; omega, by show ((max (dpT a) (dpT b) + 1 : Nat) : Int) ≤ _; omega, rfl⟩
  simp only [txT, List.length_append, bw_len, List.length_singleton, List.length_cons]
  simp only [List.length_nil]
  omega
theorem gd_let {x : Str} {a b : Tr} {n m k : Nat} {d : Int} (hx : WOk x) (h : GdT a m (d - 1)) (h' : GdT b k (d - 1)) (hn : m + k + 1 ≤ n) : GdT (.lett x a b) n d := by
  obtain ⟨l1, l2, l3, l4, l5, l6, l7, l8, l9⟩ := tx_lens
  obtain ⟨h1, h2, h3, h4, _⟩ := h
  obtain ⟨h1', h2', h3', h4', _⟩ := h'
  have := hx.hi
  refine ⟨⟨hx, h1, h1'⟩, ?_, by show ((max (opT a) (opT b) + 1 : Nat) : Int) ≤ _; omega, by show ((max (dpT a) (dpT b) + 1 : Nat) : Int) ≤ _; omega, rfl⟩
  simp only [txT, List.length_append, l7, l8, l9, str_len, List.length_singleton]
  omega
def gapG : Tr := .gap "g" [.name "a", .num 7]
theorem wg : WOk "g" := ⟨by decide +kernel, by decide +kernel, by decide +kernel, by decide +kernel⟩
theorem wa : WOk "a" := ⟨by decide +kernel, by decide +kernel, by decide +kernel, by decide +kernel⟩
theorem gapG_ok : TOk gapG := ⟨wg, (fun a ha => by
  simp only [List.mem_cons, List.not_mem_nil, or_false] at ha
  rcases ha with rfl | rfl
  · exact wa
  · exact num_ok (by decide) (by decide)), by decide⟩
theorem num7 : (numT 7).cps.toList = [55] := by
  have e : numT 7 = Str.ofString (toString ((7 : Nat) : Int)) := rfl
  rw [e, PySem.W.KIN.signs_num, Nat.toDigits_of_lt_base (by decide)]
  decide +kernel
theorem num0 : (numT 0).cps.toList = [48] := by
  have e : numT 0 = Str.ofString (toString ((0 : Nat) : Int)) := rfl
  rw [e, PySem.W.KIN.signs_num, Nat.toDigits_of_lt_base (by decide)]
  decide +kernel
theorem gapG_txt : txT gapG = tx "?g[a 7]" := by
  have e : txT gapG = 63 :: ((Str.ofString "g").cps.toList ++ (91 :: ((Str.ofString "a").cps.toList ++ ((32 :: (numT 7).cps.toList ++ []) ++ [93])))) := rfl
  rw [e, num7]
  decide +kernel
theorem gd_ifg {a b : Tr} {n m k : Nat} {d : Int} (h : GdT a m (d - 1)) (h' : GdT b k (d - 1)) (hn : m + k + 1 ≤ n) (hd : 0 ≤ d - 1) : GdT (.ite a b gapG) n d := by
  obtain ⟨l1, l2, l3, l4, l5, l6, l7, l8, l9⟩ := tx_lens
  obtain ⟨h1, h2, h3, h4, _⟩ := h
  obtain ⟨h1', h2', h3', h4', _⟩ := h'
  refine ⟨⟨h1, h1', gapG_ok⟩, ?_, by show ((max (opT a) (max (opT b) 0) + 1 : Nat) : Int) ≤ _; omega, by show ((max (dpT a) (max (dpT b) 0) + 1 : Nat) : Int) ≤ _; omega, rfl⟩
  have e7 : (txT gapG).length = 7 := by rw [gapG_txt]; decide +kernel
  rw [txT]
  simp only [List.length_append, l4, l5, l6, e7, List.length_singleton]
  omega
theorem leaf3 {z d : Int} {n : Nat} (z0 : 0 ≤ z) (z2 : z < 3) (hn : 1 ≤ n) (hd : 0 ≤ d) : ∃ (s1 s2 : Str) (t : Str → Tr), atI [V.str "(ask ", V.str "(stop ", V.str ""] z = some (.str s1) ∧ atI [V.str ")", V.str ")", V.str ""] z = some (.str s2) ∧ s1.length ≤ 10 ∧ s2.length ≤ 1 ∧ ∀ x, WOk x → s1 ++ x ++ s2 = sOf (txT (t x)) ∧ GdT (t x) n d := by
  obtain ⟨l1, l2, _⟩ := tx_lens
  rcases (show z = 0 ∨ z = 1 ∨ z = 2 by omega) with rfl | rfl | rfl
  · refine ⟨"(ask ", ")", .ask, rfl, rfl, by decide +kernel, by decide +kernel, fun x wx => ⟨?_, wx, ?_, ?_, ?_, rfl⟩⟩
    · refine sOf_eq ?_
      rw [app_list, app_list, par_list.2.1, show (Str.ofString "(ask ").cps.toList = tx "(ask " from rfl]
      simp [txT]
    · have := wx.hi
      simp only [txT, List.length_append, l1, str_len, List.length_singleton]
      omega
    · show ((1 : Nat) : Int) ≤ _
      omega
    · show ((0 : Nat) : Int) ≤ _
      omega
  · refine ⟨"(stop ", ")", .stop, rfl, rfl, by decide +kernel, by decide +kernel, fun x wx => ⟨?_, wx, ?_, ?_, ?_, rfl⟩⟩
    · refine sOf_eq ?_
      rw [app_list, app_list, par_list.2.1, show (Str.ofString "(stop ").cps.toList = tx "(stop " from rfl]
      simp [txT]
    · have := wx.hi
      simp only [txT, List.length_append, l2, str_len, List.length_singleton]
      omega
    · show ((1 : Nat) : Int) ≤ _
      omega
    · show ((0 : Nat) : Int) ≤ _
      omega
  · refine ⟨"", "", .name, rfl, rfl, by decide +kernel, by decide +kernel, fun x wx => ⟨?_, wx, ?_, ?_, ?_, rfl⟩⟩
    · refine sOf_eq ?_
      rw [app_list, app_list, show (Str.ofString "").cps.toList = [] by decide +kernel, List.append_nil, List.nil_append]
      rfl
    · have := wx.hi
      show x.cps.toList.length ≤ _
      rw [str_len]
      omega
    · show ((0 : Nat) : Int) ≤ _
      omega
    · show ((0 : Nat) : Int) ≤ _
      omega
theorem num_gd {A0 d : Int} {n : Nat} (a0 : 0 ≤ A0) (a1 : A0 < 10 ^ 30) (hn : 1 ≤ n) (hd : 0 ≤ d) : GdT (.num A0) n d := by
  have ok := num_ok a0 a1
  refine ⟨ok, ?_, ?_, ?_, rfl⟩
  · show (numT A0).cps.toList.length ≤ _
    rw [str_len]
    have := ok.hi
    omega
  · show ((0 : Nat) : Int) ≤ _
    omega
  · show ((0 : Nat) : Int) ≤ _
    omega
theorem if_tail : tx " else ?g[a 7])" = tx " else " ++ (tx "?g[a 7]" ++ [41]) := by decide +kernel
end L2
namespace K07
open PySem PySem.Spec L2 PyProof.Rows
abbrev s_law_cell_at : Stmt := top 32
theorem sc_law_cell_at : FnScope ["_law_script", "_law_k"] ["_law_script", "_law_k"] (defScope s_law_cell_at) := ⟨rfl, rfl, rfl, by decide +kernel, rfl, by decide +kernel, by decide +kernel⟩
abbrev s_law_word : Stmt := top 33
theorem sc_law_word : FnScope ["_law_cell", "_law_letters", "_law_word_here", "_law_j"] ["_law_cell"] (defScope s_law_word) := ⟨rfl, rfl, rfl, by decide +kernel, rfl, by decide +kernel, by decide +kernel⟩
abbrev s_law_text : Stmt := top 34
theorem sc_law_text : FnScope ["_law_cells", "_law_deep", "_law_number", "_law_at", "_law_one", "_law_other"] ["_law_cells", "_law_deep"] (defScope s_law_text) := ⟨rfl, rfl, rfl, by decide +kernel, rfl, by decide +kernel, by decide +kernel⟩
section
variable {P : Program} {w : World} {K : PySem.W.Frag} {mg : Str → Option Value} {base : Heap}
def sp_cell_at (K : PySem.W.Frag) : Sp := fun vs H Q _ => ∃ (a : Addr) (ns : List Int) (k : Int), vs = [.ref a, .int k] ∧ SqL K H a (ns.map V.int) ∧ 0 ≤ k ∧ ∀ i : Int, Q (.int i) H
theorem ok_cell_at {k : Nat} {f : Addr} {fd : FuncData} (F : Fun K "_law_cell_at" "_law_cell_at" s_law_cell_at f fd) (z_len : mg "len" = none) : FnOk P w K mg base CX0 (k + 1) f fd ["_law_script", "_law_k"] (sp_cell_at K) := by
  refine F.ok sc_law_cell_at (fun vs H Q E h => ?_) (fun cdv A outer s H vs Q E hr h => ?_)
  · obtain ⟨a, ns, k, rfl, _⟩ := h
    rfl
  obtain ⟨a, ns, k, rfl, hS, h0, q⟩ := h
  refine ⟨_, (pss_cons (ps_if (pt_cmpR op_lt (pv 1) (pe_callB call_len_seq (by rfl) z_len PySem.boot_len (pa_cons (pv 0) pa_nil)) (nomark _)) (pss_one (ps_ret (pe_ix (r := rIxL K) ix_list (pv 0) (pv 1) (fun _ _ => rfl)))) pss_nil)
    (pss_one (ps_ret pe_int))), ?_⟩
  refine ⟨_, rfl, _, rfl, a, _, rfl, .inl hS, _, _, rfl, rfl, _, rfl, ?_⟩
  refine ite2 (fun c => ?_) (fun c => ?_)
  · have c' : k < ((ns.map V.int).length : Int) := of_decide_eq_true c
    obtain ⟨v, hv, e⟩ := atI_in h0 c'
    obtain ⟨i, _, rfl⟩ := List.mem_map.mp hv
    exact ⟨_, rfl, _, rfl, a, _, k, _, rfl, rfl, hS, e, q i⟩
  · exact q 0
def sp_lword : Sp := fun vs H Q _ => ∃ (c : Int), vs = [.int c] ∧ ∀ (x : Str) (H' : Hp), Same H H' → WOk x → Q (.str x) H'
theorem ok_lword {k : Nat} {f : Addr} {fd : FuncData} (F : Fun K "_law_word" "_law_word" s_law_word f fd) (z_range : mg "range" = none) : FnOk P w K mg base CX0 (k + 1) f fd ["_law_cell"] sp_lword := by
  refine F.ok sc_law_word (fun vs H Q E h => ?_) (fun cdv A outer s H vs Q E hr h => ?_)
  · obtain ⟨c, rfl, _⟩ := h
    rfl
  obtain ⟨c, rfl, q⟩ := h
  refine ⟨_, (pss_cons (ps_set (i := 1) sc_law_word.nd rfl (Or.inl rfl) pe_str)
    (pss_cons (ps_set (i := 2) sc_law_word.nd rfl (Or.inl rfl) pe_str)
    (pss_cons (ps_for PassesOwn.never rfl (pi_range1 (by rfl) z_range (pa_cons (pe_op op_add pe_int (pe_op op_mod (pv 0) pe_int)) pa_nil)) (pg_name (i := 3) sc_law_word.nd rfl (Or.inl rfl)) (pss_one (ps_set (i := 2) sc_law_word.nd rfl (Or.inl rfl) (pe_op op_add_str (pv 2) (pe_ix ix_str (pv 1) (pe_op op_mod (pe_op op_fdiv (pv 0) (pe_op op_add pe_int (pe_op op_mul pe_int (pv 3)))) pe_int) (fun _ _ => rfl))))))
    (pss_cons (ps_if (pt_cmpR (r := rIn K false) op_in_seq (pv 2) (pe_tupR [.str "let", .str "in", .str "if", .str "then", .str "else", .str "say", .str "ask", .str "stop", .str "where", .str "quiet", .str "number"] (by rfl) : PE _ _ _) rfl) (pss_one (ps_ret (pe_op op_add_str pe_str (pe_slice sl_str (pv 2) (po_some pe_int) po_none)))) pss_nil)
    (pss_one (ps_ret (pv 2))))))), ?_⟩
  have hLlen : abcS.length = 26 := by decide +kernel
  have hLl : ((abcS.cps.toList).length : Int) = 26 := by rw [str_len, hLlen]; rfl
  refine ⟨_, rfl, _, _, rfl, rfl, (show (0 : Int) < 8 by decide), _, _, rfl, rfl, 1 + c % 8, rfl, by omega, by omega, ?_⟩
  refine for_range (n := (1 + c % 8).toNat) (fun i σ' H' => ∃ (x : Str) (s3 : Option V), σ' = [some (.int c), some (.str abcS), some (.str x), s3] ∧ H' = H ∧ x.length = i ∧ ∀ d ∈ x.cps.toList, d ∈ abcS.cps.toList) ?_ ?_ ?_
  · exact ⟨_, none, rfl, rfl, by decide +kernel, by decide +kernel⟩
  · rintro i σ1 H1 hi ⟨x, s3, rfl, rfl, hx, hab⟩
    obtain ⟨ch, hch, e1⟩ := atI_in (xs := abcS.cps.toList) (i := (c / (9 + 4 * (0 + (i : Int)))) % 26) (by omega) (by omega)
    refine ⟨_, rfl, _, rfl, _, rfl, _, rfl, _, _, rfl, rfl, .inl ⟨(by decide), (by decide)⟩, _, _, rfl, rfl, _, _, rfl, rfl, ⟨(by omega), (by omega)⟩, _, _, rfl, rfl, (show (0 : Int) < 26 by decide), abcS, _, ch, rfl, rfl, line1000 (by rw [hLlen]; decide), e1, _, _, rfl, rfl, line1000 ?_, ?_⟩
    · show x.length + 1 ≤ 1000
      omega
    · refine ⟨_, _, rfl, rfl, ?_, ?_⟩
      · have : (x ++ (⟨#[ch]⟩ : Str)).length = x.length + 1 := by
          show (x.cps ++ #[ch]).size = x.cps.size + 1
          simp
        omega
      · intro d hd
        rw [app_list] at hd
        rcases List.mem_append.mp hd with h | h
        · exact hab d h
        · have : d = ch := by simpa using h
          rw [this]
          exact hch
  · rintro σ1 H1 ⟨x, s3, rfl, rfl, hx, hab⟩
    refine ⟨_, rfl, (by show 11 ≤ sizeLine; decide), fun p hp => ⟨p, kept11.map V.str, rfl, .inr (SqT.of upd_same), rfl, rfl, _, rfl, ?_⟩⟩
    refine ite2 (fun hin => ?_) (fun hin => ?_)
    · obtain ⟨k1, k2, k3, k4⟩ := kept_m x (kept_in hin)
      refine ⟨_, rfl, _, rfl, x, rfl, line1000 (by omega), fun hle => ⟨_, _, rfl, rfl, line1000 ?_, q _ _ (same_upd hp) ⟨k1, k2, k3, k4⟩⟩⟩
      have : (Str.ofString "m").length = 1 := by decide +kernel
      omega
    · refine ⟨_, rfl, q _ _ (same_upd hp) ⟨by omega, by omega, hab, fun z => hin ?_⟩⟩
      show inV (.str x) (kept11.map V.str) = true
      unfold inV
      exact List.any_eq_true.mpr ⟨.str x, List.mem_map_of_mem z, by rw [eqV_str]⟩
def sp_text (K : PySem.W.Frag) (n : Nat) : Sp := fun vs H Q _ => ∃ (a : Addr) (ns : List Int) (d : Int), vs = [.ref a, .int d] ∧ SqL K H a (ns.map V.int) ∧ ns.length ≤ 63 ∧ 0 ≤ d ∧ d < n ∧ d ≤ 12 ∧
  ∀ (t : Tr) (H' : Hp), Same H H' → GdT t ns.length d → Q (.str (sOf (txT t))) H'
theorem ok_text {k n : Nat} {f g1 : Addr} {fd gd1 : FuncData} (F : Fun K "_law_text" "_law_text" s_law_text f fd) (z_len : mg "len" = none) (z_str : mg "str" = none) (G_law_word : FnB P w K mg base k "_law_word" g1 gd1 ["_law_cell"] sp_lword)
    (G_law_text : FnB P w K mg base k "_law_text" f fd ["_law_cells", "_law_deep"] (sp_text K n)) : FnOk P w K mg base CX0 (k + 1) f fd ["_law_cells", "_law_deep"] (sp_text K (n + 1)) := by
  refine F.ok sc_law_text (fun vs H Q E h => ?_) (fun cdv A outer s H vs Q E hr h => ?_)
  · obtain ⟨a, ns, d, rfl, _⟩ := h
    rfl
  obtain ⟨a, ns, d, rfl, hS, h63, hd0, hdn, h12, q⟩ := h
  refine ⟨_, (Sd.un (pss_consS (ps_ifS ⟨pt_cmpR op_eq (pe_callB call_len_seq (by rfl) z_len PySem.boot_len (pa_cons (pv 0) pa_nil)) pe_int (nomark _)⟩ (pss_oneS (ps_retS ⟨pe_str⟩)) ⟨pss_nil⟩)
    (pss_consS (ps_setS (i := 2) sc_law_text.nd rfl (Or.inl rfl) ⟨pe_op op_mod (pe_op op_mul (pe_ix (r := rIxL K) ix_list (pv 0) pe_int (fun _ _ => rfl)) pe_int) pe_int⟩)
    (pss_consS (ps_ifS ⟨(pw_or (pt_cmpR op_eq (pe_callB call_len_seq (by rfl) z_len PySem.boot_len (pa_cons (pv 0) pa_nil)) pe_int (nomark _)) (pw_or1 (pt_cmpR op_eq (pv 1) pe_int (nomark _)))).pt⟩ (pss_consS (ps_ifS ⟨pt_cmpR op_eq (pe_op op_mod (pv 2) pe_int) pe_int (nomark _)⟩ (pss_oneS (ps_retS (pe_callTyS call_str1 (by rfl) z_str PyProof.Rows.boot_str (pa_consS ⟨pe_op op_mod (pe_ix (r := rIxL K) ix_list (pv 0) pe_int (fun _ _ => rfl)) (pe_op op_pow pe_int pe_int)⟩ ⟨pa_nil⟩)))) ⟨pss_nil⟩)
    (pss_oneS (ps_retS ⟨pe_op op_add_str (pe_op op_add_str (pe_ix (r := rIxL K) ix_list (pe_lstR [.str "(ask ", .str "(stop ", .str ""] (by rfl) : PE _ _ _) (pe_op op_add (pe_op op_sub (pe_op op_mod (pv 2) pe_int) pe_int) (pe_op op_mod (pe_op op_fdiv (pv 2) pe_int) pe_int)) (fun _ _ => rfl)) (pe_call G_law_word.ok hr (by rfl) G_law_word.gl G_law_word.kp G_law_word.bd .nil pass0 (pa_cons (pe_op op_fdiv (pv 2) pe_int) pa_nil))) (pe_ix (r := rIxL K) ix_list (pe_lstR [.str ")", .str ")", .str ""] (by rfl) : PE _ _ _) (pe_op op_add (pe_op op_sub (pe_op op_mod (pv 2) pe_int) pe_int) (pe_op op_mod (pe_op op_fdiv (pv 2) pe_int) pe_int)) (fun _ _ => rfl))⟩))) ⟨pss_nil⟩)
    (pss_consS (ps_setS (i := 3) sc_law_text.nd rfl (Or.inl rfl) ⟨pe_op op_add pe_int (pe_op op_mod (pe_op op_fdiv (pv 2) pe_int) (pe_callB call_len_seq (by rfl) z_len PySem.boot_len (pa_cons (pv 0) pa_nil)))⟩)
    (pss_consS (ps_setS (i := 4) sc_law_text.nd rfl (Or.inl rfl) ⟨pe_call G_law_text.ok hr (by rfl) G_law_text.gl G_law_text.kp G_law_text.bd .nil pass0 (pa_cons (pe_slice (r := rSlL K) sl_list (pv 0) (po_some pe_int) (po_some (pv 3))) (pa_cons (pe_op op_sub (pv 1) pe_int) pa_nil))⟩)
    (pss_consS (ps_setS (i := 5) sc_law_text.nd rfl (Or.inl rfl) ⟨pe_call G_law_text.ok hr (by rfl) G_law_text.gl G_law_text.kp G_law_text.bd .nil pass0 (pa_cons (pe_slice (r := rSlL K) sl_list (pv 0) (po_some (pv 3)) po_none) (pa_cons (pe_op op_sub (pv 1) pe_int) pa_nil))⟩)
    (pss_consS (ps_ifS ⟨pt_cmpR op_eq (pe_op op_mod (pv 2) pe_int) pe_int (nomark _)⟩ (pss_oneS (ps_retS ⟨pe_op op_add_str (pe_op op_add_str pe_str (pv 4)) pe_str⟩)) ⟨pss_nil⟩)
    (pss_consS (ps_ifS ⟨pt_cmpR op_eq (pe_op op_mod (pv 2) pe_int) pe_int (nomark _)⟩ (pss_oneS (ps_retS ⟨pe_op op_add_str (pe_op op_add_str (pe_op op_add_str (pe_op op_add_str (pe_op op_add_str (pe_op op_add_str pe_str (pe_call G_law_word.ok hr (by rfl) G_law_word.gl G_law_word.kp G_law_word.bd .nil pass0 (pa_cons (pe_op op_fdiv (pv 2) pe_int) pa_nil))) pe_str) (pv 4)) pe_str) (pv 5)) pe_str⟩)) ⟨pss_nil⟩)
    (pss_consS (ps_ifS ⟨pt_cmpR op_eq (pe_op op_mod (pv 2) pe_int) pe_int (nomark _)⟩ (pss_oneS (ps_retS ⟨pe_op op_add_str (pe_op op_add_str (pe_op op_add_str (pe_op op_add_str pe_str (pv 4)) pe_str) (pv 5)) pe_str⟩)) ⟨pss_nil⟩)
    (pss_oneS (ps_retS ⟨pe_op op_add_str (pe_op op_add_str (pe_op op_add_str (pe_op op_add_str pe_str (pv 4)) (pe_ix (r := rIxL K) ix_list (pe_lstR [.str " + ", .str " - ", .str " * ", .str " ; "] (by rfl) : PE _ _ _) (pe_op op_mod (pe_op op_fdiv (pv 2) pe_int) pe_int) (fun _ _ => rfl))) (pv 5)) pe_str⟩)))))))))))), ?_⟩
  have d3 : 3 ≤ sizeLine := by decide
  have d4 : 4 ≤ sizeLine := by decide
  have hlen : (ns.map V.int).length = ns.length := List.length_map _
  obtain ⟨l1, l2, l3, l4, l5, l6, l7, l8, l9⟩ := tx_lens
  obtain ⟨pp1, pp2⟩ := tx_par
  have o3 : (tx ")").length = 1 := by decide +kernel
  refine ⟨_, rfl, a, _, rfl, .inl hS, rfl, _, rfl, ?_⟩
  refine ite2 (fun _ => ?_) (fun c0 => ?_)
  · have e : Str.ofString "0" = sOf (txT (.num 0)) := sOf_eq (by show _ = (numT 0).cps.toList; rw [num0]; decide +kernel)
    rw [e]
    exact q (.num 0) H (.refl _) ⟨num_ok (by decide) (by decide), by show (numT 0).cps.toList.length ≤ _; rw [num0]; simp, by show ((0 : Nat) : Int) ≤ _; omega, by show ((0 : Nat) : Int) ≤ _; omega, rfl⟩
  have c0' : ns.length ≠ 0 := fun z => c0 (decide_eq_true (by rw [hlen, z]; rfl))
  obtain ⟨v0, hv0, e0⟩ := atI_in (xs := ns.map V.int) (i := 0) (Int.le_refl 0) (by rw [hlen]; omega)
  obtain ⟨i0, _, rfl⟩ := List.mem_map.mp hv0
  refine ⟨_, rfl, a, _, 0, _, rfl, rfl, hS, e0, _, _, rfl, rfl, .inr ⟨by decide, by decide⟩, _, _, rfl, rfl, (show (0 : Int) < 2147483647 by decide), ?_⟩
  dsimp only
  generalize hN : i0 * 16807 % 2147483647 = N
  refine ⟨_, rfl, a, _, rfl, .inl hS, rfl, _, rfl, ?_⟩
  refine ite2 (fun _ => ?leafA) (fun c1 => ⟨_, rfl, rfl, _, rfl, ite2 (fun _ => ?leafB) (fun c2 => ?rest)⟩)
  case leafA | leafB =>
    refine ⟨_, rfl, _, _, rfl, rfl, (show (0 : Int) < 3 by decide), rfl, _, rfl, ite2 (fun _ => ?_) (fun c3 => ?_)⟩
    · refine ⟨_, rfl, a, _, 0, _, rfl, rfl, hS, e0, _, _, rfl, rfl, ⟨by decide, by decide, by decide⟩, _, _, rfl, rfl, (show (0 : Int) < 10 ^ 30 by decide), .inr ⟨_, rfl, ?_, ?_⟩⟩
      · exact abits (Int.emod_nonneg _ (by decide)) (Int.emod_lt_of_pos _ (by decide))
      · have a0 : 0 ≤ i0 % (10 ^ (30 : Int).toNat) := Int.emod_nonneg _ (by decide)
        have a1 : i0 % (10 ^ (30 : Int).toNat) < 10 ^ 30 := Int.emod_lt_of_pos _ (by decide)
        show Q (.str (numT (i0 % (10 ^ (30 : Int).toNat)))) H
        generalize i0 % (10 ^ (30 : Int).toNat) = A0 at a0 a1 ⊢
        rw [sOf_eq (x := numT A0) (l := txT (.num A0)) rfl]
        exact q (.num A0) H (.refl _) (num_gd a0 a1 (by omega) hd0)
    · have c3' : N % 3 ≠ 0 := fun z => c3 (decide_eq_true (by show V.int (N % 3) = V.int 0; rw [z]))
      generalize hz : N % 3 - 1 + N / 3 % 2 = z
      have z0 : 0 ≤ z := by omega
      have z2 : z < 3 := by omega
      obtain ⟨s1, s2, t, e1, e2, k1, k2, kk⟩ := leaf3 (d := d) (n := ns.length) z0 z2 (by omega) hd0
      refine ⟨d3, fun p1 hp1 => ⟨_, rfl, _, _, rfl, rfl, (show (0 : Int) < 3 by decide), _, _, rfl, rfl, _, rfl, _, _, rfl, rfl, ⟨(show (0 : Int) < 3 by decide), (show (3 : Int) < 1073741824 by decide)⟩, _, _, rfl, rfl, (show (0 : Int) < 2 by decide), _, _, rfl, rfl, p1, _, _, _, rfl, rfl, SqL.of upd_same, (show atI _ (N % 3 - 1 + N / 3 % 2) = _ by rw [hz]; exact e1), ?_⟩⟩
      have g1 := same_upd (o := .lst [V.str "(ask ", V.str "(stop ", V.str ""]) hp1
      refine ⟨_, rfl, _, _, rfl, rfl, ⟨(show (0 : Int) < 6 by decide), (show (6 : Int) < 1073741824 by decide)⟩, _, rfl, fun x H1 g2 wx => ⟨_, _, rfl, rfl, line_of (by have := wx.hi; omega), ?_⟩⟩
      refine ⟨d3, fun p2 hp2 => ⟨_, rfl, _, _, rfl, rfl, (show (0 : Int) < 3 by decide), _, _, rfl, rfl, _, rfl, _, _, rfl, rfl, ⟨(show (0 : Int) < 3 by decide), (show (3 : Int) < 1073741824 by decide)⟩, _, _, rfl, rfl, (show (0 : Int) < 2 by decide), _, _, rfl, rfl, p2, _, _, _, rfl, rfl, SqL.of upd_same, (show atI _ (N % 3 - 1 + N / 3 % 2) = _ by rw [hz]; exact e2), _, _, rfl, rfl, line_of (by have := wx.hi; rw [strLen_append]; omega), ?_⟩⟩
      have g3 := same_upd (o := .lst [V.str ")", V.str ")", V.str ""]) hp2
      rw [(kk x wx).1]
      exact q (t x) _ (g1.trans (g2.trans g3)) (kk x wx).2
  case rest =>
    have c2' : d ≠ 0 := fun z => c2 (decide_eq_true (by rw [z]))
    refine ⟨_, rfl, _, _, rfl, rfl, ⟨(show (0 : Int) < 5 by decide), (show (5 : Int) < 1073741824 by decide)⟩, _, rfl, a, _, rfl, .inl hS, _, _, rfl, rfl, (by rw [hlen]; omega), _, _, rfl, rfl, ?_⟩
    obtain ⟨at_, hat, hat0, hat1⟩ : ∃ at_ : Int, 1 + N / 5 % ((ns.map V.int).length : Int) = at_ ∧ 1 ≤ at_ ∧ at_ ≤ ns.length :=
      ⟨_, rfl, by have := Int.emod_nonneg (N / 5) (show ((ns.map V.int).length : Int) ≠ 0 by rw [hlen]; omega); omega, by have := Int.emod_lt_of_pos (N / 5) (show (0 : Int) < ((ns.map V.int).length : Int) by rw [hlen]; omega); rw [hlen] at this ⊢; omega⟩
    dsimp only
    rw [hat]
    obtain ⟨m1, em1, lm1⟩ := cutInts (ns := ns) (lo := some 1) (hi := some at_) (i := 1) (j := at_.toNat) (sIx_int (by decide) (by omega)) (sIx_int (by omega) hat1) (by omega)
    obtain ⟨m2, em2, lm2⟩ := cutInts (ns := ns) (lo := some at_) (hi := none) (i := at_.toNat) (j := ns.length) (sIx_int (by omega) hat1) rfl (Nat.le_refl _)
    refine ⟨_, rfl, _, rfl, _, rfl, _, rfl, a, _, rfl, hS, fun p1 hp1 => ?_⟩
    rw [em1]
    have g1 := same_upd (o := .lst (m1.map V.int)) hp1
    refine ⟨_, rfl, _, _, rfl, rfl, p1, m1, d - 1, rfl, SqL.of upd_same, by omega, by omega, by omega, by omega, fun t1 H1 g2 gd1 => ?_⟩
    have gA := g1.trans g2
    refine ⟨_, rfl, _, rfl, _, rfl, a, _, rfl, gA.seq hS, fun p2 hp2 => ?_⟩
    rw [em2]
    have g3 := same_upd (o := .lst (m2.map V.int)) hp2
    refine ⟨_, rfl, _, _, rfl, rfl, p2, m2, d - 1, rfl, SqL.of upd_same, by omega, by omega, by omega, by omega, fun t2 H2 g4 gd2 => ?_⟩
    have gB := gA.trans (g3.trans g4)
    have len1 := gd1.len
    have len2 := gd2.len
    refine ⟨_, rfl, _, _, rfl, rfl, (show (0 : Int) < 5 by decide), rfl, _, rfl, ite2 (fun _ => ?_) (fun _ => ?_)⟩
    · rw [str_tx "(say ", str_tx ")"]
      refine ⟨_, rfl, _, _, rfl, rfl, line_of (by rw [sOf_len, sOf_len]; omega), ?_⟩
      rw [sOf_app]
      refine ⟨_, _, rfl, rfl, line_of (by rw [sOf_len, sOf_len]; simp only [List.length_append]; omega), ?_⟩
      rw [sOf_app, List.append_assoc, pp2]
      exact q (.say t1) H2 gB (gd_say gd1 (by omega))
    refine ⟨_, rfl, _, _, rfl, rfl, (show (0 : Int) < 5 by decide), rfl, _, rfl, ite2 (fun _ => ?_) (fun _ => ?_)⟩
    · rw [str_tx "(let ", str_tx " = ", str_tx " in ", str_tx ")"]
      refine ⟨_, rfl, _, _, rfl, rfl, ⟨(show (0 : Int) < 25 by decide), (show (25 : Int) < 1073741824 by decide)⟩, _, rfl, fun x H3 g5 wx => ⟨_, _, rfl, rfl, line_of (by have := wx.hi; rw [sOf_len]; omega), ?_⟩⟩
      have hx8 := wx.hi
      have lx := str_len x
      rw [show sOf (tx "(let ") ++ x = sOf (tx "(let " ++ x.cps.toList) from sOf_eq (by rw [app_list, sOf_list])]
      refine ⟨_, _, rfl, rfl, line_of (by rw [sOf_len, sOf_len]; simp only [List.length_append]; omega), ?_⟩
      rw [sOf_app]
      refine ⟨_, rfl, _, _, rfl, rfl, line_of (by rw [sOf_len, sOf_len]; simp only [List.length_append]; omega), ?_⟩
      rw [sOf_app]
      refine ⟨_, _, rfl, rfl, line_of (by rw [sOf_len, sOf_len]; simp only [List.length_append]; omega), ?_⟩
      rw [sOf_app]
      refine ⟨_, rfl, _, _, rfl, rfl, line_of (by rw [sOf_len, sOf_len]; simp only [List.length_append]; omega), ?_⟩
      rw [sOf_app]
      refine ⟨_, _, rfl, rfl, line_of (by rw [sOf_len, sOf_len]; simp only [List.length_append]; omega), ?_⟩
      rw [sOf_app]
      simp only [List.append_assoc, pp2]
      exact q (.lett x t1 t2) H3 (gB.trans g5) (gd_let wx gd1 gd2 (by omega))
    refine ⟨_, rfl, _, _, rfl, rfl, (show (0 : Int) < 5 by decide), rfl, _, rfl, ite2 (fun _ => ?_) (fun _ => ?_)⟩
    · rw [str_tx "(if ", str_tx " then ", str_tx " else ?g[a 7])"]
      have l14 : (tx " else ?g[a 7])").length = 14 := by decide +kernel
      refine ⟨_, rfl, _, _, rfl, rfl, line_of (by rw [sOf_len, sOf_len]; omega), ?_⟩
      rw [sOf_app]
      refine ⟨_, _, rfl, rfl, line_of (by rw [sOf_len, sOf_len]; simp only [List.length_append]; omega), ?_⟩
      rw [sOf_app]
      refine ⟨_, rfl, _, _, rfl, rfl, line_of (by rw [sOf_len, sOf_len]; simp only [List.length_append]; omega), ?_⟩
      rw [sOf_app]
      refine ⟨_, _, rfl, rfl, line_of (by rw [sOf_len, sOf_len]; simp only [List.length_append]; omega), ?_⟩
      rw [sOf_app, if_tail]
      have := q (.ite t1 t2 gapG) H2 gB (gd_ifg gd1 gd2 (by omega) (by omega))
      simp only [List.append_assoc]
      rw [txT, gapG_txt] at this
      exact this
    · obtain ⟨o, ho⟩ : ∃ o : Bin, atI [V.str " + ", V.str " - ", V.str " * ", V.str " ; "] (N / 25 % 4) = some (.str (Str.ofString (bwT o))) := by
        rcases (show N / 25 % 4 = 0 ∨ N / 25 % 4 = 1 ∨ N / 25 % 4 = 2 ∨ N / 25 % 4 = 3 by omega) with e | e | e | e <;> rw [e]
        · exact ⟨.add, rfl⟩
        · exact ⟨.sub, rfl⟩
        · exact ⟨.mul, rfl⟩
        · exact ⟨.thn, rfl⟩
      have hb3 := bw_len o
      rw [str_tx "(", str_tx ")"]
      have o1 : (tx "(").length = 1 := by decide +kernel
      refine ⟨_, rfl, _, _, rfl, rfl, line_of (by rw [sOf_len, sOf_len]; omega), ?_⟩
      rw [sOf_app]
      refine ⟨d4, fun p3 hp3 => ⟨_, rfl, _, _, rfl, rfl, ⟨(show (0 : Int) < 25 by decide), (show (25 : Int) < 1073741824 by decide)⟩, _, _, rfl, rfl, (show (0 : Int) < 4 by decide), p3, _, _, _, rfl, rfl, SqL.of upd_same, ho, ?_⟩⟩
      have g5 := same_upd (o := .lst [V.str " + ", V.str " - ", V.str " * ", V.str " ; "]) hp3
      rw [str_tx (bwT o)]
      refine ⟨_, _, rfl, rfl, line_of (by rw [sOf_len, sOf_len]; simp only [List.length_append]; omega), ?_⟩
      rw [sOf_app]
      refine ⟨_, rfl, _, _, rfl, rfl, line_of (by rw [sOf_len, sOf_len]; simp only [List.length_append]; omega), ?_⟩
      rw [sOf_app]
      refine ⟨_, _, rfl, rfl, line_of (by rw [sOf_len, sOf_len]; simp only [List.length_append]; omega), ?_⟩
      rw [sOf_app]
      have := q (.bin o t1 t2) _ (gB.trans g5) (gd_bin gd1 gd2 (by omega))
      simp only [List.append_assoc, pp1, pp2]
      exact this
theorem no_text {k : Nat} {f : Addr} {fd : FuncData} : FnOk P w K mg base CX0 k f fd ["_law_cells", "_law_deep"] (sp_text K 0) := by
  have no : ∀ vs H Q E, ¬ sp_text K 0 vs H Q E := fun vs H Q E h => by
    obtain ⟨a, ns, d, _, _, _, h1, h2, _⟩ := h
    omega
  exact ⟨fun vs H Q E h => absurd h (no vs H Q E), fun A outer s H args us vs Q E _ _ _ _ h => absurd h (no vs H Q E)⟩
theorem all_text {k : Nat} {f g1 : Addr} {fd gd1 : FuncData} (F : Fun K "_law_text" "_law_text" s_law_text f fd) (b : Binds K fd ["_law_cells", "_law_deep"] []) (m : mg "_law_text" = some (.ref f)) (z_len : mg "len" = none) (z_str : mg "str" = none) (G : FnB P w K mg base k "_law_word" g1 gd1 ["_law_cell"] sp_lword) :
    ∀ n : Nat, FnB P w K mg base (k + n) "_law_text" f fd ["_law_cells", "_law_deep"] (sp_text K n)
  | 0 => ⟨no_text, b, F.kp, m⟩
  | n + 1 => ⟨ok_text F z_len z_str (G.up (Nat.le_add_right _ _)) (all_text F b m z_len z_str G n), b, F.kp, m⟩
end
end K07
set_option Elab.async false
set_option linter.all false
set_option maxRecDepth 100000
set_option maxHeartbeats 4000000
namespace L2
open PySem
def Bad (s : Sg) : Prop := ∀ t r, shapeP 17 s = some (t, r) → r ≠ [] ∧ (tx " -> ").isPrefixOf r = false
def badB (s : Sg) : Bool := match shapeP 17 s with
  | none => true
  | some (_, r) => !r.isEmpty && !(tx " -> ").isPrefixOf r
theorem bad_of {s : Sg} (h : badB s = true) : Bad s := fun t r e => by
  unfold badB at h
  rw [e] at h
  dsimp only at h
  rw [Bool.and_eq_true, Bool.not_eq_true', Bool.not_eq_true'] at h
  exact ⟨fun z => by rw [z] at h; exact absurd h.1 (by decide), h.2⟩
theorem bad_none {s : Sg} (h : shapeP 17 s = none) : Bad s := fun t r e => by rw [h] at e; cases e
theorem bad_some {s : Sg} {t : Tr} {r : Sg} (h : shapeP 17 s = some (t, r)) (h1 : r ≠ []) (h2 : (tx " -> ").isPrefixOf r = false) : Bad s := fun t' r' e => by
  rw [h] at e
  cases e
  exact ⟨h1, h2⟩
def arrow : Sg := tx " -> ?a"
theorem arrow_list : arrow = [32, 45, 62, 32, 63, 97] ∧ tx " -> " = [32, 45, 62, 32] := by decide +kernel
def Tail (z : Sg) : Prop := z = [] ∨ z = arrow
theorem Tail.end_ {z : Sg} (h : Tail z) : EndOk z := by
  rcases h with rfl | rfl
  · exact end_nil
  · rw [arrow_list.1]
    exact end_cons (by decide +kernel)
theorem no40 {c : Nat} {l : Sg} (h : c ≠ 40) : skP [40] (c :: l) = none := skP_no (by rw [one_pre]; exact decide_eq_false (by simp [h]))
theorem no63 {c : Nat} {l : Sg} (h : c ≠ 63) : skP [63] (c :: l) = none := skP_no (by rw [one_pre]; exact decide_eq_false (by simp [h]))
theorem shape_odd {n : Nat} {c : Nat} {l : Sg} (h : isAbc c = false ∧ isFig c = false ∧ c ≠ 40 ∧ c ≠ 63) : shapeP n (c :: l) = none := by
  cases n with
  | zero => rfl
  | succ n =>
    rw [shapeP, no40 h.2.2.1, no63 h.2.2.2]
    dsimp only
    have e1 : figB (c :: l) = false := h.2.1
    have e2 : wordP (c :: l) = none := by
      unfold wordP
      rw [List.takeWhile_cons, h.1]
      exact if_neg (fun z => absurd (show 1 ≤ ([] : Sg).length from z.1) (by decide))
    unfold pleafP
    rw [e1, e2]
    rfl
theorem odd_signs : ∀ c ∈ [32, 41, 10, 9, 43, 45, 42, 59], isAbc c = false ∧ isFig c = false ∧ c ≠ 40 ∧ c ≠ 63 := by decide +kernel
theorem tree_head {t : Tr} (ok : TOk t) (r : Sg) : ∃ c l, txT t ++ r = c :: l ∧ c ∉ [32, 41, 10, 9, 43, 45, 42, 59] := by
  obtain ⟨e1, e2, e3, e4, e5⟩ := tx_open
  have kA : ∀ c ∈ abcS.cps.toList, c ∉ [32, 41, 10, 9, 43, 45, 42, 59] := by decide +kernel
  have kF : ∀ c ∈ figS.cps.toList, c ∉ [32, 41, 10, 9, 43, 45, 42, 59] := by decide +kernel
  have mk : ∀ {s : Sg} {c : Nat}, s.head? = some c → c ∉ [32, 41, 10, 9, 43, 45, 42, 59] → ∃ c l, s = c :: l ∧ c ∉ [32, 41, 10, 9, 43, 45, 42, 59] := fun {s c} h hc => by
    cases s with
    | nil => cases h
    | cons d l => cases h; exact ⟨_, l, rfl, hc⟩
  have k40 : (40 : Nat) ∉ [32, 41, 10, 9, 43, 45, 42, 59] := by decide
  cases t with
  | num n => obtain ⟨c, hc, e⟩ := head_in (NOk.lo ok) r; exact mk e (kF c (NOk.fg ok c hc))
  | name x => obtain ⟨c, hc, e⟩ := head_in (WOk.lo ok) r; exact mk e (kA c (WOk.ab ok c hc))
  | gap g as => exact ⟨63, _, rfl, by decide⟩
  | ask x => exact mk (c := 40) (by simp [txT, e1]) k40
  | stop x => exact mk (c := 40) (by simp [txT, e2]) k40
  | say a => exact mk (c := 40) (by simp [txT, e3]) k40
  | bin o a b => exact mk (c := 40) rfl k40
  | ite a b c => exact mk (c := 40) (by simp [txT, e4]) k40
  | lett x a b => exact mk (c := 40) (by simp [txT, e5]) k40
theorem bin_no {s : Sg} (h : ∀ o : Bin, (tx (bwT o)).isPrefixOf s = false) : binP s = none := by
  unfold binP
  rw [show skP (tx " + ") s = none from skP_no (h .add), show skP (tx " - ") s = none from skP_no (h .sub), show skP (tx " * ") s = none from skP_no (h .mul), show skP (tx " ; ") s = none from skP_no (h .thn)]
theorem bin_head {c : Nat} {l : Sg} (h : c ≠ 32) : binP (c :: l) = none := by
  obtain ⟨e1, e2, e3, e4⟩ := bw_lists
  refine bin_no fun o => ?_
  have : (32 == c) = false := by rw [beq_eq_false_iff_ne]; exact Ne.symm h
  cases o <;> simp only [bwT, e1, e2, e3, e4, List.isPrefixOf, this, Bool.false_and]
theorem bin_nil : binP [] = none := by
  obtain ⟨e1, e2, e3, e4⟩ := bw_lists
  refine bin_no fun o => ?_
  cases o <;> simp only [bwT, e1, e2, e3, e4, List.isPrefixOf]
theorem bin_tail {z : Sg} (h : Tail z) : binP z = none := by
  rcases h with rfl | rfl
  · exact bin_nil
  · obtain ⟨e1, e2, e3, e4⟩ := bw_lists
    rw [arrow_list.1]
    refine bin_no fun o => ?_
    cases o <;> simp only [bwT, e1, e2, e3, e4] <;> decide
theorem shape_br {n : Nat} {s : Sg} (h : brackP (shapeP n) s = none) : shapeP (n + 1) (40 :: s) = none := by
  have e : skP [40] (40 :: s) = some s := skP_app [40] s
  rw [shapeP, e]
  dsimp only
  rw [h]
theorem two_none {R : Sg → Option (Tr × Sg)} {s s1 : Sg} {a : Tr} (h1 : R s = some (a, s1)) (h2 : binP s1 = none) : twoP R s = none := by
  unfold twoP
  rw [h1]
  dsimp only
  rw [h2]
theorem two_none0 {R : Sg → Option (Tr × Sg)} {s : Sg} (h1 : R s = none) : twoP R s = none := by
  unfold twoP
  rw [h1]
def betwL : List String := ["+", " +", "+ ", "  + ", " +  ", " / ", " ** ", " = ", "", " ", " then ", " in "]
theorem bt_lists : betwL.map tx = [[43], [32, 43], [43, 32], [32, 32, 43, 32], [32, 43, 32, 32], [32, 47, 32], [32, 42, 42, 32], [32, 61, 32], [], [32], [32, 116, 104, 101, 110, 32], [32, 105, 110, 32]] := by decide +kernel
theorem spoil0 {a b : Tr} {s : String} {y : Sg} {n : Nat} (oa : TOk a) (ob : TOk b) (da : dpT a < n) (hs : s ∈ betwL) (hne : tx s ≠ []) : brackP (shapeP n) (txT a ++ (tx s ++ (txT b ++ y))) = none := by
  obtain ⟨c, l, hcl, hc⟩ := tree_head ob y
  rw [hcl]
  obtain ⟨e1, e2, e3, e4⟩ := bw_lists
  have hm : tx s ∈ betwL.map tx := List.mem_map_of_mem hs
  rw [bt_lists] at hm
  generalize tx s = p at hm hne
  have hE : EndOk (p ++ c :: l) := by
    simp only [List.mem_cons, List.not_mem_nil, or_false] at hm
    rcases hm with rfl | rfl | rfl | rfl | rfl | rfl | rfl | rfl | rfl | rfl | rfl | rfl <;> first | exact absurd rfl hne | exact end_cons (by decide +kernel)
  rw [brack_two fun k hk => no_open_end oa hE.1.1 hk]
  have hsh := shape_comp (n := n) (t := a) (r := p ++ c :: l) oa da hE
  by_cases h5 : p = [32, 43, 32, 32]
  · subst h5
    unfold twoP
    rw [hsh]
    dsimp only
    have hb : binP ([32, 43, 32, 32] ++ c :: l) = some (.add, 32 :: c :: l) := by
      have := bin_comp .add (32 :: c :: l)
      rw [show tx (bwT .add) = [32, 43, 32] from e1] at this
      exact this
    rw [hb]
    dsimp only
    rw [shape_odd (odd_signs 32 (by decide))]
  · refine two_none hsh (bin_no fun o => ?_)
    simp only [List.mem_cons, List.not_mem_nil, or_false, not_or] at hc
    obtain ⟨h1, h2, h3, h4, h5', h6, h7, h8⟩ := hc
    simp only [List.mem_cons, List.not_mem_nil, or_false] at hm
    rcases hm with rfl | rfl | rfl | rfl | rfl | rfl | rfl | rfl | rfl | rfl | rfl | rfl <;> first | exact absurd rfl hne | exact absurd rfl h5 | (cases o <;> simp only [bwT, e1, e2, e3, e4] <;> simp [List.isPrefixOf] <;> omega)
theorem dw_app {p : Nat → Bool} : ∀ {x r : Sg}, (∀ c ∈ x, p c = true) → (x ++ r).dropWhile p = r.dropWhile p
  | [], _, _ => rfl
  | c :: x, r, h => by
    rw [List.cons_append, List.dropWhile_cons, h c List.mem_cons_self, if_pos rfl]
    exact dw_app fun d hd => h d (List.mem_cons_of_mem _ hd)
theorem no_open_run {s : Sg} (h : (s.dropWhile isAbc).head? ≠ some 32) : ∀ k ∈ opens, (tx (k ++ " ")).isPrefixOf s = false := fun k hk => by
  obtain ⟨e1, e2, _⟩ := open_tx k hk
  cases hp : (tx (k ++ " ")).isPrefixOf s with
  | false => rfl
  | true =>
    obtain ⟨q, hq⟩ := List.isPrefixOf_iff_prefix.mp hp
    rw [e1, List.append_assoc] at hq
    refine absurd ?_ h
    rw [← hq, dw_app (p := isAbc) (fun c hc => decide_eq_true (e2 c hc))]
    show (List.dropWhile isAbc (32 :: q)).head? = _
    rw [List.dropWhile_cons, show isAbc 32 = false by decide +kernel]
    rfl
theorem spoilE {a b : Tr} {z : Sg} {n : Nat} (oa : TOk a) (ob : TOk b) (da : dpT a < n) (ga : isGap a = false) : brackP (shapeP n) (txT a ++ (txT b ++ 41 :: z)) = none := by
  obtain ⟨c, l, hcl, hc⟩ := tree_head ob (41 :: z)
  have hc32 : c ≠ 32 := fun e => hc (by rw [e]; decide)
  have run : ∀ p : Nat → Bool, p 41 = false → (∀ x, b = .name x → (∀ d ∈ x.cps.toList, p d = true) ∨ (∀ d ∈ x.cps.toList, p d = false)) → (∀ m, b = .num m → (∀ d ∈ (numT m).cps.toList, p d = true) ∨ (∀ d ∈ (numT m).cps.toList, p d = false)) → p 40 = false → p 63 = false → ∃ d m, (txT b ++ 41 :: z).dropWhile p = d :: m ∧ d ≠ 32 := fun p h41 hx hm h40 h63 => by
    have leafy : ∀ x : Str, txT b = x.cps.toList → 1 ≤ x.length → ((∀ d ∈ x.cps.toList, p d = true) ∨ (∀ d ∈ x.cps.toList, p d = false)) → ∃ d m, (txT b ++ 41 :: z).dropWhile p = d :: m ∧ d ≠ 32 := fun x ex hl h => by
      rcases h with h | h
      · rw [ex, dw_app h, List.dropWhile_cons, h41]
        exact ⟨41, z, rfl, by decide⟩
      · refine ⟨c, l, ?_, hc32⟩
        rw [hcl]
        obtain ⟨d, hd, e⟩ := head_in hl (41 :: z)
        rw [← ex, hcl] at e
        cases e
        rw [List.dropWhile_cons, h _ hd]
        rfl
    have other : p c = false → ∃ d m, (txT b ++ 41 :: z).dropWhile p = d :: m ∧ d ≠ 32 := fun h => ⟨c, l, by rw [hcl, List.dropWhile_cons, h]; rfl, hc32⟩
    obtain ⟨e1, e2, e3, e4, e5⟩ := tx_open
    have c40 : ∀ {s : Sg}, txT b = 40 :: s → c = 40 := fun e => by rw [e] at hcl; cases hcl; rfl
    cases hb : b with
    | num m => exact hb ▸ leafy (numT m) (by rw [hb]; rfl) (by rw [hb] at ob; exact NOk.lo ob) (hm m hb)
    | name x => exact hb ▸ leafy x (by rw [hb]; rfl) (by rw [hb] at ob; exact WOk.lo ob) (hx x hb)
    | gap g as =>
      have : c = 63 := by rw [hb] at hcl; cases hcl; rfl
      exact hb ▸ other (by rw [this]; exact h63)
    | ask x => exact hb ▸ other (by rw [c40 (by rw [hb]; simp [txT, e1]; rfl)]; exact h40)
    | stop x => exact hb ▸ other (by rw [c40 (by rw [hb]; simp [txT, e2]; rfl)]; exact h40)
    | say x => exact hb ▸ other (by rw [c40 (by rw [hb]; simp [txT, e3]; rfl)]; exact h40)
    | bin o x y => exact hb ▸ other (by rw [c40 (by rw [hb]; rfl)]; exact h40)
    | ite x y w => exact hb ▸ other (by rw [c40 (by rw [hb]; simp [txT, e4]; rfl)]; exact h40)
    | lett x y w => exact hb ▸ other (by rw [c40 (by rw [hb]; simp [txT, e5]; rfl)]; exact h40)
  have fa : ∀ c ∈ abcS.cps.toList, isFig c = false := fun c hc => decide_eq_false (fig_not_abc c hc)
  have af : ∀ c ∈ figS.cps.toList, isAbc c = false := fun c hc => decide_eq_false (fig_abc c hc)
  have runA := run isAbc (by decide +kernel) (fun x e => .inl fun d hd => decide_eq_true (WOk.ab (by rw [e] at ob; exact ob) d hd)) (fun m e => .inr fun d hd => af d (NOk.fg (by rw [e] at ob; exact ob) d hd)) (by decide +kernel) (by decide +kernel)
  have runF := run isFig (by decide +kernel) (fun x e => .inr fun d hd => fa d (WOk.ab (by rw [e] at ob; exact ob) d hd)) (fun m e => .inl fun d hd => decide_eq_true (NOk.fg (by rw [e] at ob; exact ob) d hd)) (by decide +kernel) (by decide +kernel)
  obtain ⟨n', rfl⟩ : ∃ n', n = n' + 1 := ⟨n - 1, by omega⟩
  by_cases hbr : ∃ l, brT a = some l
  · obtain ⟨l', hl'⟩ := hbr
    have e40 : ∀ k ∈ opens, (tx (k ++ " ")).isPrefixOf (txT a ++ (txT b ++ 41 :: z)) = false := fun k hk => no_open_head (d := 40) (by rw [br_txt hl']; rfl) marks_no.2 hk
    rw [brack_two e40]
    refine two_none (shape_compB oa da fun h => by rw [hl'] at h; cases h) ?_
    rw [hcl]
    exact bin_head hc32
  · cases a with
    | num m =>
      have ok : NOk (numT m) m := oa
      have e40 : ∀ k ∈ opens, (tx (k ++ " ")).isPrefixOf (txT (.num m) ++ (txT b ++ 41 :: z)) = false := fun k hk => by
        obtain ⟨c, hc, e⟩ := head_in ok.lo (txT b ++ 41 :: z)
        exact no_open_head e (fig_abc c (ok.fg c hc)) hk
      rw [brack_two e40]
      obtain ⟨d, m', hd, hd32⟩ := runF
      have hdw : ((numT m).cps.toList ++ (txT b ++ 41 :: z)).dropWhile isFig = d :: m' := by rw [dw_app (p := isFig) (fun c hc => decide_eq_true (ok.fg c hc)), hd]
      have hfb : figB ((numT m).cps.toList ++ (txT b ++ 41 :: z)) = true := by
        obtain ⟨c, hc, e⟩ := head_in ok.lo (txT b ++ 41 :: z)
        unfold figB
        rw [e]
        exact decide_eq_true (ok.fg c hc)
      have hq := q_no (r := txT b ++ 41 :: z) (fun c hc => .inr (ok.fg c hc)) ok.lo
      cases hn : numP ((numT m).cps.toList ++ (txT b ++ 41 :: z)) with
      | none =>
        refine two_none0 ?_
        show shapeP (n' + 1) ((numT m).cps.toList ++ (txT b ++ 41 :: z)) = none
        rw [shapeP, hq.2, hq.1]
        dsimp only
        unfold pleafP
        rw [hfb, if_pos rfl, hn]
      | some pr =>
        obtain ⟨k, r⟩ := pr
        have hr : r = d :: m' := by
          unfold numP at hn
          split at hn
          · cases hn
          · split at hn
            · cases hn
            · cases hn
              exact hdw
        subst hr
        refine two_none (a := .num k) (s1 := d :: m') ?_ (bin_head hd32)
        show shapeP (n' + 1) ((numT m).cps.toList ++ (txT b ++ 41 :: z)) = _
        rw [shapeP, hq.2, hq.1]
        dsimp only
        unfold pleafP
        rw [hfb, if_pos rfl, hn]
        rfl
    | name x =>
      have ok : WOk x := oa
      obtain ⟨d, m', hd, hd32⟩ := runA
      have hdw : (x.cps.toList ++ (txT b ++ 41 :: z)).dropWhile isAbc = d :: m' := by rw [dw_app (p := isAbc) (fun c hc => decide_eq_true (ok.ab c hc)), hd]
      have e40 : ∀ k ∈ opens, (tx (k ++ " ")).isPrefixOf (x.cps.toList ++ (txT b ++ 41 :: z)) = false := no_open_run (by rw [hdw]; exact fun z => hd32 (Option.some.inj z))
      show brackP (shapeP (n' + 1)) (x.cps.toList ++ (txT b ++ 41 :: z)) = none
      rw [brack_two e40]
      have hfb : figB (x.cps.toList ++ (txT b ++ 41 :: z)) = false := fig_no_abc ok
      have hq := q_no (r := txT b ++ 41 :: z) (fun c hc => .inl (ok.ab c hc)) ok.lo
      cases hn : wordP (x.cps.toList ++ (txT b ++ 41 :: z)) with
      | none =>
        refine two_none0 ?_
        rw [shapeP, hq.2, hq.1]
        dsimp only
        unfold pleafP
        rw [hfb, hn]
        rfl
      | some pr =>
        obtain ⟨k, r⟩ := pr
        have hr : r = d :: m' := by
          unfold wordP at hn
          split at hn
          · cases hn
            exact hdw
          · cases hn
        subst hr
        refine two_none (a := .name k) (s1 := d :: m') ?_ (bin_head hd32)
        rw [shapeP, hq.2, hq.1]
        dsimp only
        unfold pleafP
        rw [hfb, hn]
        rfl
    | gap g as => cases ga
    | ask x => exact absurd ⟨_, rfl⟩ hbr
    | stop x => exact absurd ⟨_, rfl⟩ hbr
    | say x => exact absurd ⟨_, rfl⟩ hbr
    | bin o x y => exact absurd ⟨_, rfl⟩ hbr
    | ite x y w => exact absurd ⟨_, rfl⟩ hbr
    | lett x y w => exact absurd ⟨_, rfl⟩ hbr
theorem plus_list : tx " + " = [32, 43, 32] := bw_lists.1
theorem spoil_k0 {a b : Tr} {s : String} {z : Sg} (oa : TOk a) (ob : TOk b) (da : dpT a < 16) (ga : isGap a = false) (hs : s ∈ betwL) : Bad (40 :: (txT a ++ (tx s ++ (txT b ++ 41 :: z)))) := by
  refine bad_none (shape_br ?_)
  by_cases h : tx s = []
  · rw [h, List.nil_append]
    exact spoilE oa ob da ga
  · exact spoil0 oa ob da hs h
theorem spoil_k1 {a b : Tr} {z : Sg} (oa : TOk a) (da : dpT a < 17) : Bad (txT a ++ (tx " + " ++ (txT b ++ 41 :: z))) := by
  refine bad_some (shape_comp oa da (end_tx (by decide +kernel))) ?_ ?_
  · rw [plus_list]
    intro h
    cases h
  · rw [plus_list, arrow_list.2]
    rfl
theorem bin_br {a b : Tr} {n : Nat} {z : Sg} (oa : TOk a) (ob : TOk b) (da : dpT a < n) (db : dpT b < n) (hz : EndOk z) : brackP (shapeP n) (txT a ++ (tx " + " ++ (txT b ++ z))) = some (.bin .add a b, z) := by
  have eo : EndOk (tx " + " ++ (txT b ++ z)) := end_tx (by decide +kernel)
  rw [brack_two fun k hk => no_open_end oa eo.1.1 hk]
  unfold twoP
  rw [shape_comp (n := n) (t := a) oa da eo]
  dsimp only
  rw [show binP (tx " + " ++ (txT b ++ z)) = some (.add, txT b ++ z) from bin_comp .add _]
  dsimp only
  rw [shape_comp (n := n) (t := b) ob db hz]
theorem spoil_k2 {a b : Tr} {z : Sg} (oa : TOk a) (ob : TOk b) (da : dpT a < 16) (db : dpT b < 16) (hz : Tail z) : Bad (40 :: (txT a ++ (tx " + " ++ (txT b ++ z)))) := by
  refine bad_none ?_
  have e : skP [40] (40 :: (txT a ++ (tx " + " ++ (txT b ++ z)))) = some (txT a ++ (tx " + " ++ (txT b ++ z))) := skP_app [40] _
  have h41 : skP [41] z = none := by
    rcases hz with rfl | rfl
    · rfl
    · rw [arrow_list.1]; rfl
  rw [shapeP, e]
  dsimp only
  rw [bin_br oa ob da db hz.end_]
  dsimp only
  rw [h41]
def moreL : List String := [" ", ")", "x", "\n", "(", "0", " + 1", "?", "\t"]
theorem more_bad : ∀ s ∈ moreL, tx s ≠ [] ∧ (tx " -> ").isPrefixOf (tx s ++ arrow) = false ∧ (tx " -> ").isPrefixOf (tx s ++ []) = false := by decide +kernel
theorem spoil_k3 {t : Tr} {s : String} {z : Sg} (ot : TOk t) (dt : dpT t < 17) (hb : ∃ l, brT t = some l) (hs : s ∈ moreL) (hz : Tail z) : Bad (txT t ++ (tx s ++ z)) := by
  obtain ⟨l, hl⟩ := hb
  obtain ⟨h1, h2, h3⟩ := more_bad s hs
  refine bad_some (shape_compB ot dt fun h => by rw [hl] at h; cases h) (fun h => h1 (List.append_eq_nil_iff.mp h).1) ?_
  rcases hz with rfl | rfl
  · exact h3
  · exact h2
def aheadL : List String := [" ", ")", "x", "\n", "(", "0", "1 + ", "?", "\t"]
theorem ahead_lists : aheadL.map tx = [[32], [41], [120], [10], [40], [48], [49, 32, 43, 32], [63], [9]] := by decide +kernel
theorem spoil_k4 {t : Tr} {s : String} {z : Sg} (ot : TOk t) (dt : dpT t < 16) (hb : ∃ l, brT t = some l) (hs : s ∈ aheadL) (hz : Tail z) : Bad (tx s ++ (txT t ++ z)) := by
  obtain ⟨l, hl⟩ := hb
  have ht : ∃ m, txT t ++ z = 40 :: m := ⟨_, by rw [br_txt hl]; rfl⟩
  obtain ⟨m, hm⟩ := ht
  have hmem : tx s ∈ aheadL.map tx := List.mem_map_of_mem hs
  rw [ahead_lists] at hmem
  generalize tx s = p at hmem
  have hcomp := shape_compB (n := 16) (t := t) (r := z) ot dt fun h => by rw [hl] at h; cases h
  have na40 : isAbc 40 = false ∧ isFig 40 = false ∧ isAbc 120 = true ∧ isFig 120 = false ∧ isFig 48 = true ∧ isFig 49 = true ∧ isFig 32 = false ∧ sOf [120] ∉ kept11 ∧ isAbc 63 = false := by decide +kernel
  obtain ⟨n1, n2, n3, n4, n5, n6, n7, n8, n9⟩ := na40
  simp only [List.mem_cons, List.not_mem_nil, or_false] at hmem
  rcases hmem with rfl | rfl | rfl | rfl | rfl | rfl | rfl | rfl | rfl
  · exact bad_none (shape_odd (odd_signs 32 (by decide)))
  · exact bad_none (shape_odd (odd_signs 41 (by decide)))
  · refine bad_some (t := .name (sOf [120])) (r := 40 :: m) ?_ (by intro h; cases h) (by rw [arrow_list.2]; rfl)
    rw [hm]
    show shapeP (16 + 1) (120 :: 40 :: m) = _
    rw [shapeP, no40 (by decide), no63 (by decide)]
    dsimp only
    have e1 : figB (120 :: 40 :: m) = false := n4
    have e2 : wordP (120 :: 40 :: m) = some (sOf [120], 40 :: m) := by
      unfold wordP
      rw [List.takeWhile_cons, n3, if_pos rfl, List.takeWhile_cons, n1, List.dropWhile_cons, n3, if_pos rfl, List.dropWhile_cons, n1]
      exact if_pos ⟨Nat.le_refl _, (show ([120] : Sg).length ≤ 8 by decide), n8⟩
    unfold pleafP
    rw [e1, e2]
    rfl
  · exact bad_none (shape_odd (odd_signs 10 (by decide)))
  · refine bad_none (shape_br (n := 16) ?_)
    show brackP (shapeP 16) (txT t ++ z) = none
    rw [brack_two fun k hk => no_open_head (d := 40) (by rw [hm]; rfl) marks_no.2 hk]
    exact two_none hcomp (bin_tail hz)
  · refine bad_some (t := .num 0) (r := 40 :: m) ?_ (by intro h; cases h) (by rw [arrow_list.2]; rfl)
    rw [hm]
    show shapeP (16 + 1) (48 :: 40 :: m) = _
    rw [shapeP, no40 (by decide), no63 (by decide)]
    dsimp only
    have e1 : figB (48 :: 40 :: m) = true := n5
    have e2 : numP (48 :: 40 :: m) = some (0, 40 :: m) := by
      unfold numP
      rw [List.takeWhile_cons, n5, if_pos rfl, List.takeWhile_cons, n2, List.dropWhile_cons, n5, if_pos rfl, List.dropWhile_cons, n2]
      rfl
    unfold pleafP
    rw [e1, e2]
    rfl
  · refine bad_some (t := .num 1) (r := 32 :: 43 :: 32 :: 40 :: m) ?_ (by intro h; cases h) (by rw [arrow_list.2]; rfl)
    rw [hm]
    show shapeP (16 + 1) (49 :: 32 :: 43 :: 32 :: 40 :: m) = _
    rw [shapeP, no40 (by decide), no63 (by decide)]
    dsimp only
    have e1 : figB (49 :: 32 :: 43 :: 32 :: 40 :: m) = true := n6
    have e2 : numP (49 :: 32 :: 43 :: 32 :: 40 :: m) = some (1, 32 :: 43 :: 32 :: 40 :: m) := by
      unfold numP
      rw [List.takeWhile_cons, n6, if_pos rfl, List.takeWhile_cons, n7, List.dropWhile_cons, n6, if_pos rfl, List.dropWhile_cons, n7]
      rfl
    unfold pleafP
    rw [e1, e2]
    rfl
  · refine bad_none ?_
    rw [hm]
    show shapeP (16 + 1) (63 :: 40 :: m) = none
    have e63 : skP [63] (63 :: 40 :: m) = some (40 :: m) := skP_app [63] _
    have e2 : wordP (40 :: m) = none := by
      unfold wordP
      rw [List.takeWhile_cons, n1]
      exact if_neg (fun z => absurd (show 1 ≤ ([] : Sg).length from z.1) (by decide))
    rw [shapeP, no40 (by decide), e63]
    dsimp only
    rw [e2]
  · exact bad_none (shape_odd (odd_signs 9 (by decide)))
def Up (l : Sg) (d e : Nat) : Prop := ∀ m c, (l.foldl moS (m, c)).1 ≤ max m (c + d) ∧ (l.foldl moS (m, c)).2 ≤ c + e
theorem Bal.up_ {l : Sg} {d : Nat} (h : Bal l d) : Up l d 0 := fun m c => by
  obtain ⟨m', e, b⟩ := h m c
  rw [e]
  exact ⟨b, Nat.le_refl _⟩
theorem Up.app {l m : Sg} {d e d' e' : Nat} (h : Up l d e) (h' : Up m d' e') : Up (l ++ m) (max d (e + d')) (e + e') := fun x c => by
  rw [List.foldl_append]
  obtain ⟨h1, h2⟩ := h x c
  obtain ⟨h3, h4⟩ := h' (l.foldl moS (x, c)).1 (l.foldl moS (x, c)).2
  have e : ((l.foldl moS (x, c)).1, (l.foldl moS (x, c)).2) = l.foldl moS (x, c) := rfl
  rw [e] at h3 h4
  omega
theorem Up.mono {l : Sg} {d e d' e' : Nat} (h : Up l d e) (hd : d ≤ d') (he : e ≤ e') : Up l d' e' := fun m c => by
  obtain ⟨h1, h2⟩ := h m c
  omega
theorem up_40 : Up [40] 1 1 := fun m c => by
  show (max m (c + 1)) ≤ _ ∧ c + 1 ≤ _
  omega
theorem up_41 : Up [41] 0 0 := fun m c => by
  show (max m (c - 1)) ≤ _ ∧ c - 1 ≤ _
  omega
theorem up_plain {l : Sg} (h : ∀ c ∈ l, c ≠ 40 ∧ c ≠ 41) : Up l 0 0 := (Bal.plain h (d := 0)).up_
theorem Up.cons {c d e : Nat} {l : Sg} (h1 : c ≠ 40) (h2 : c ≠ 41) (h : Up l d e) : Up (c :: l) d e := by
  have := (up_plain (l := [c]) (fun x hx => by rw [List.mem_singleton.mp hx]; exact ⟨h1, h2⟩)).app h
  simpa using this
theorem Up.c40 {d e : Nat} {l : Sg} (h : Up l d e) : Up (40 :: l) (d + 1) (e + 1) := (up_40.app h).mono (by omega) (by omega)
theorem Up.c41 {d e : Nat} {l : Sg} (h : Up l d e) : Up (41 :: l) d e := (up_41.app h).mono (by omega) (by omega)
theorem up_nil : Up [] 0 0 := up_plain fun c hc => by cases hc
theorem up_any : ∀ l : Sg, Up l (l.filter (· == 40)).length (l.filter (· == 40)).length
  | [] => up_nil
  | c :: l => by
    by_cases h : c = 40
    · subst h
      have := (up_any l).c40
      simpa using this
    · by_cases h2 : c = 41
      · subst h2
        have := (up_any l).c41
        simpa using this
      · have := (up_any l).cons h h2
        simpa [h] using this
theorem Up.mo {l : Sg} {d e : Nat} (h : Up l d e) : moF l ≤ d := by
  have := (h 0 0).1
  unfold moF
  omega
theorem up_arrow : Up arrow 0 0 := by rw [arrow_list.1]; exact up_plain (by decide)
end L2
set_option Elab.async false
set_option linter.all false
set_option maxRecDepth 100000
set_option maxHeartbeats 4000000
namespace L2
open PySem
structure NoneOk (T : Str) : Prop where
  bad : Bad T.cps.toList
  badA : Bad (T.cps.toList ++ arrow)
  len : T.length ≤ 1500
  mo : moF T.cps.toList ≤ 16
  moA : moF (T.cps.toList ++ arrow) ≤ 16
def noneB (T : Str) : Bool := badB T.cps.toList && badB (T.cps.toList ++ arrow) && decide (T.length ≤ 1500) && decide (moF T.cps.toList ≤ 16) && decide (moF (T.cps.toList ++ arrow) ≤ 16)
theorem none_of {T : Str} (h : noneB T = true) : NoneOk T := by
  unfold noneB at h
  simp only [Bool.and_eq_true, decide_eq_true_eq] at h
  obtain ⟨⟨⟨⟨h1, h2⟩, h3⟩, h4⟩, h5⟩ := h
  exact ⟨bad_of h1, bad_of h2, h3, h4, h5⟩
def none1 : List Str := ["", " ", "()", "01", "00", "+1", "-1", "1_0", "A", "aB", "abcdefghi", "let", "in", "where", "quiet", "a1"]
def none2 : List Str := ["(let let = 1 in 2)", "(ask 1)", "(ask in)", "(stop )", "(stop)", "(say 1 )", "( say 1)", "(ask)"]
def none3 : List Str := ["(if 1 then 2)", "(let x = 1)", "(let x=1 in 2)", "?", "?1", "?a[]", "?a[ b]", "?a[b ]", "?a[b  c]"]
def none4 : List Str := ["?a[(ask b)]", "?a[?b[c]]", "?let", "? a", "?a[b", "?a[b]]", Str.ofString "1" ++ Txt.mul (Str.ofString "0") 30, Txt.mul (Str.ofString "0") 31, Txt.mul (Str.ofString "9") 400]
def none5 : List Str := ["(1 + 2", "1)", "(let x = 1 in 2) ", "1\n", "x y", "(a + b + c)", "(x)", "((1 + 2))"]
def noneAll : List Str := none1 ++ none2 ++ none3 ++ none4 ++ none5
theorem none_all : ∀ T ∈ noneAll, noneB T = true := by decide +kernel
theorem none_len : noneAll.length = 50 := by decide
end L2
set_option Elab.async false
set_option linter.all false
set_option maxRecDepth 100000
set_option maxHeartbeats 400000
namespace L2
open PySem
theorem pe_lstRS {X : Cx} {e : Expr} (vs : List V) (h : rowL e = some vs) : Sd (PE X e (tLst (tRow vs))) := ⟨@pe_lstR X e vs h⟩
theorem pe_opS {X : Cx} {a b : Expr} {ta tb : TE} {pos : Pos} {op : Operator} {r : R2} (ho : OpR X (binaryOp op) r) (ha : Sd (PE X a ta)) (hb : Sd (PE X b tb)) : Sd (PE X (.BinOp a op b pos) (tOp r ta tb)) := ⟨pe_op ho ha.un hb.un⟩
theorem pa_cS {X : Cx} {es : List Expr} {te : TE} {tA : TA} {c : Const} {k : Nat} {p : Pos} (ha : Sd (PE X (.Constant c k p) te)) (hr : Sd (PA X es tA)) : Sd (PA X (.Constant c k p :: es) (tCons te tA)) := ⟨pa_cons ha.un hr.un rfl⟩
theorem pa_bS {X : Cx} {es : List Expr} {te : TE} {tA : TA} {a b : Expr} {op : Operator} {p : Pos} (ha : Sd (PE X (.BinOp a op b p) te)) (hr : Sd (PA X es tA)) : Sd (PA X (.BinOp a op b p :: es) (tCons te tA)) := ⟨pa_cons ha.un hr.un rfl⟩
theorem sealed {X : Cx} {st : List Stmt} {G : TS → Prop} (h : ∃ t, Sd (PSs X st t) ∧ G t) : ∃ t, PSs X st t ∧ G t := h.elim fun t ht => ⟨t, ht.1.un, ht.2⟩
theorem slice1 {l : Sg} {c : Nat} : Txt.slice (sOf (c :: l)) (some 1) none = sOf l := by
  have h := beq_iff_eq.mp (PyProof.Rows.slice_closes_from (x := sOf (c :: l)) (i := 1) ⟨by decide, by rw [sOf_list, List.length_cons]; omega⟩)
  rw [h, sOf_list]
  show sOf _ = sOf l
  have e : (((c :: l).length : Int) - 1).toNat = l.length := by rw [List.length_cons]; omega
  rw [e, show (1 : Int).toNat = 1 from rfl, List.drop_one, List.tail_cons, List.take_length]
theorem slice_last {l : Sg} {c : Nat} : Txt.slice (sOf (l ++ [c])) none (some (-1)) = sOf l := by
  have h := beq_iff_eq.mp (PyProof.Rows.slice_closes_to_neg (x := sOf (l ++ [c])) (j := -1) (k := (l.length : Int)) (by decide) (by rw [sOf_len, List.length_append, List.length_singleton]; omega) (by rw [sOf_len, List.length_append, List.length_singleton]; omega))
  rw [h, sOf_list]
  show sOf _ = sOf l
  rw [show (0 : Int).toNat = 0 from rfl, List.drop_zero, show ((l.length : Int) - 0).toNat = l.length by omega, List.take_left]
theorem few40 : (∀ s ∈ betwL, ((tx s).filter (· == 40)).length ≤ 1 ∧ (tx s).length ≤ 10) ∧ (∀ s ∈ moreL, ((tx s).filter (· == 40)).length ≤ 1 ∧ (tx s).length ≤ 10) ∧ (∀ s ∈ aheadL, ((tx s).filter (· == 40)).length ≤ 1 ∧ (tx s).length ≤ 10) := by decide +kernel
theorem up_few {l : Sg} (h : (l.filter (· == 40)).length ≤ 1) : Up l 1 1 := (up_any l).mono h h
theorem none_mk {l : Sg} (hb : ∀ z, Tail z → Bad (l ++ z)) (hl : l.length ≤ 1500) {d e : Nat} (hu : Up l d e) (hd : d ≤ 16) (he : e ≤ 16) : NoneOk (sOf l) := by
  refine ⟨?_, ?_, by rw [sOf_len]; exact hl, ?_, ?_⟩
  · have := hb [] (.inl rfl)
    rw [sOf_list]
    rwa [List.append_nil] at this
  · rw [sOf_list]
    exact hb arrow (.inr rfl)
  · rw [sOf_list]
    exact Nat.le_trans hu.mo hd
  · rw [sOf_list]
    have := (hu.app up_arrow).mo
    omega
theorem up_tree {t : Tr} {n : Nat} {d : Int} (h : GdT t n d) (hd : d ≤ 11) : Up (txT t) 12 0 := (tree_bal h.ok).up_.mono (by have := h.op; omega) (Nat.le_refl _)
theorem up_plus : Up (tx " + ") 1 1 := up_few (by decide +kernel)
section
variable {a b : Tr} {m n : Nat} {d e : Int} (ha : GdT a m d) (hb : GdT b n e) (hm : m ≤ 12) (hn : n ≤ 12) (hd : d ≤ 11) (he : e ≤ 11)
include ha hb hm hn hd he
theorem n_k0 {s : String} (hs : s ∈ betwL) : NoneOk (sOf (40 :: (txT a ++ (tx s ++ (txT b ++ [41]))))) := by
  have la := ha.len
  have lb := hb.len
  have da := ha.dp
  obtain ⟨f1, f2⟩ := few40.1 s hs
  refine none_mk (d := 14) (e := 2) (fun z hz => ?_) (by simp only [List.length_cons, List.length_append, List.length_nil]; omega) ?_ (by decide) (by decide)
  · have := spoil_k0 (z := z) ha.ok hb.ok (by omega) ha.ng hs
    simpa using this
  · exact (((up_tree ha hd).app ((up_few f1).app ((up_tree hb he).app up_41))).c40).mono (by decide) (by decide)
theorem n_k1 : NoneOk (sOf (txT a ++ (tx " + " ++ (txT b ++ [41])))) := by
  have la := ha.len
  have lb := hb.len
  have da := ha.dp
  have f2 : (tx " + ").length = 3 := by decide +kernel
  refine none_mk (d := 14) (e := 2) (fun z hz => ?_) (by simp only [List.length_cons, List.length_append, List.length_nil]; omega) ?_ (by decide) (by decide)
  · have := spoil_k1 (z := z) (b := b) ha.ok (by omega)
    simpa using this
  · exact (((up_tree ha hd).app (up_plus.app ((up_tree hb he).app up_41)))).mono (by decide) (by decide)
theorem n_k2 : NoneOk (sOf (40 :: (txT a ++ (tx " + " ++ txT b)))) := by
  have la := ha.len
  have lb := hb.len
  have da := ha.dp
  have db := hb.dp
  have f2 : (tx " + ").length = 3 := by decide +kernel
  refine none_mk (d := 14) (e := 2) (fun z hz => ?_) (by simp only [List.length_cons, List.length_append, List.length_nil]; omega) ?_ (by decide) (by decide)
  · have := spoil_k2 (z := z) ha.ok hb.ok (by omega) (by omega) hz
    simpa using this
  · exact (((up_tree ha hd).app (up_plus.app (up_tree hb he))).c40).mono (by decide) (by decide)
theorem up_good : Up (txT (.bin .add a b)) 14 2 := (((up_tree ha hd).app (up_plus.app ((up_tree hb he).app up_41))).c40).mono (by decide) (by decide)
theorem good_dp : dpT (.bin .add a b) < 16 := by
  have da := ha.dp
  have db := hb.dp
  show max (dpT a) (dpT b) + 1 < 16
  omega
theorem good_len : (txT (.bin .add a b)).length ≤ 1200 := by
  have la := ha.len
  have lb := hb.len
  have f2 := bw_len .add
  simp only [txT, List.length_cons, List.length_append, List.length_nil]
  omega
theorem n_k3 {s : String} (hs : s ∈ moreL) : NoneOk (sOf (txT (.bin .add a b) ++ tx s)) := by
  obtain ⟨f1, f2⟩ := few40.2.1 s hs
  have lg := good_len ha hb hm hn hd he
  have dg := good_dp ha hb hm hn hd he
  refine none_mk (d := 14) (e := 3) (fun z hz => ?_) (by rw [List.length_append]; omega) ?_ (by decide) (by decide)
  · have := spoil_k3 (z := z) (t := .bin .add a b) ⟨ha.ok, hb.ok⟩ (by omega) ⟨_, rfl⟩ hs hz
    rwa [List.append_assoc]
  · exact ((up_good ha hb hm hn hd he).app (up_few f1)).mono (by decide) (by decide)
theorem n_k4 {s : String} (hs : s ∈ aheadL) : NoneOk (sOf (tx s ++ txT (.bin .add a b))) := by
  obtain ⟨f1, f2⟩ := few40.2.2 s hs
  have lg := good_len ha hb hm hn hd he
  have dg := good_dp ha hb hm hn hd he
  refine none_mk (d := 15) (e := 3) (fun z hz => ?_) (by rw [List.length_append]; omega) ?_ (by decide) (by decide)
  · have := spoil_k4 (z := z) (t := .bin .add a b) ⟨ha.ok, hb.ok⟩ dg ⟨_, rfl⟩ hs hz
    rwa [List.append_assoc]
  · exact ((up_few f1).app (up_good ha hb hm hn hd he)).mono (by decide) (by decide)
end
theorem at_strs {L : List String} {i : Int} (h0 : 0 ≤ i) (h1 : i < L.length) : ∃ s ∈ L, atI (L.map fun x => V.str (Str.ofString x)) i = some (.str (Str.ofString s)) := by
  obtain ⟨v, hv, e⟩ := atI_in (xs := L.map fun x => V.str (Str.ofString x)) (i := i) h0 (by rw [List.length_map]; exact h1)
  obtain ⟨s, hs, rfl⟩ := List.mem_map.mp hv
  exact ⟨s, hs, e⟩
end L2
namespace K07
open PySem PySem.Spec L2 PyProof.Rows
abbrev s_law_none : Stmt := top 35
theorem sc_law_none : FnScope ["_law_cell", "_law_some"] ["_law_cell"] (defScope s_law_none) := ⟨rfl, rfl, rfl, by decide +kernel, rfl, by decide +kernel, by decide +kernel⟩
abbrev s_law_spoiled : Stmt := top 36
theorem sc_law_spoiled : FnScope ["_law_one", "_law_other", "_law_cell", "_law_kind", "_law_good", "_law_between", "_law_more"] ["_law_one", "_law_other", "_law_cell"] (defScope s_law_spoiled) := ⟨rfl, rfl, rfl, by decide +kernel, rfl, by decide +kernel, by decide +kernel⟩
section
variable {P : Program} {w : World} {K : PySem.W.Frag} {mg : Str → Option Value} {base : Heap}
def sp_none : Sp := fun vs H Q _ => ∃ (c : Int), vs = [.int c] ∧ ∀ (T : Str) (H' : Hp), Same H H' → NoneOk T → Q (.str T) H'
theorem ok_none {k : Nat} {f : Addr} {fd : FuncData} (F : Fun K "_law_none" "_law_none" s_law_none f fd) (z_len : mg "len" = none) : FnOk P w K mg base CX0 (k + 1) f fd ["_law_cell"] sp_none := by
  refine F.ok sc_law_none (fun vs H Q E h => ?_) (fun cdv A outer s H vs Q E hr h => ?_)
  · obtain ⟨c, rfl, _⟩ := h
    rfl
  obtain ⟨c, rfl, q⟩ := h
  refine sealed ⟨_, (pss_consS (ps_setS (i := 1) sc_law_none.nd rfl (Or.inl rfl) (pe_lstRS [.str "", .str " ", .str "()", .str "01", .str "00", .str "+1", .str "-1", .str "1_0", .str "A", .str "aB", .str "abcdefghi", .str "let", .str "in", .str "where", .str "quiet", .str "a1"] (by decide +kernel)))
    (pss_consS (ps_setS (i := 1) sc_law_none.nd rfl (Or.inl rfl) (pe_opS op_cat ⟨pv 1⟩ (pe_lstRS [.str "(let let = 1 in 2)", .str "(ask 1)", .str "(ask in)", .str "(stop )", .str "(stop)", .str "(say 1 )", .str "( say 1)", .str "(ask)"] (by decide +kernel))))
    (pss_consS (ps_setS (i := 1) sc_law_none.nd rfl (Or.inl rfl) (pe_opS op_cat ⟨pv 1⟩ (pe_lstRS [.str "(if 1 then 2)", .str "(let x = 1)", .str "(let x=1 in 2)", .str "?", .str "?1", .str "?a[]", .str "?a[ b]", .str "?a[b ]", .str "?a[b  c]"] (by decide +kernel))))
    (pss_consS (ps_setS (i := 1) sc_law_none.nd rfl (Or.inl rfl) (pe_opS op_cat ⟨pv 1⟩ (pe_lstS (pa_cS ⟨pe_str⟩ (pa_cS ⟨pe_str⟩ (pa_cS ⟨pe_str⟩ (pa_cS ⟨pe_str⟩ (pa_cS ⟨pe_str⟩ (pa_cS ⟨pe_str⟩ (pa_bS (pe_opS op_add_str ⟨pe_str⟩ (pe_opS op_mulS ⟨pe_str⟩ ⟨pe_int⟩)) (pa_bS (pe_opS op_mulS ⟨pe_str⟩ ⟨pe_int⟩) (pa_bS (pe_opS op_mulS ⟨pe_str⟩ ⟨pe_int⟩) ⟨pa_nil⟩))))))))))))
    (pss_consS (ps_setS (i := 1) sc_law_none.nd rfl (Or.inl rfl) (pe_opS op_cat ⟨pv 1⟩ (pe_lstRS [.str "(1 + 2", .str "1)", .str "(let x = 1 in 2) ", .str "1
", .str "x y", .str "(a + b + c)", .str "(x)", .str "((1 + 2))"] (by decide +kernel))))
    (pss_oneS (ps_retS (pe_ixS (r := rIxL K) ix_list ⟨pv 1⟩ (pe_opS op_mod ⟨pv 0⟩ ⟨pe_callB call_len_seq (by rfl) z_len PySem.boot_len (pa_cons (pv 1) pa_nil)⟩) (fun _ _ => rfl))))))))), ?_⟩
  have d1 : (Str.ofString "0").length ≤ 100 ∧ (Str.ofString "9").length ≤ 100 := by decide +kernel
  have d2 : (Str.ofString "1").length + (Txt.mul (Str.ofString "0") 30).length ≤ sizeLine := line_of (by decide +kernel)
  refine ⟨by decide, fun p1 hp1 => ⟨_, rfl, by decide, fun p2 hp2 => ⟨p1, p2, none1.map V.str, none2.map V.str, rfl, rfl, (same_upd hp2) _ _ upd_same, upd_same, by decide, fun p3 hp3 => ?_⟩⟩⟩
  have g1 := (same_upd (o := .lst (none1.map V.str)) hp1).trans ((same_upd (o := .lst (none2.map V.str)) hp2).trans (same_upd (o := .lst (none1.map V.str ++ none2.map V.str)) hp3))
  refine ⟨_, rfl, by decide, fun p4 hp4 => ⟨p3, p4, none1.map V.str ++ none2.map V.str, none3.map V.str, rfl, rfl, (same_upd hp4) _ _ upd_same, upd_same, by decide, fun p5 hp5 => ?_⟩⟩
  have g2 := g1.trans ((same_upd (o := .lst (none3.map V.str)) hp4).trans (same_upd (o := .lst ((none1.map V.str ++ none2.map V.str) ++ none3.map V.str)) hp5))
  refine ⟨_, rfl, _, _, rfl, rfl, by decide, by decide, d1.1, _, _, rfl, rfl, d2, _, _, rfl, rfl, by decide, by decide, d1.1, _, _, rfl, rfl, by decide, by decide, d1.2, by decide, fun p6 hp6 => ⟨p5, p6, (none1.map V.str ++ none2.map V.str) ++ none3.map V.str, none4.map V.str, rfl, rfl, (same_upd hp6) _ _ upd_same, upd_same, by decide, fun p7 hp7 => ?_⟩⟩
  have g3 := g2.trans ((same_upd (o := .lst (none4.map V.str)) hp6).trans (same_upd (o := .lst (((none1.map V.str ++ none2.map V.str) ++ none3.map V.str) ++ none4.map V.str)) hp7))
  refine ⟨_, rfl, by decide, fun p8 hp8 => ⟨p7, p8, ((none1.map V.str ++ none2.map V.str) ++ none3.map V.str) ++ none4.map V.str, none5.map V.str, rfl, rfl, (same_upd hp8) _ _ upd_same, upd_same, by decide, fun p9 hp9 => ?_⟩⟩
  have ee : (((none1.map V.str ++ none2.map V.str) ++ none3.map V.str) ++ none4.map V.str) ++ none5.map V.str = noneAll.map V.str := by simp only [noneAll, List.map_append]
  rw [ee]
  have g4 := g3.trans ((same_upd (o := .lst (none5.map V.str)) hp8).trans (same_upd (o := .lst (noneAll.map V.str)) hp9))
  have hl : (noneAll.map V.str).length = 50 := by rw [List.length_map, none_len]
  have hlI : ((noneAll.map V.str).length : Int) = 50 := by rw [hl]; rfl
  obtain ⟨v, hv, e⟩ := atI_in (xs := noneAll.map V.str) (i := c % ((noneAll.map V.str).length : Int)) (by rw [hlI]; omega) (by rw [hlI]; omega)
  obtain ⟨T, hT, rfl⟩ := List.mem_map.mp hv
  exact ⟨_, rfl, _, rfl, _, rfl, p9, _, rfl, .inl (SqL.of upd_same), _, _, rfl, rfl, (by omega), p9, _, _, _, rfl, rfl, SqL.of upd_same, e, q T _ g4 (none_of (none_all T hT))⟩
def sp_spoiled : Sp := fun vs H Q _ => ∃ (a b : Tr) (m n : Nat) (c : Int), vs = [.str (sOf (txT a)), .str (sOf (txT b)), .int c] ∧ GdT a m 11 ∧ GdT b n 11 ∧ m ≤ 12 ∧ n ≤ 12 ∧ ∀ (T : Str) (H' : Hp), Same H H' → NoneOk T → Q (.str T) H'
theorem ok_spoiled {k : Nat} {f : Addr} {fd : FuncData} (F : Fun K "_law_spoiled" "_law_spoiled" s_law_spoiled f fd) : FnOk P w K mg base CX0 (k + 1) f fd ["_law_one", "_law_other", "_law_cell"] sp_spoiled := by
  refine F.ok sc_law_spoiled (fun vs H Q E h => ?_) (fun cdv A outer s H vs Q E hr h => ?_)
  · obtain ⟨a, b, m, n, c, rfl, _⟩ := h
    rfl
  obtain ⟨a, b, m, n, c, rfl, ga, gb, hm, hn, q⟩ := h
  refine sealed ⟨_, (pss_consS (ps_setS (i := 3) sc_law_spoiled.nd rfl (Or.inl rfl) (pe_opS op_mod ⟨pv 2⟩ ⟨pe_int⟩))
    (pss_consS (ps_setS (i := 4) sc_law_spoiled.nd rfl (Or.inl rfl) (pe_opS op_add_str (pe_opS op_add_str (pe_opS op_add_str (pe_opS op_add_str ⟨pe_str⟩ ⟨pv 0⟩) ⟨pe_str⟩) ⟨pv 1⟩) ⟨pe_str⟩))
    (pss_consS (ps_ifS ⟨pt_cmpR op_eq (pv 3) pe_int (nomark _)⟩ (pss_consS (ps_setS (i := 5) sc_law_spoiled.nd rfl (Or.inl rfl) (pe_ixS (r := rIxL K) ix_list (pe_lstRS [.str "+", .str " +", .str "+ ", .str "  + ", .str " +  ", .str " / ", .str " ** ", .str " = ", .str "", .str " ", .str " then ", .str " in "] (by decide +kernel)) (pe_opS op_mod (pe_opS op_fdiv ⟨pv 2⟩ ⟨pe_int⟩) ⟨pe_int⟩) (fun _ _ => rfl)))
    (pss_oneS (ps_retS (pe_opS op_add_str (pe_opS op_add_str (pe_opS op_add_str (pe_opS op_add_str ⟨pe_str⟩ ⟨pv 0⟩) ⟨pv 5⟩) ⟨pv 1⟩) ⟨pe_str⟩)))) ⟨pss_nil⟩)
    (pss_consS (ps_ifS ⟨pt_cmpR op_eq (pv 3) pe_int (nomark _)⟩ (pss_oneS (ps_retS ⟨pe_slice sl_str (pv 4) (po_some pe_int) po_none⟩)) ⟨pss_nil⟩)
    (pss_consS (ps_ifS ⟨pt_cmpR op_eq (pv 3) pe_int (nomark _)⟩ (pss_oneS (ps_retS ⟨pe_slice sl_str (pv 4) po_none (po_some (pe_un un_neg pe_int))⟩)) ⟨pss_nil⟩)
    (pss_consS (ps_setS (i := 6) sc_law_spoiled.nd rfl (Or.inl rfl) (pe_ixS (r := rIxL K) ix_list (pe_lstRS [.str " ", .str ")", .str "x", .str "
", .str "(", .str "0", .str " + 1", .str "?", .str "	"] (by decide +kernel)) (pe_opS op_mod (pe_opS op_fdiv ⟨pv 2⟩ ⟨pe_int⟩) ⟨pe_int⟩) (fun _ _ => rfl)))
    (pss_consS (ps_ifS ⟨pt_cmpR op_eq (pv 3) pe_int (nomark _)⟩ (pss_oneS (ps_retS (pe_opS op_add_str ⟨pv 4⟩ ⟨pv 6⟩))) ⟨pss_nil⟩)
    (pss_oneS (ps_retS (pe_opS op_add_str (pe_ixS (r := rIxL K) ix_list (pe_lstRS [.str " ", .str ")", .str "x", .str "
", .str "(", .str "0", .str "1 + ", .str "?", .str "	"] (by decide +kernel)) (pe_opS op_mod (pe_opS op_fdiv ⟨pv 2⟩ ⟨pe_int⟩) ⟨pe_int⟩) (fun _ _ => rfl)) ⟨pv 4⟩)))))))))), ?_⟩
  have la := ga.len
  have lb := gb.len
  obtain ⟨pp1, pp2⟩ := tx_par
  have o1 : (tx "(").length = 1 := by decide +kernel
  have o2 : (tx ")").length = 1 := by decide +kernel
  have o3 : (tx " + ").length = 3 := by decide +kernel
  rw [str_tx "(", str_tx ")", str_tx " + "]
  refine ⟨_, rfl, _, _, rfl, rfl, (show (0 : Int) < 5 by decide), ?_⟩
  refine ⟨_, rfl, _, _, rfl, rfl, line_of (by rw [sOf_len, sOf_len]; omega), ?_⟩
  rw [sOf_app]
  refine ⟨_, _, rfl, rfl, line_of (by rw [sOf_len, sOf_len]; simp only [List.length_append]; omega), ?_⟩
  rw [sOf_app]
  refine ⟨_, rfl, _, _, rfl, rfl, line_of (by rw [sOf_len, sOf_len]; simp only [List.length_append]; omega), ?_⟩
  rw [sOf_app]
  refine ⟨_, _, rfl, rfl, line_of (by rw [sOf_len, sOf_len]; simp only [List.length_append]; omega), ?_⟩
  rw [sOf_app]
  have hg : tx "(" ++ txT a ++ tx " + " ++ txT b ++ tx ")" = txT (.bin .add a b) := by
    rw [pp1, pp2]
    simp [txT, bwT]
  rw [hg]
  have lg := good_len ga gb hm hn (Int.le_refl _) (Int.le_refl _)
  refine ⟨_, rfl, rfl, _, rfl, ite2 (fun c0 => ?_) (fun c0 => ?_)⟩
  · obtain ⟨s, hs, e⟩ := at_strs (L := betwL) (i := c / 5 % 12) (by omega) (by show _ < (12 : Int); omega)
    obtain ⟨f1, f2⟩ := few40.1 s hs
    refine ⟨by decide, fun p1 hp1 => ⟨_, rfl, _, _, rfl, rfl, ⟨(show (0 : Int) < 5 by decide), (show (5 : Int) < 1073741824 by decide)⟩, _, _, rfl, rfl, (show (0 : Int) < 12 by decide), p1, _, _, _, rfl, rfl, SqL.of upd_same, e, ?_⟩⟩
    rw [str_tx s]
    refine ⟨_, rfl, _, _, rfl, rfl, line_of (by rw [sOf_len, sOf_len]; omega), ?_⟩
    rw [sOf_app]
    refine ⟨_, rfl, _, _, rfl, rfl, line_of (by rw [sOf_len, sOf_len]; simp only [List.length_append]; omega), ?_⟩
    rw [sOf_app]
    refine ⟨_, rfl, _, _, rfl, rfl, line_of (by rw [sOf_len, sOf_len]; simp only [List.length_append]; omega), ?_⟩
    rw [sOf_app]
    refine ⟨_, _, rfl, rfl, line_of (by rw [sOf_len, sOf_len]; simp only [List.length_append]; omega), ?_⟩
    rw [sOf_app]
    have := n_k0 ga gb hm hn (Int.le_refl _) (Int.le_refl _) hs
    have e2 : tx "(" ++ txT a ++ tx s ++ txT b ++ tx ")" = 40 :: (txT a ++ (tx s ++ (txT b ++ [41]))) := by
      rw [pp1, pp2]
      simp
    rw [e2]
    exact q _ _ (same_upd hp1) this
  refine ⟨_, rfl, rfl, _, rfl, ite2 (fun c1 => ?_) (fun c1 => ?_)⟩
  · refine ⟨_, rfl, _, rfl, _, rfl, line_of (by rw [sOf_len]; omega), fun hle => ?_⟩
    have e3 : Txt.slice (sOf (txT (.bin .add a b))) (some 1) none = sOf (txT a ++ (tx " + " ++ (txT b ++ [41]))) := slice1
    rw [e3]
    exact q _ _ (.refl _) (n_k1 ga gb hm hn (Int.le_refl _) (Int.le_refl _))
  refine ⟨_, rfl, rfl, _, rfl, ite2 (fun c2 => ?_) (fun c2 => ?_)⟩
  · have e4 : txT (.bin .add a b) = (40 :: (txT a ++ (tx " + " ++ txT b))) ++ [41] := by simp [txT, bwT]
    have e3 : Txt.slice (sOf (txT (.bin .add a b))) none (some (-1)) = sOf (40 :: (txT a ++ (tx " + " ++ txT b))) := by rw [e4]; exact slice_last
    refine ⟨_, rfl, _, rfl, _, rfl, _, rfl, line_of (by rw [sOf_len]; omega), fun hle => ?_⟩
    have q2 := q _ H (.refl _) (n_k2 ga gb hm hn (Int.le_refl _) (Int.le_refl _))
    rw [← e3] at q2
    exact q2
  obtain ⟨s, hs, e⟩ := at_strs (L := moreL) (i := c / 5 % 9) (by omega) (by show _ < (9 : Int); omega)
  obtain ⟨f1, f2⟩ := few40.2.1 s hs
  refine ⟨by decide, fun p1 hp1 => ⟨_, rfl, _, _, rfl, rfl, ⟨(show (0 : Int) < 5 by decide), (show (5 : Int) < 1073741824 by decide)⟩, _, _, rfl, rfl, (show (0 : Int) < 9 by decide), p1, _, _, _, rfl, rfl, SqL.of upd_same, e, ?_⟩⟩
  rw [str_tx s]
  refine ⟨_, rfl, rfl, _, rfl, ite2 (fun c3 => ?_) (fun c3 => ?_)⟩
  · refine ⟨_, rfl, _, rfl, _, _, rfl, rfl, line_of (by rw [sOf_len, sOf_len]; omega), ?_⟩
    rw [sOf_app]
    exact q _ _ (same_upd hp1) (n_k3 ga gb hm hn (Int.le_refl _) (Int.le_refl _) hs)
  obtain ⟨s', hs', e'⟩ := at_strs (L := aheadL) (i := c / 5 % 9) (by omega) (by show _ < (9 : Int); omega)
  obtain ⟨f1', f2'⟩ := few40.2.2 s' hs'
  refine ⟨by decide, fun p2 hp2 => ⟨_, rfl, _, _, rfl, rfl, ⟨(show (0 : Int) < 5 by decide), (show (5 : Int) < 1073741824 by decide)⟩, _, _, rfl, rfl, (show (0 : Int) < 9 by decide), p2, _, _, _, rfl, rfl, SqL.of upd_same, e', ?_⟩⟩
  rw [str_tx s']
  refine ⟨_, rfl, _, _, rfl, rfl, line_of (by rw [sOf_len, sOf_len]; omega), ?_⟩
  rw [sOf_app]
  exact q _ _ ((same_upd hp1).trans (same_upd hp2)) (n_k4 ga gb hm hn (Int.le_refl _) (Int.le_refl _) hs')
end
end K07
set_option Elab.async false
set_option linter.all false
set_option maxRecDepth 100000
set_option maxHeartbeats 400000
namespace L2
open PySem
def openL : List String := ["(say ", "(7 + ", "(", "(let y = ", "(if 1 then 2 else "]
def shutL : List String := [")", ")", " ; 8)", " in 0)", ")"]
theorem open_facts : ∀ s ∈ openL, (tx s).head? = some 40 ∧ (∀ c ∈ (tx s).tail, c ≠ 40 ∧ c ≠ 41) ∧ (tx s).length ≤ 18 := by decide +kernel
theorem opn_open {s : String} (hs : s ∈ openL) (x : Sg) : opn (tx s ++ x) = opn x + 1 := by
  obtain ⟨h1, h2, _⟩ := open_facts s hs
  cases e : tx s with
  | nil => rw [e] at h1; cases h1
  | cons c p =>
    rw [e] at h1 h2
    have : c = 40 := by simpa using h1
    subst this
    rw [List.tail_cons] at h2
    rw [List.cons_append, opn, if_pos rfl, opn_plain h2]
theorem num_one (d : Nat) (h : d < 10) : (numT (d : Int)).cps.toList = [48 + d] := by
  have e : numT (d : Int) = Str.ofString (toString ((d : Nat) : Int)) := rfl
  rw [e, PySem.W.KIN.signs_num, Nat.toDigits_of_lt_base h]
  have : ∀ d, d < 10 → ([Nat.digitChar d].map Char.toNat) = [48 + d] := by decide +kernel
  exact this d h
structure OpT (t : Tr) (n : Nat) : Prop where
  ok : TOk t
  dp : dpT t ≤ n
  op : opT t ≤ n
  lo : ∀ s, n ≤ opn (txT t ++ s)
  len : (txT t).length ≤ 1 + 30 * n
  br : 1 ≤ n → ∃ l, brT t = some l
theorem wx : WOk "x" := ⟨by decide +kernel, by decide +kernel, by decide +kernel, by decide +kernel⟩
theorem wy : WOk "y" := ⟨by decide +kernel, by decide +kernel, by decide +kernel, by decide +kernel⟩
theorem op_zero : OpT (.name "x") 0 := ⟨wx, Nat.le_refl _, Nat.le_refl _, fun s => Nat.zero_le _, by show (Str.ofString "x").cps.toList.length ≤ _; decide +kernel, fun h => absurd h (by decide)⟩
theorem numd (d : Nat) (h : d < 10) : NOk (numT (d : Int)) (d : Int) := num_ok (by omega) (by omega)
theorem op_next {t : Tr} {n : Nat} (h : OpT t n) {i : Int} (h0 : 0 ≤ i) (h1 : i < 5) : ∃ (a b : String) (t' : Tr), atI (openL.map fun x => V.str (Str.ofString x)) i = some (.str (Str.ofString a)) ∧ atI (shutL.map fun x => V.str (Str.ofString x)) i = some (.str (Str.ofString b)) ∧ tx a ++ (txT t ++ tx b) = txT t' ∧ OpT t' (n + 1) ∧ (tx a).length ≤ 18 ∧ (tx b).length ≤ 6 := by
  have key : ∀ (a b : String) (t' : Tr), a ∈ openL → (tx b).length ≤ 6 → tx a ++ (txT t ++ tx b) = txT t' → TOk t' → dpT t' ≤ n + 1 → opT t' ≤ n + 1 → (∃ l, brT t' = some l) → tx a ++ (txT t ++ tx b) = txT t' ∧ OpT t' (n + 1) ∧ (tx a).length ≤ 18 ∧ (tx b).length ≤ 6 := fun a b t' ha hb e k1 k2 k3 k4 => by
    obtain ⟨_, _, f3⟩ := open_facts a ha
    have := h.len
    refine ⟨e, ⟨k1, k2, k3, fun s => ?_, ?_, fun _ => k4⟩, f3, hb⟩
    · rw [← e, List.append_assoc, List.append_assoc, opn_open ha]
      have := h.lo (tx b ++ s)
      omega
    · rw [← e]
      simp only [List.length_append]
      omega
  have kd := h.dp
  have ko := h.op
  rcases (show i = 0 ∨ i = 1 ∨ i = 2 ∨ i = 3 ∨ i = 4 by omega) with rfl | rfl | rfl | rfl | rfl
  · refine ⟨"(say ", ")", .say t, rfl, rfl, key _ _ _ (by decide) (by decide +kernel) ?_ h.ok (by show dpT t + 1 ≤ _; omega) (by show opT t + 1 ≤ _; omega) ⟨_, rfl⟩⟩
    rw [tx_par.2]
    rfl
  · refine ⟨"(7 + ", ")", .bin .add (.num 7) t, rfl, rfl, key _ _ _ (by decide) (by decide +kernel) ?_ ⟨numd 7 (by decide), h.ok⟩ (by show max 0 (dpT t) + 1 ≤ _; omega) (by show max 0 (opT t) + 1 ≤ _; omega) ⟨_, rfl⟩⟩
    have e : tx "(7 + " = 40 :: ([48 + 7] ++ tx " + ") := by decide +kernel
    rw [tx_par.2, e, ← num_one 7 (by decide)]
    simp [txT, bwT]
  · refine ⟨"(", " ; 8)", .bin .thn t (.num 8), rfl, rfl, key _ _ _ (by decide) (by decide +kernel) ?_ ⟨h.ok, numd 8 (by decide)⟩ (by show max (dpT t) 0 + 1 ≤ _; omega) (by show max (opT t) 0 + 1 ≤ _; omega) ⟨_, rfl⟩⟩
    have e : tx " ; 8)" = tx " ; " ++ ([48 + 8] ++ [41]) := by decide +kernel
    rw [tx_par.1, e, ← num_one 8 (by decide)]
    simp [txT, bwT]
  · refine ⟨"(let y = ", " in 0)", .lett "y" t (.num 0), rfl, rfl, key _ _ _ (by decide) (by decide +kernel) ?_ ⟨wy, h.ok, numd 0 (by decide)⟩ (by show max (dpT t) 0 + 1 ≤ _; omega) (by show max (opT t) 0 + 1 ≤ _; omega) ⟨_, rfl⟩⟩
    have e : tx " in 0)" = tx " in " ++ ([48 + 0] ++ [41]) := by decide +kernel
    have e' : tx "(let y = " = tx "(let " ++ ((Str.ofString "y").cps.toList ++ tx " = ") := by decide +kernel
    rw [e, e', ← num_one 0 (by decide)]
    simp [txT]
  · refine ⟨"(if 1 then 2 else ", ")", .ite (.num 1) (.num 2) t, rfl, rfl, key _ _ _ (by decide) (by decide +kernel) ?_ ⟨numd 1 (by decide), numd 2 (by decide), h.ok⟩ (by show max 0 (max 0 (dpT t)) + 1 ≤ _; omega) (by show max 0 (max 0 (opT t)) + 1 ≤ _; omega) ⟨_, rfl⟩⟩
    have e : tx "(if 1 then 2 else " = tx "(if " ++ ([48 + 1] ++ (tx " then " ++ ([48 + 2] ++ tx " else "))) := by decide +kernel
    rw [tx_par.2, e, ← num_one 1 (by decide), ← num_one 2 (by decide)]
    simp [txT]
end L2
namespace K07
open PySem PySem.Spec L2 PyProof.Rows
abbrev s_law_open : Stmt := top 37
theorem sc_law_open : FnScope ["_law_many", "_law_cell", "_law_text_here", "_law_k", "_law_turn", "_law_ahead"] ["_law_many", "_law_cell"] (defScope s_law_open) := ⟨rfl, rfl, rfl, by decide +kernel, rfl, by decide +kernel, by decide +kernel⟩
section
variable {P : Program} {w : World} {K : PySem.W.Frag} {mg : Str → Option Value} {base : Heap}
def sp_open : Sp := fun vs H Q _ => ∃ (n : Nat) (c : Int), vs = [.int n, .int c] ∧ n ≤ 17 ∧ 0 ≤ c ∧ ∀ (t : Tr) (H' : Hp), Same H H' → OpT t n → Q (.str (sOf (txT t))) H'
theorem ok_open {k : Nat} {f : Addr} {fd : FuncData} (F : Fun K "_law_open" "_law_open" s_law_open f fd) (z_range : mg "range" = none) : FnOk P w K mg base CX0 (k + 1) f fd ["_law_many", "_law_cell"] sp_open := by
  refine F.ok sc_law_open (fun vs H Q E h => ?_) (fun cdv A outer s H vs Q E hr h => ?_)
  · obtain ⟨n, c, rfl, _⟩ := h
    rfl
  obtain ⟨n, c, rfl, hn, hc, q⟩ := h
  refine ⟨_, (pss_cons (ps_set (i := 2) sc_law_open.nd rfl (Or.inl rfl) pe_str)
    (pss_cons (ps_for PassesOwn.never rfl (pi_range1 (by rfl) z_range (pa_cons (pv 0) pa_nil)) (pg_name (i := 3) sc_law_open.nd rfl (Or.inl rfl)) (pss_cons (ps_set (i := 4) sc_law_open.nd rfl (Or.inl rfl) (pe_op op_mod (pe_op op_fdiv (pv 1) (pe_op op_add (pv 3) pe_int)) pe_int))
    (pss_cons (ps_set (i := 5) sc_law_open.nd rfl (Or.inl rfl) (pe_ix (r := rIxL K) ix_list (pe_lstR [.str "(say ", .str "(7 + ", .str "(", .str "(let y = ", .str "(if 1 then 2 else "] (by rfl) : PE _ _ _) (pv 4) (fun _ _ => rfl)))
    (pss_one (ps_set (i := 2) sc_law_open.nd rfl (Or.inl rfl) (pe_op op_add_str (pe_op op_add_str (pv 5) (pv 2)) (pe_ix (r := rIxL K) ix_list (pe_lstR [.str ")", .str ")", .str " ; 8)", .str " in 0)", .str ")"] (by rfl) : PE _ _ _) (pv 4) (fun _ _ => rfl))))))))
    (pss_one (ps_ret (pv 2))))), ?_⟩
  have ex : Str.ofString "x" = sOf (txT (.name "x")) := sOf_eq rfl
  rw [ex]
  refine ⟨_, rfl, (n : Int), rfl, by omega, by omega, ?_⟩
  refine for_range (n := (n : Int).toNat) (fun i σ' H' => ∃ (t : Tr) (s3 s4 s5 : Option V), σ' = [some (.int n), some (.int c), some (.str (sOf (txT t))), s3, s4, s5] ∧ Same H H' ∧ OpT t i) ?_ ?_ ?_
  · exact ⟨_, none, none, none, rfl, .refl _, op_zero⟩
  · rintro i σ1 H1 hi ⟨t, s3, s4, s5, rfl, g, ht⟩
    obtain ⟨a, b, t', e1, e2, e3, ht', la, lb⟩ := op_next ht (i := c / (0 + (i : Int) + 1) % 5) (by omega) (by omega)
    have lt := ht.len
    refine ⟨_, rfl, _, rfl, _, _, rfl, rfl, _, _, rfl, rfl, ⟨(by omega), (by omega)⟩, _, _, rfl, rfl, (show (0 : Int) < 5 by decide), ?_⟩
    refine ⟨by decide, fun p1 hp1 => ⟨_, rfl, p1, _, _, _, rfl, rfl, SqL.of upd_same, e1, ?_⟩⟩
    refine ⟨_, rfl, _, rfl, _, _, rfl, rfl, line_of (by rw [str_tx a, sOf_len, sOf_len]; omega), by decide, fun p2 hp2 => ⟨_, rfl, p2, _, _, _, rfl, rfl, SqL.of upd_same, e2, _, _, rfl, rfl, line_of (by rw [strLen_append, str_tx a, str_tx b, sOf_len, sOf_len, sOf_len]; omega), ?_⟩⟩
    rw [str_tx a, str_tx b, sOf_app, sOf_app, List.append_assoc, e3]
    exact ⟨t', _, _, _, rfl, g.trans ((same_upd hp1).trans (same_upd hp2)), ht'⟩
  · rintro σ1 H1 ⟨t, s3, s4, s5, rfl, g, ht⟩
    rw [Int.toNat_natCast] at ht
    exact ⟨_, rfl, q t H1 g ht⟩
end
end K07
set_option Elab.async false
set_option linter.all false
set_option maxRecDepth 100000
set_option maxHeartbeats 400000
namespace L2
open PySem
theorem ps_tryS {X : Cx} {pos : Pos} {h0 : ExceptHandler} {hs : List ExceptHandler} {body orelse : List Stmt} {tb : Ends → TS} {to : TS} (hb : ∀ pins D, Sd (PSs (X.inTry (h0 :: hs) pins D) body (tb D))) (ho : Sd (PSs X orelse to)) :
    Sd (PS X (.Try body (h0 :: hs) orelse [] pos) (fun D σ H => tb D { D with nx := to D } σ H)) := ⟨ps_try (fun pins D => (hb pins D).un) ho.un⟩
def dueL (g : Bool) : List V := [.bl !g, .bl g, .bl false, .bl true]
def Due (T : Str) (g : Bool) : Prop := (g = true → Great T) ∧ (g = false → ¬ Great T ∧ Bad T.cps.toList)
end L2
namespace K07
open PySem PySem.Spec L2 PyProof.Rows
abbrev s_law_refused : Stmt := top 38
theorem sc_law_refused : FnScope ["_law_text_here", "_law_ruled", "_law_told_here", "e"] ["_law_text_here", "_law_ruled"] (defScope s_law_refused) := ⟨rfl, rfl, rfl, by decide +kernel, rfl, by decide +kernel, by decide +kernel⟩
section
variable {P : Program} {w : World} {K : PySem.W.Frag} {mg : Str → Option Value} {base : Heap}
structure Er (K : PySem.W.Frag) (cR cN cG cU c : Addr) (g : Bool) : Prop where
  x : PySem.W.ExCls K c
  nR : PySem.W.mroIn K c (.ref cR) = some true
  nN : PySem.W.kitOne K (.ref c) (.ref cN) = some !g
  nG : PySem.W.kitOne K (.ref c) (.ref cG) = some g
  nU : PySem.W.kitOne K (.ref c) (.ref cU) = some false
  nV : PySem.W.kitOne K (.ref c) (.type "ValueError") = some true
def sp_refused : Sp := fun vs H Q _ => ∃ (T : Str) (r g : Bool), vs = [.str T, .bl r] ∧ T.length ≤ 10000 ∧ Due T g ∧ ∀ p H', Same H H' → H' p = some (.lst (dueL g)) → Q (.ref p) H'
theorem ok_refused {k : Nat} {f g1 g2 cR cN cG cU : Addr} {fd gd1 gd2 : FuncData} (F : Fun K "_law_refused" "_law_refused" s_law_refused f fd) (z_isinstance : mg "isinstance" = none) (z_ValueError : mg "ValueError" = none) (m_RecastError : mg "RecastError" = some (.ref cR)) (m_NoText : mg "NoText" = some (.ref cN)) (m_TooGreat : mg "TooGreat" = some (.ref cG)) (m_NoRule : mg "NoRule" = some (.ref cU)) (c_RecastError : ExC K cR)
    (XN : Er K cR cN cG cU cN false) (XG : Er K cR cN cG cU cG true) (G_read : FnF P w K mg base k "read" g1 gd1 ["text"] (sp_readF cN cG)) (G_read_rule : FnF P w K mg base k "read_rule" g2 gd2 ["text"] (sp_ruleF cN cG)) :
    FnOk P w K mg base CX0 (k + 1) f fd ["_law_text_here", "_law_ruled"] sp_refused := by
  refine F.ok sc_law_refused (fun vs H Q E h => ?_) (fun cdv A outer s H vs Q E hr h => ?_)
  · obtain ⟨T, r, g, rfl, _⟩ := h
    rfl
  obtain ⟨T, r, g, rfl, hT, hD, q⟩ := h
  refine sealed ⟨_, (pss_consS (ps_setS (i := 2) sc_law_refused.nd rfl (Or.inl rfl) ⟨pe_non⟩)
    (pss_consS (ps_tryS (tb := fun D => (tIfS (fun σ H Q => tVar 1 σ H fun x H1 => ∃ k, TruV K x H1 k ∧ Q k H1) (tDrop (tCallT _ _ _ D _)) (tDrop (tCallT _ _ _ D _)))) (fun _ D => (pss_oneS (ps_ifS ⟨pt_truth (pv 1) (fun _ => rfl)⟩ (pss_oneS (ps_exprS ⟨pe_callT rfl rfl (ph_as sc_law_refused.nd (i := 3) rfl rfl (by rfl) m_RecastError c_RecastError (fun _ => (pss_one (ps_set (i := 2) sc_law_refused.nd rfl (Or.inl rfl) (pe_lst (pa_cons (pe_callB (r := rIsiX K) call_isiX (by rfl) z_isinstance PyProof.Rows.boot_isinstance (pa_cons (pv 3) (pa_cons (pe_glob (v := .ref _) (by rfl) m_NoText (by rfl)) pa_nil))) (pa_cons (pe_callB (r := rIsiX K) call_isiX (by rfl) z_isinstance PyProof.Rows.boot_isinstance (pa_cons (pv 3) (pa_cons (pe_glob (v := .ref _) (by rfl) m_TooGreat (by rfl)) pa_nil))) (pa_cons (pe_callB (r := rIsiX K) call_isiX (by rfl) z_isinstance PyProof.Rows.boot_isinstance (pa_cons (pv 3) (pa_cons (pe_glob (v := .ref _) (by rfl) m_NoRule (by rfl)) pa_nil))) (pa_cons (pe_callB (r := rIsiX K) call_isiX (by rfl) z_isinstance PyProof.Rows.boot_isinstance (pa_cons (pv 3) (pa_cons (pe_bltn (v := .ty _) (by rfl) z_ValueError boot_VE (by rfl)) pa_nil))) pa_nil)))) : PE _ _ _)))) ph_nil) G_read_rule.ok hr (by rfl) G_read_rule.gl G_read_rule.kp G_read_rule.bd .nil (pa_cons (pv 0) pa_nil)⟩)) (pss_oneS (ps_exprS ⟨pe_callT rfl rfl (ph_as sc_law_refused.nd (i := 3) rfl rfl (by rfl) m_RecastError c_RecastError (fun _ => (pss_one (ps_set (i := 2) sc_law_refused.nd rfl (Or.inl rfl) (pe_lst (pa_cons (pe_callB (r := rIsiX K) call_isiX (by rfl) z_isinstance PyProof.Rows.boot_isinstance (pa_cons (pv 3) (pa_cons (pe_glob (v := .ref _) (by rfl) m_NoText (by rfl)) pa_nil))) (pa_cons (pe_callB (r := rIsiX K) call_isiX (by rfl) z_isinstance PyProof.Rows.boot_isinstance (pa_cons (pv 3) (pa_cons (pe_glob (v := .ref _) (by rfl) m_TooGreat (by rfl)) pa_nil))) (pa_cons (pe_callB (r := rIsiX K) call_isiX (by rfl) z_isinstance PyProof.Rows.boot_isinstance (pa_cons (pv 3) (pa_cons (pe_glob (v := .ref _) (by rfl) m_NoRule (by rfl)) pa_nil))) (pa_cons (pe_callB (r := rIsiX K) call_isiX (by rfl) z_isinstance PyProof.Rows.boot_isinstance (pa_cons (pv 3) (pa_cons (pe_bltn (v := .ty _) (by rfl) z_ValueError boot_VE (by rfl)) pa_nil))) pa_nil)))) : PE _ _ _)))) ph_nil) G_read.ok hr (by rfl) G_read.gl G_read.kp G_read.bd .nil (pa_cons (pv 0) pa_nil)⟩))))) ⟨pss_nil⟩)
    (pss_oneS (ps_retS ⟨pv 2⟩)))), ?_⟩
  have d4 : 4 ≤ sizeLine := by decide
  refine ⟨_, rfl, r, rfl, ?_⟩
  cases g with
  | true =>
    have hG := hD.1 rfl
    refine ite2 (fun _ => ?_) (fun _ => ?_)
    · exact ⟨_, rfl, T, rfl, hT, fun _ H1 g1 => ⟨cG, rfl, XG.x, true, XG.nR, iteT fun ea hea => ⟨_, rfl, ea, cG, .ref cN, .ref cN, false, rfl, upd_same, XG.x, (fun u r => r), XG.nN, _, rfl, ea, cG, .ref cG, .ref cG, true, rfl, upd_same, XG.x, (fun u r => r), XG.nG, _, rfl, ea, cG, .ref cU, .ref cU, false, rfl, upd_same, XG.x, (fun u r => r), XG.nU, _, rfl, ea, cG, .ty "ValueError", .type "ValueError", true, rfl, upd_same, XG.x, (fun u r => r), XG.nV, d4, fun p hp => ⟨_, rfl, q p _ (g1.trans ((same_upd hea).trans (same_upd hp))) upd_same⟩⟩⟩, fun n => absurd hG n⟩
    · exact ⟨_, rfl, T, rfl, hT, fun _ H1 g1 => ⟨cG, rfl, XG.x, true, XG.nR, iteT fun ea hea => ⟨_, rfl, ea, cG, .ref cN, .ref cN, false, rfl, upd_same, XG.x, (fun u r => r), XG.nN, _, rfl, ea, cG, .ref cG, .ref cG, true, rfl, upd_same, XG.x, (fun u r => r), XG.nG, _, rfl, ea, cG, .ref cU, .ref cU, false, rfl, upd_same, XG.x, (fun u r => r), XG.nU, _, rfl, ea, cG, .ty "ValueError", .type "ValueError", true, rfl, upd_same, XG.x, (fun u r => r), XG.nV, d4, fun p hp => ⟨_, rfl, q p _ (g1.trans ((same_upd hea).trans (same_upd hp))) upd_same⟩⟩⟩, fun n => absurd hG n⟩
  | false =>
    obtain ⟨hn, hb⟩ := hD.2 rfl
    refine ite2 (fun _ => ?_) (fun _ => ?_)
    · exact ⟨_, rfl, T, rfl, hT, fun n => absurd n hn, fun _ => ⟨fun t s e => (hb t s e).2, fun H1 g1 => ⟨cN, rfl, XN.x, true, XN.nR, iteT fun ea hea => ⟨_, rfl, ea, cN, .ref cN, .ref cN, true, rfl, upd_same, XN.x, (fun u r => r), XN.nN, _, rfl, ea, cN, .ref cG, .ref cG, false, rfl, upd_same, XN.x, (fun u r => r), XN.nG, _, rfl, ea, cN, .ref cU, .ref cU, false, rfl, upd_same, XN.x, (fun u r => r), XN.nU, _, rfl, ea, cN, .ty "ValueError", .type "ValueError", true, rfl, upd_same, XN.x, (fun u r => r), XN.nV, d4, fun p hp => ⟨_, rfl, q p _ (g1.trans ((same_upd hea).trans (same_upd hp))) upd_same⟩⟩⟩⟩⟩
    · exact ⟨_, rfl, T, rfl, hT, fun n => absurd n hn, fun _ => ⟨fun t e => absurd rfl (hb t [] e).1, fun _ H1 g1 => ⟨cN, rfl, XN.x, true, XN.nR, iteT fun ea hea => ⟨_, rfl, ea, cN, .ref cN, .ref cN, true, rfl, upd_same, XN.x, (fun u r => r), XN.nN, _, rfl, ea, cN, .ref cG, .ref cG, false, rfl, upd_same, XN.x, (fun u r => r), XN.nG, _, rfl, ea, cN, .ref cU, .ref cU, false, rfl, upd_same, XN.x, (fun u r => r), XN.nU, _, rfl, ea, cN, .ty "ValueError", .type "ValueError", true, rfl, upd_same, XN.x, (fun u r => r), XN.nV, d4, fun p hp => ⟨_, rfl, q p _ (g1.trans ((same_upd hea).trans (same_upd hp))) upd_same⟩⟩⟩⟩⟩
end
end K07
set_option Elab.async false
set_option linter.all false
set_option maxRecDepth 100000
set_option maxHeartbeats 400000
namespace L2
open PySem
theorem due_flat (g : Bool) : (dueL g).all flatV = true ∧ ∀ x ∈ dueL g, eqV x x = true := by cases g <;> decide +kernel
theorem arrow_len : (Str.ofString " -> ?a").length = 6 := by decide +kernel
end L2
namespace K07
open PySem PySem.Spec L2 PyProof.Rows
abbrev s_law_told : Stmt := top 39
theorem sc_law_told : FnScope ["_law_text_here", "_law_due", "_law_k", "_law_more"] ["_law_text_here", "_law_due"] (defScope s_law_told) := ⟨rfl, rfl, rfl, by decide +kernel, rfl, by decide +kernel, by decide +kernel⟩
section
variable {P : Program} {w : World} {K : PySem.W.Frag} {mg : Str → Option Value} {base : Heap}
def sp_told : Sp := fun vs H Q _ => ∃ (T : Str) (d : Addr) (g : Bool), vs = [.str T, .ref d] ∧ H d = some (.lst (dueL g)) ∧ T.length ≤ 9000 ∧ Due T g ∧ (¬ (T.length ≤ 2000 ∧ 2000 < T.length + 6) → Due (T ++ Str.ofString " -> ?a") g) ∧ ∀ H', Same H H' → Q (.bl true) H'
theorem ok_told {k : Nat} {f g1 : Addr} {fd gd1 : FuncData} (F : Fun K "_law_told" "_law_told" s_law_told f fd) (z_range : mg "range" = none) (z_len : mg "len" = none) (G_law_refused : FnB P w K mg base k "_law_refused" g1 gd1 ["_law_text_here", "_law_ruled"] sp_refused) :
    FnOk P w K mg base CX0 (k + 1) f fd ["_law_text_here", "_law_due"] sp_told := by
  refine F.ok sc_law_told (fun vs H Q E h => ?_) (fun cdv A outer s H vs Q E hr h => ?_)
  · obtain ⟨T, d, g, rfl, _⟩ := h
    rfl
  obtain ⟨T, d, g, rfl, hd, hT, hD, hA, q⟩ := h
  have hu0 := Nat.lt_of_succ_lt (hu_of hr)
  refine ⟨_, (pss_cons (ps_for PassesOwn.never rfl (pi_range1 (by rfl) z_range (pa_cons pe_int pa_nil)) (pg_name (i := 2) sc_law_told.nd rfl (Or.inl rfl)) (pss_one (ps_if (pw_or (pt_cmpR (op_neSm hu0) (pe_call G_law_refused.ok hr (by rfl) G_law_refused.gl G_law_refused.kp G_law_refused.bd .nil pass0 (pa_cons (pv 0) (pa_cons pe_bl pa_nil))) (pv 1) (nomark _)) (pw_or1 (pt_cmpR (op_neSm hu0) (pe_call G_law_refused.ok hr (by rfl) G_law_refused.gl G_law_refused.kp G_law_refused.bd .nil pass0 (pa_cons (pv 0) (pa_cons pe_bl pa_nil))) (pv 1) (nomark _)))).pt (pss_one (ps_ret pe_bl)) pss_nil)))
    (pss_cons (ps_set (i := 3) sc_law_told.nd rfl (Or.inl rfl) (pe_op op_add_str (pv 0) pe_str))
    (pss_cons (ps_if (pt_chain op_le op_lt (pe_callB call_len_str (by rfl) z_len PySem.boot_len (pa_cons (pv 0) pa_nil)) pe_int (pe_callB call_len_str (by rfl) z_len PySem.boot_len (pa_cons (pv 3) pa_nil))) (pss_one (ps_ret pe_bl)) pss_nil)
    (pss_one (ps_ret (pe_cmpR (op_eqSm hu0) (pe_call G_law_refused.ok hr (by rfl) G_law_refused.gl G_law_refused.kp G_law_refused.bd .nil pass0 (pa_cons (pv 3) (pa_cons pe_bl pa_nil))) (pv 1) (nomark _))))))), ?_⟩
  obtain ⟨fl, fe⟩ := due_flat g
  refine ⟨2, rfl, by decide, by decide, ?_⟩
  refine for_range (n := (2 : Int).toNat) (fun i σ' H' => ∃ (s2 s3 : Option V), σ' = [some (.str T), some (.ref d), s2, s3] ∧ Same H H') ?_ ?_ ?_
  · exact ⟨none, none, rfl, .refl _⟩
  · rintro i σ1 H1 hi ⟨s2, s3, rfl, g1⟩
    refine ⟨_, rfl, T, false, g, rfl, by omega, hD, fun p H2 g2 e2 => ⟨_, rfl, p, d, dueL g, rfl, rfl, e2, g2 _ _ (g1 _ _ hd), fl, fe, _, rfl, iteF ?_⟩⟩
    refine ⟨_, rfl, T, true, g, rfl, by omega, hD, fun p3 H3 g3 e3 => ⟨_, rfl, p3, d, dueL g, rfl, rfl, e3, g3 _ _ (g2 _ _ (g1 _ _ hd)), fl, fe, _, rfl, iteF ?_⟩⟩
    exact ⟨_, _, rfl, g1.trans (g2.trans g3)⟩
  · rintro σ1 H1 ⟨s2, s3, rfl, g1⟩
    have al := arrow_len
    refine ⟨_, rfl, _, _, rfl, rfl, line_of (by omega), ?_⟩
    have la : (T ++ Str.ofString " -> ?a").length = T.length + 6 := by rw [strLen_append, al]
    refine ⟨_, rfl, T, rfl, line_of (by omega), _, _, rfl, rfl, _, rfl, ite2 (fun c1 => ?_) (fun c1 => ?_)⟩
    · refine ⟨_, rfl, _, rfl, line_of (by omega), _, _, rfl, rfl, _, rfl, ite2 (fun c2 => ?_) (fun c2 => ?_)⟩
      · exact q _ g1
      · have c2' : ¬ (2000 < T.length + 6) := fun z => c2 (decide_eq_true (by show (2000 : Int) < ((T ++ Str.ofString " -> ?a").length : Int); omega))
        exact ⟨_, rfl, _, true, g, rfl, by omega, hA (fun z => c2' z.2), fun p H2 g2 e2 => ⟨_, rfl, p, d, dueL g, rfl, rfl, e2, g2 _ _ (g1 _ _ hd), fl, fe, q _ (g1.trans g2)⟩⟩
    · have c1' : ¬ (T.length ≤ 2000) := fun z => c1 (decide_eq_true (by show ((T.length : Nat) : Int) ≤ 2000; omega))
      refine ⟨_, rfl, iteF ?_⟩
      exact ⟨_, rfl, _, true, g, rfl, by omega, hA (fun z => c1' z.1), fun p H2 g2 e2 => ⟨_, rfl, p, d, dueL g, rfl, rfl, e2, g2 _ _ (g1 _ _ hd), fl, fe, q _ (g1.trans g2)⟩⟩
end
end K07
set_option Elab.async false
set_option linter.all false
set_option maxRecDepth 100000
set_option maxHeartbeats 400000
namespace L2
open PySem
theorem mul_rep {z : Str} {c : Nat} (h : z.cps.toList = [c]) (n : Int) : (Txt.mul z n).cps.toList = List.replicate n.toNat c := by
  by_cases hn : n < 1
  · rw [mul_zero hn, show n.toNat = 0 by omega]
    rfl
  · rw [mul_list (by omega), h, List.flatten_replicate_singleton]
theorem opens_no {c : Nat} {l : Sg} (hc : c = 40 ∨ c = 32) : ∀ k ∈ opens, (tx (k ++ " ")).isPrefixOf (c :: l) = false := by
  have key : ∀ k ∈ opens, ∃ d r, tx (k ++ " ") = d :: r ∧ d ≠ 40 ∧ d ≠ 32 := by
    intro k hk
    have : ∀ k ∈ opens, (tx (k ++ " ")).head? ≠ some 40 ∧ (tx (k ++ " ")).head? ≠ some 32 ∧ tx (k ++ " ") ≠ [] := by decide +kernel
    obtain ⟨h1, h2, h3⟩ := this k hk
    cases e : tx (k ++ " ") with
    | nil => exact absurd e h3
    | cons d r =>
      rw [e] at h1 h2
      exact ⟨d, r, rfl, fun z => h1 (by rw [z]; rfl), fun z => h2 (by rw [z]; rfl)⟩
  intro k hk
  obtain ⟨d, r, e, h1, h2⟩ := key k hk
  rw [e]
  have : d ≠ c := by rcases hc with rfl | rfl <;> assumption
  simp [List.isPrefixOf, this]
theorem shape_blank : ∀ (k n : Nat) (l : Sg), shapeP n (List.replicate k 40 ++ 32 :: l) = none
  | 0, n, l => shape_odd (odd_signs 32 (by decide))
  | k + 1, 0, l => rfl
  | k + 1, n + 1, l => by
    rw [List.replicate_succ, List.cons_append]
    refine shape_br ?_
    have hh : ∃ c l', List.replicate k 40 ++ 32 :: l = c :: l' ∧ (c = 40 ∨ c = 32) := by
      cases k with
      | zero => exact ⟨32, l, rfl, .inr rfl⟩
      | succ k => exact ⟨40, _, rfl, .inl rfl⟩
    have ih := shape_blank k n l
    obtain ⟨c, l', e, hc⟩ := hh
    rw [e] at ih ⊢
    rw [brack_two (opens_no hc)]
    exact two_none0 ih
theorem blank_bad {c : Nat} (hc : c = 32 ∨ c = 40) (l : Sg) : Bad (List.replicate 10 c ++ 32 :: l) := by
  rcases hc with rfl | rfl
  · exact bad_none (shape_odd (odd_signs 32 (by decide)))
  · exact bad_none (shape_blank 10 17 l)
theorem filter_le (l : Sg) : (l.filter (· == 40)).length ≤ l.length := List.length_filter_le _ _
theorem up_blank {c m k : Nat} {e : Sg} (he : (e.filter (· == 40)).length = 0) : Up (List.replicate 10 c ++ (List.replicate m 32 ++ (e ++ List.replicate k 32))) 10 10 := by
  have h32 : ∀ j, Up (List.replicate j 32) 0 0 := fun j => up_plain fun d hd => by rw [List.eq_of_mem_replicate hd]; decide
  have h1 : Up (List.replicate 10 c) 10 10 := by
    have := filter_le (List.replicate 10 c)
    rw [List.length_replicate] at this
    exact (up_any _).mono this this
  have h2 : Up e 0 0 := (up_any e).mono (by omega) (by omega)
  exact (h1.app ((h32 m).app (h2.app (h32 k)))).mono (by decide) (by decide)
def endL : List String := [")+-", "", "x"]
theorem end_facts : ∀ s ∈ endL, ((tx s).filter (· == 40)).length = 0 ∧ (tx s).length ≤ 3 := by decide +kernel
theorem blank_due {c k : Nat} {e : Sg} {g : Bool} (hc : c = 32 ∨ c = 40) (he : (e.filter (· == 40)).length = 0) (hl : (List.replicate 10 c ++ (List.replicate 1985 32 ++ (e ++ List.replicate k 32))).length = 2000 + g.toNat) : Due (sOf (List.replicate 10 c ++ (List.replicate 1985 32 ++ (e ++ List.replicate k 32)))) g := by
  refine ⟨fun hg => .inl ?_, fun hg => ⟨fun z => ?_, ?_⟩⟩
  · rw [sOf_len, hl, hg]
    decide
  · rcases z with z | z
    · rw [sOf_len, hl, hg] at z
      exact absurd z (by decide)
    · rw [sOf_list] at z
      have := (up_blank (c := c) (m := 1985) (k := k) he).mo
      omega
  · rw [sOf_list]
    have := blank_bad hc (List.replicate 1984 32 ++ (e ++ List.replicate k 32))
    rwa [← List.cons_append, ← List.replicate_succ] at this
theorem great_due {T : Str} (h : 2000 < T.length) : Due T true := ⟨fun _ => .inl h, (fun z => (nomatch z))⟩
theorem mo_shut (s : Sg) : moF (41 :: s) = moF s := by
  unfold moF
  rw [List.foldl_cons]
  rfl
theorem none_due {T : Str} (h : NoneOk T) : Due T false ∧ Due (T ++ Str.ofString " -> ?a") false := by
  have el : (T ++ Str.ofString " -> ?a").cps.toList = T.cps.toList ++ arrow := by rw [app_list]; rfl
  have hl := h.len
  refine ⟨⟨(fun z => (nomatch z)), fun _ => ⟨fun z => ?_, h.bad⟩⟩, ⟨(fun z => (nomatch z)), fun _ => ⟨fun z => ?_, ?_⟩⟩⟩
  · have := h.mo
    rcases z with z | z <;> omega
  · have := h.moA
    rcases z with z | z
    · rw [strLen_append, arrow_len] at z
      omega
    · rw [el] at z
      omega
  · rw [el]
    exact h.badA
theorem open_great {t : Tr} {n : Nat} (h : OpT t n) (hn : 17 ≤ n) (s : Sg) : 16 < moF (txT t ++ s) := by
  have h1 := opn_le (txT t ++ s)
  have h2 := h.lo s
  omega
def aheadE : List String := [")))", ""]
def behindL : List String := ["", "", "x", ")"]
theorem open_due {t : Tr} {n : Nat} (h : OpT t n) (hn : 17 ≤ n) {a b : String} (ha : a ∈ aheadE) : Due (sOf (tx a ++ txT t ++ tx b)) true ∧ Due (sOf (tx a ++ txT t ++ tx b) ++ Str.ofString " -> ?a") true := by
  have key : ∀ s, 16 < moF (tx a ++ (txT t ++ s)) := fun s => by
    have := open_great h hn s
    simp only [aheadE, List.mem_cons, List.not_mem_nil, or_false] at ha
    rcases ha with rfl | rfl
    · rw [show tx ")))" = [41, 41, 41] by decide +kernel]
      show 16 < moF (41 :: 41 :: 41 :: (txT t ++ s))
      rw [mo_shut, mo_shut, mo_shut]
      exact this
    · rw [show tx "" = [] by decide +kernel]
      exact this
  refine ⟨⟨fun _ => .inr ?_, (fun z => (nomatch z))⟩, ⟨fun _ => .inr ?_, (fun z => (nomatch z))⟩⟩
  · rw [sOf_list, List.append_assoc]
    exact key _
  · rw [app_list, sOf_list, List.append_assoc, List.append_assoc]
    exact key _
theorem open_none {t : Tr} {n : Nat} (h : OpT t n) (h1 : 1 ≤ n) (h16 : n ≤ 16) {a b : String} (ha : a ∈ aheadE) (hb : b ∈ behindL) (hw : a ≠ "" ∨ b = "x" ∨ b = ")") : NoneOk (sOf (tx a ++ txT t ++ tx b)) := by
  have hu : Up (txT t) 16 0 := (tree_bal h.ok).up_.mono (by have := h.op; omega) (Nat.le_refl _)
  have hub : Up (tx b) 0 0 := by
    have : ∀ b ∈ behindL, ((tx b).filter (· == 40)).length = 0 := by decide +kernel
    exact (up_any _).mono (by rw [this b hb]; exact Nat.le_refl _) (by rw [this b hb]; exact Nat.le_refl _)
  have hua : Up (tx a) 0 0 := by
    have : ∀ a ∈ aheadE, ((tx a).filter (· == 40)).length = 0 := by decide +kernel
    exact (up_any _).mono (by rw [this a ha]; exact Nat.le_refl _) (by rw [this a ha]; exact Nat.le_refl _)
  have la : (tx a).length ≤ 3 := by
    have : ∀ a ∈ aheadE, (tx a).length ≤ 3 := by decide +kernel
    exact this a ha
  have lb : (tx b).length ≤ 3 := by
    have : ∀ b ∈ behindL, (tx b).length ≤ 3 := by decide +kernel
    exact this b hb
  have lt := h.len
  refine none_mk (d := 16) (e := 0) (fun z hz => ?_) (by simp only [List.length_append]; omega) (((hua.app hu).app hub).mono (by decide) (by decide)) (by decide) (by decide)
  simp only [aheadE, List.mem_cons, List.not_mem_nil, or_false] at ha
  rcases ha with rfl | rfl
  · rw [show tx ")))" = [41, 41, 41] by decide +kernel]
    exact bad_none (shape_odd (odd_signs 41 (by decide)))
  · have hb' : b = "x" ∨ b = ")" := hw.resolve_left fun z => z rfl
    have hm : b ∈ moreL := by rcases hb' with rfl | rfl <;> decide
    rw [show tx "" = [] by decide +kernel, List.nil_append, List.append_assoc]
    exact spoil_k3 h.ok (by have := h.dp; omega) (h.br h1) hm hz
end L2
set_option Elab.async false
set_option linter.all false
set_option maxRecDepth 100000
set_option maxHeartbeats 400000
namespace L2
open PySem
theorem cut12 {ns : List Int} (a : Nat) : ∃ ms : List Int, cutV (ns.map V.int) (some (a : Int)) (some ((a + 12 : Nat) : Int)) = ms.map V.int ∧ ms.length ≤ 12 := by
  obtain ⟨ms, e, l⟩ := cutInts (ns := ns) (lo := some (a : Int)) (hi := some ((a + 12 : Nat) : Int)) rfl rfl (by rw [HT.sIx_nat]; omega)
  refine ⟨ms, e, ?_⟩
  rw [HT.sIx_nat, HT.sIx_nat] at l
  omega
theorem two_strs (s t : String) {i : Int} (h0 : 0 ≤ i) (h1 : i < 2) : ∃ x : String, (x = s ∨ x = t) ∧ atI [V.str (Str.ofString s), V.str (Str.ofString t)] i = some (.str (Str.ofString x)) := by
  rcases (show i = 0 ∨ i = 1 by omega) with rfl | rfl
  · exact ⟨s, .inl rfl, rfl⟩
  · exact ⟨t, .inr rfl, rfl⟩
end L2
namespace K07
open PySem PySem.Spec L2 PyProof.Rows
theorem passF {X : Cx} {P : Program} {w : World} : Passes (CXF P w) X (fun _ _ _ => False) := fun _ _ _ _ _ _ _ h => by
  obtain ⟨_, _, _, _, _, z⟩ := h
  exact z.elim
abbrev s_law : Stmt := top 40
theorem sc_law : FnScope ["_law_script", "_law_cell", "_law_more", "_law_one", "_law_other", "_law_wrong", "_law_great", "_law_text_here", "_law_ahead", "_law_many"] ["_law_script"] (defScope s_law) := ⟨rfl, rfl, rfl, by decide +kernel, rfl, by decide +kernel, by decide +kernel⟩
section
variable {P : Program} {w : World} {K : PySem.W.Frag} {mg : Str → Option Value} {base : Heap}
def sp_law (K : PySem.W.Frag) : Sp := fun vs H Q _ => ∃ (a : Addr) (ns : List Int), vs = [.ref a] ∧ SqL K H a (ns.map V.int) ∧ ns.length ≤ 63 ∧ ∀ H', Q (.bl true) H'
theorem ok_law {k : Nat} {f g1 g2 g3 g4 g5 g6 g7 cN cG : Addr} {fd gd1 gd2 gd3 gd4 gd5 gd6 gd7 : FuncData} (F : Fun K "law" "law" s_law f fd) (z_isinstance : mg "isinstance" = none) (z_tuple : mg "tuple" = none) (z_len : mg "len" = none) (z_min : mg "min" = none)
    (G_law_text : FnB P w K mg base k "_law_text" g1 gd1 ["_law_cells", "_law_deep"] (sp_text K 12)) (G_law_cell_at : FnB P w K mg base k "_law_cell_at" g2 gd2 ["_law_script", "_law_k"] (sp_cell_at K)) (G_law_none : FnB P w K mg base k "_law_none" g3 gd3 ["_law_cell"] sp_none)
    (G_law_spoiled : FnB P w K mg base k "_law_spoiled" g4 gd4 ["_law_one", "_law_other", "_law_cell"] sp_spoiled) (G_law_open : FnB P w K mg base k "_law_open" g5 gd5 ["_law_many", "_law_cell"] sp_open) (G_law_told : FnB P w K mg base k "_law_told" g6 gd6 ["_law_text_here", "_law_due"] sp_told)
    (G_read : FnF P w K mg base k "read" g7 gd7 ["text"] (sp_readF cN cG)) : FnOk P w K mg base CX0 (k + 1) f fd ["_law_script"] (sp_law K) := by
  refine F.ok sc_law (fun vs H Q E h => ?_) (fun cdv A outer s H vs Q E hr h => ?_)
  · obtain ⟨a, ns, rfl, _⟩ := h
    rfl
  obtain ⟨a, ns, rfl, hS, h63, q⟩ := h
  refine sealed ⟨_, (pss_consS (ps_setS (i := 1) sc_law.nd rfl (Or.inl rfl) ⟨pe_call G_law_cell_at.ok hr (by rfl) G_law_cell_at.gl G_law_cell_at.kp G_law_cell_at.bd .nil pass0 (pa_cons (pv 0) (pa_cons pe_int pa_nil))⟩)
    (pss_consS (ps_setS (i := 2) sc_law.nd rfl (Or.inl rfl) ⟨pe_call G_law_cell_at.ok hr (by rfl) G_law_cell_at.gl G_law_cell_at.kp G_law_cell_at.bd .nil pass0 (pa_cons (pv 0) (pa_cons pe_int pa_nil))⟩)
    (pss_consS (ps_setS (i := 3) sc_law.nd rfl (Or.inl rfl) ⟨pe_call G_law_text.ok hr (by rfl) G_law_text.gl G_law_text.kp G_law_text.bd .nil pass0 (pa_cons (pe_slice (r := rSlL K) sl_list (pv 0) (po_some pe_int) (po_some pe_int)) (pa_cons pe_int pa_nil))⟩)
    (pss_consS (ps_setS (i := 4) sc_law.nd rfl (Or.inl rfl) ⟨pe_call G_law_text.ok hr (by rfl) G_law_text.gl G_law_text.kp G_law_text.bd .nil pass0 (pa_cons (pe_slice (r := rSlL K) sl_list (pv 0) (po_some pe_int) (po_some pe_int)) (pa_cons pe_int pa_nil))⟩)
    (pss_consS (ps_setS (i := 5) sc_law.nd rfl (Or.inl rfl) (pe_lstS (pa_consS ⟨pe_bl⟩ (pa_consS ⟨pe_bl⟩ (pa_consS ⟨pe_bl⟩ (pa_consS ⟨pe_bl⟩ ⟨pa_nil⟩))))))
    (pss_consS (ps_setS (i := 6) sc_law.nd rfl (Or.inl rfl) (pe_lstS (pa_consS ⟨pe_bl⟩ (pa_consS ⟨pe_bl⟩ (pa_consS ⟨pe_bl⟩ (pa_consS ⟨pe_bl⟩ ⟨pa_nil⟩))))))
    (pss_consS (ps_ifS ⟨pt_cmpR op_eq (pe_op op_mod (pv 1) pe_int) pe_int (nomark _)⟩ (pss_oneS (ps_retS ⟨pe_call G_law_told.ok hr (by rfl) G_law_told.gl G_law_told.kp G_law_told.bd .nil pass0 (pa_cons (pe_call G_law_none.ok hr (by rfl) G_law_none.gl G_law_none.kp G_law_none.bd .nil pass0 (pa_cons (pe_op op_fdiv (pv 1) pe_int) pa_nil)) (pa_cons (pv 5) pa_nil))⟩)) ⟨pss_nil⟩)
    (pss_consS (ps_ifS ⟨pt_cmpR op_lt (pe_op op_mod (pv 1) pe_int) pe_int (nomark _)⟩ (pss_oneS (ps_retS ⟨pe_call G_law_told.ok hr (by rfl) G_law_told.gl G_law_told.kp G_law_told.bd .nil pass0 (pa_cons (pe_call G_law_spoiled.ok hr (by rfl) G_law_spoiled.gl G_law_spoiled.kp G_law_spoiled.bd .nil pass0 (pa_cons (pv 3) (pa_cons (pv 4) (pa_cons (pv 2) pa_nil)))) (pa_cons (pv 5) pa_nil))⟩)) ⟨pss_nil⟩)
    (pss_consS (ps_ifS ⟨pt_cmpR op_eq (pe_op op_mod (pv 1) pe_int) pe_int (nomark _)⟩ (pss_consS (ps_setS (i := 7) sc_law.nd rfl (Or.inl rfl) (pe_opS op_add_str (pe_opS op_add_str (pe_opS op_mulS (pe_ixS (r := rIxL K) ix_list (pe_lstS (pa_cS ⟨pe_str⟩ (pa_cS ⟨pe_str⟩ ⟨pa_nil⟩))) (pe_opS op_mul (pe_opS op_mod (pe_opS op_fdiv ⟨pv 1⟩ ⟨pe_int⟩) ⟨pe_int⟩) (pe_opS op_mod ⟨pv 2⟩ ⟨pe_int⟩)) (fun _ _ => rfl)) ⟨pe_int⟩) (pe_opS op_mulS ⟨pe_str⟩ ⟨pe_int⟩)) (pe_ixS (r := rIxL K) ix_list (pe_lstRS [.str ")+-", .str "", .str "x"] (by decide +kernel)) (pe_opS op_mod ⟨pv 2⟩ ⟨pe_int⟩) (fun _ _ => rfl))))
    (pss_consS (ps_setS (i := 7) sc_law.nd rfl (Or.inl rfl) (pe_opS op_add_str ⟨pv 7⟩ (pe_opS op_mulS ⟨pe_str⟩ (pe_opS op_add (pe_opS op_sub ⟨pe_int⟩ ⟨pe_callB call_len_str (by rfl) z_len PySem.boot_len (pa_cons (pv 7) pa_nil)⟩) (pe_opS op_mod (pe_opS op_fdiv ⟨pv 2⟩ ⟨pe_int⟩) ⟨pe_int⟩)))))
    (pss_oneS (ps_retS ⟨pe_call G_law_told.ok hr (by rfl) G_law_told.gl G_law_told.kp G_law_told.bd .nil pass0 (pa_cons (pv 7) (pa_cons (pe_ix (r := rIxL K) ix_list (pe_lst (pa_cons (pv 5) (pa_cons (pv 6) pa_nil)) : PE _ _ _) (pe_op op_mod (pe_op op_fdiv (pv 2) pe_int) pe_int) (fun _ _ => rfl)) pa_nil))⟩)))) ⟨pss_nil⟩)
    (pss_consS (ps_setS (i := 8) sc_law.nd rfl (Or.inl rfl) (pe_ixS (r := rIxL K) ix_list (pe_lstS (pa_cS ⟨pe_str⟩ (pa_cS ⟨pe_str⟩ ⟨pa_nil⟩))) ⟨pe_callB (call_min2 rfl) (by rfl) z_min PyProof.Rows.boot_min (pa_cons (pe_op op_mod (pv 2) pe_int) (pa_cons pe_int pa_nil))⟩ (fun _ _ => rfl)))
    (pss_consS ⟨ps_for PassesOwn.never rfl (pi_list (pe_lst (pa_cons pe_int (pa_cons pe_int pa_nil)) : PE _ _ _)) (pg_name (i := 9) sc_law.nd rfl (Or.inl rfl)) (pss_cons (ps_set (i := 7) sc_law.nd rfl (Or.inl rfl) (pe_op op_add_str (pe_op op_add_str (pv 8) (pe_call G_law_open.ok hr (by rfl) G_law_open.gl G_law_open.kp G_law_open.bd .nil pass0 (pa_cons (pv 9) (pa_cons (pe_op op_mod (pe_op op_fdiv (pv 1) pe_int) pe_int) pa_nil)))) (pe_ix (r := rIxL K) ix_list (pe_lstR [.str "", .str "", .str "x", .str ")"] (by rfl) : PE _ _ _) (pe_op op_mod (pe_op op_fdiv (pv 2) pe_int) pe_int) (fun _ _ => rfl))))
    (pss_cons (ps_if (pw_and (pt_cmpR op_eq (pv 9) pe_int (nomark _)) (pw_and1 (pt_not (pt_val (pe_call G_law_told.ok hr (by rfl) G_law_told.gl G_law_told.kp G_law_told.bd .nil pass0 (pa_cons (pv 7) (pa_cons (pv 6) pa_nil))))))).pt (pss_one (ps_ret pe_bl)) pss_nil)
    (pss_cons (ps_if (pw_and (pt_cmpR op_eq (pv 9) pe_int (nomark _)) (pw_and (pw_or (pt_cmpR op_ne (pv 8) pe_str (nomark _)) (pw_or1 (pt_cmpR op_gt (pe_op op_mod (pe_op op_fdiv (pv 2) pe_int) pe_int) pe_int (nomark _)))).pt (pw_and1 (pt_not (pt_val (pe_call G_law_told.ok hr (by rfl) G_law_told.gl G_law_told.kp G_law_told.bd .nil pass0 (pa_cons (pv 7) (pa_cons (pv 5) pa_nil)))))))).pt (pss_one (ps_ret pe_bl)) pss_nil)
    (pss_one (ps_if (pw_and (pt_cmpR op_eq (pv 9) pe_int (nomark _)) (pw_and (pt_cmpR op_eq (pv 8) pe_str (nomark _)) (pw_and (pt_cmpR op_lt (pe_op op_mod (pe_op op_fdiv (pv 2) pe_int) pe_int) pe_int (nomark _)) (pw_and1 (pt_not (pt_val (pe_callB call_isi (by rfl) z_isinstance PyProof.Rows.boot_isinstance (pa_cons (pe_call G_read.ok hr (by rfl) G_read.gl G_read.kp G_read.bd .nil passF (pa_cons (pv 7) pa_nil)) (pa_cons (pe_bltn (v := .ty _) (by rfl) z_tuple PyProof.Rows.boot_tuple (by rfl)) pa_nil))))))))).pt (pss_one (ps_ret pe_bl)) pss_nil)))))⟩
    (pss_oneS (ps_retS ⟨pe_bl⟩))))))))))))), ?_⟩
  have d2 : 2 ≤ sizeLine := by decide
  have d3 : 3 ≤ sizeLine := by decide
  have d4 : 4 ≤ sizeLine := by decide
  refine ⟨_, rfl, a, ns, 0, rfl, hS, by decide, fun C => ?_⟩
  refine ⟨_, rfl, a, ns, 1, rfl, hS, by decide, fun M => ?_⟩
  obtain ⟨m1, em1, lm1⟩ := cut12 (ns := ns) 2
  obtain ⟨m2, em2, lm2⟩ := cut12 (ns := ns) 14
  refine ⟨_, rfl, _, rfl, _, rfl, a, _, rfl, hS, fun p1 hp1 => ?_⟩
  rw [show cutV (ns.map V.int) (some 2) (some 14) = m1.map V.int from em1]
  have g1 := same_upd (o := .lst (m1.map V.int)) hp1
  refine ⟨p1, m1, 11, rfl, SqL.of upd_same, by omega, by decide, by decide, by decide, fun t1 H1 g2 gd1 => ?_⟩
  have gA := g1.trans g2
  refine ⟨_, rfl, _, rfl, _, rfl, a, _, rfl, gA.seq hS, fun p2 hp2 => ?_⟩
  rw [show cutV (ns.map V.int) (some 14) (some 26) = m2.map V.int from em2]
  have g3 := same_upd (o := .lst (m2.map V.int)) hp2
  refine ⟨p2, m2, 11, rfl, SqL.of upd_same, by omega, by decide, by decide, by decide, fun t2 H2 g4 gd2 => ?_⟩
  refine ⟨d4, fun pw hpw => ⟨d4, fun pg hpg => ?_⟩⟩
  have hw : (upd (upd H2 pw (.lst (dueL false))) pg (.lst (dueL true))) pw = some (.lst (dueL false)) := (same_upd hpg) _ _ upd_same
  have hgr : (upd (upd H2 pw (.lst (dueL false))) pg (.lst (dueL true))) pg = some (.lst (dueL true)) := upd_same
  have conv : (upd (upd H2 pw (.lst [V.bl true, V.bl false, V.bl false, V.bl true])) pg (.lst [V.bl false, V.bl true, V.bl false, V.bl true])) = (upd (upd H2 pw (.lst (dueL false))) pg (.lst (dueL true))) := rfl
  rw [conv]
  generalize upd (upd H2 pw (.lst (dueL false))) pg (.lst (dueL true)) = H3 at hw hgr ⊢
  refine ⟨_, rfl, _, _, rfl, rfl, (show (0 : Int) < 5 by decide), rfl, _, rfl, ite2 (fun _ => ?_) (fun c0 => ?_)⟩
  · refine ⟨_, rfl, _, _, rfl, rfl, ⟨(show (0 : Int) < 5 by decide), (show (5 : Int) < 1073741824 by decide)⟩, _, rfl, fun T H5 g5 hN => ?_⟩
    have hl := hN.len
    exact ⟨_, rfl, T, pw, false, rfl, g5 _ _ hw, by omega, (none_due hN).1, fun _ => (none_due hN).2, fun H6 _ => q H6⟩
  refine ⟨_, rfl, _, _, rfl, rfl, (show (0 : Int) < 5 by decide), _, _, rfl, rfl, _, rfl, ite2 (fun _ => ?_) (fun c1 => ?_)⟩
  · refine ⟨_, rfl, _, rfl, _, rfl, t1, t2, m1.length, m2.length, M, rfl, gd1, gd2, lm1, lm2, fun T H5 g5 hN => ?_⟩
    have hl := hN.len
    exact ⟨_, rfl, T, pw, false, rfl, g5 _ _ hw, by omega, (none_due hN).1, fun _ => (none_due hN).2, fun H6 _ => q H6⟩
  refine ⟨_, rfl, _, _, rfl, rfl, (show (0 : Int) < 5 by decide), rfl, _, rfl, ite2 (fun _ => ?blank) (fun c3 => ?opens)⟩
  case blank =>
    have b0 : 0 ≤ C / 5 % 2 * (M % 2) ∧ C / 5 % 2 * (M % 2) < 2 := by
      rcases (show C / 5 % 2 = 0 ∨ C / 5 % 2 = 1 by omega) with e | e <;> rw [e] <;> omega
    obtain ⟨x, hx, ex⟩ := two_strs " " "(" b0.1 b0.2
    obtain ⟨y, hy, ey⟩ := at_strs (L := endL) (i := M % 3) (by omega) (by show _ < (3 : Int); omega)
    obtain ⟨f1, f2⟩ := end_facts y hy
    obtain ⟨cx, hcx, hc⟩ : ∃ c, (Str.ofString x).cps.toList = [c] ∧ (c = 32 ∨ c = 40) := by
      rcases hx with rfl | rfl
      · exact ⟨32, by decide +kernel, .inl rfl⟩
      · exact ⟨40, by decide +kernel, .inr rfl⟩
    have lx : (Str.ofString x).length = 1 := by rw [← str_len, hcx]; rfl
    have h32 : (Str.ofString " ").cps.toList = [32] := by decide +kernel
    have l32 : (Str.ofString " ").length = 1 := by rw [← str_len, h32]; rfl
    have e10 : Txt.mul (Str.ofString x) 10 = sOf (List.replicate 10 cx) := sOf_eq (mul_rep hcx 10)
    have e85 : Txt.mul (Str.ofString " ") 1985 = sOf (List.replicate 1985 32) := sOf_eq (mul_rep h32 1985)
    have r10 : (List.replicate 10 cx).length = 10 := List.length_replicate
    have r85 : (List.replicate 1985 32).length = 1985 := List.length_replicate
    refine ⟨d2, fun p3 hp3 => ⟨_, rfl, _, _, rfl, rfl, ⟨(show (0 : Int) < 5 by decide), (show (5 : Int) < 1073741824 by decide)⟩, _, _, rfl, rfl, (show (0 : Int) < 2 by decide), _, rfl, _, _, rfl, rfl, (show (0 : Int) < 2 by decide), _, _, rfl, rfl, .inr ⟨by omega, by omega⟩, p3, _, _, _, rfl, rfl, SqL.of upd_same, ex, _, _, rfl, rfl, by decide, by decide, by omega, ?_⟩⟩
    refine ⟨_, _, rfl, rfl, by decide, by decide, by omega, ?_⟩
    rw [e10, e85]
    refine ⟨_, _, rfl, rfl, line_of (by rw [sOf_len, sOf_len]; omega), ?_⟩
    rw [sOf_app]
    refine ⟨d3, fun p4 hp4 => ⟨_, rfl, _, _, rfl, rfl, (show (0 : Int) < 3 by decide), p4, _, _, _, rfl, rfl, SqL.of upd_same, ey, ?_⟩⟩
    rw [str_tx y]
    refine ⟨_, _, rfl, rfl, line_of (by rw [sOf_len, sOf_len, List.length_append]; omega), ?_⟩
    rw [sOf_app]
    obtain ⟨g, dd, hM, e3, hdd⟩ : ∃ (g : Bool) (dd : Addr), M / 6 % 2 = (g.toNat : Int) ∧ atI [V.ref pw, V.ref pg] (M / 6 % 2) = some (.ref dd) ∧ H3 dd = some (.lst (dueL g)) := by
      rcases (show M / 6 % 2 = 0 ∨ M / 6 % 2 = 1 by omega) with e | e
      · exact ⟨false, pw, e, by rw [e]; rfl, hw⟩
      · exact ⟨true, pg, e, by rw [e]; rfl, hgr⟩
    have hg1 : g.toNat ≤ 1 := by cases g <;> decide
    have eL : (List.replicate 10 cx ++ List.replicate 1985 32 ++ tx y).length = 1995 + (tx y).length := by rw [List.length_append, List.length_append, r10, r85]
    refine ⟨_, rfl, _, rfl, _, rfl, line_of (by rw [sOf_len]; omega), _, _, rfl, rfl, _, rfl, _, _, rfl, rfl, ⟨(show (0 : Int) < 6 by decide), (show (6 : Int) < 1073741824 by decide)⟩, _, _, rfl, rfl, (show (0 : Int) < 2 by decide), _, _, rfl, rfl, _, _, rfl, rfl, (by rw [sOf_len]; omega), (by rw [sOf_len]; omega), (by omega), ?_⟩
    rw [sOf_eq (mul_rep h32 _)]
    obtain ⟨kk, hk, hk2⟩ : ∃ kk : Nat, (2000 - ((sOf (List.replicate 10 cx ++ List.replicate 1985 32 ++ tx y)).length : Int) + M / 6 % 2).toNat = kk ∧ 1995 + (tx y).length + kk = 2000 + g.toNat := ⟨_, rfl, by rw [sOf_len]; omega⟩
    rw [hk]
    have rk : (List.replicate kk 32).length = kk := List.length_replicate
    refine ⟨_, _, rfl, rfl, line_of (by rw [sOf_len, sOf_len]; omega), ?_⟩
    rw [sOf_app]
    have eT : List.replicate 10 cx ++ List.replicate 1985 32 ++ tx y ++ List.replicate kk 32 = List.replicate 10 cx ++ (List.replicate 1985 32 ++ (tx y ++ List.replicate kk 32)) := by simp only [List.append_assoc]
    have lT : (List.replicate 10 cx ++ (List.replicate 1985 32 ++ (tx y ++ List.replicate kk 32))).length = 2000 + g.toNat := by
      simp only [List.length_append, r10, r85, rk]
      omega
    rw [eT]
    have hdue := blank_due hc f1 lT
    refine ⟨_, rfl, _, rfl, _, rfl, d2, fun p5 hp5 => ⟨_, rfl, _, _, rfl, rfl, ⟨(show (0 : Int) < 6 by decide), (show (6 : Int) < 1073741824 by decide)⟩, _, _, rfl, rfl, (show (0 : Int) < 2 by decide), p5, _, _, _, rfl, rfl, SqL.of upd_same, e3, ?_⟩⟩
    refine ⟨_, dd, g, rfl, (same_upd hp5) _ _ ((same_upd hp4) _ _ ((same_upd hp3) _ _ hdd)), by rw [sOf_len, lT]; omega, hdue, fun hh => ?_, fun H6 _ => q H6⟩
    cases g with
    | false =>
      refine absurd ?_ hh
      rw [sOf_len, lT]
      decide
    | true =>
      refine great_due ?_
      rw [strLen_append, sOf_len, lT]
      show 2000 < 2000 + 1 + _
      omega
  case opens =>
    have m01 : 0 ≤ (if (1 : Int) < M % 3 then 1 else M % 3) ∧ (if (1 : Int) < M % 3 then 1 else M % 3) < 2 := by split <;> omega
    obtain ⟨x, hx, ex⟩ := two_strs ")))" "" m01.1 m01.2
    have hxa : x ∈ aheadE := by rcases hx with rfl | rfl <;> decide
    have lxa : (tx x).length ≤ 3 := by
      have : ∀ a ∈ aheadE, (tx a).length ≤ 3 := by decide +kernel
      exact this x hxa
    obtain ⟨y, hy, ey⟩ := at_strs (L := behindL) (i := M / 3 % 4) (by omega) (by show _ < (4 : Int); omega)
    have lyb : (tx y).length ≤ 3 := by
      have : ∀ a ∈ behindL, (tx a).length ≤ 3 := by decide +kernel
      exact this y hy
    refine ⟨d2, fun p3 hp3 => ⟨_, rfl, _, _, rfl, rfl, (show (0 : Int) < 3 by decide), _, _, rfl, p3, _, _, _, rfl, rfl, SqL.of upd_same, ex, ?_⟩⟩
    refine ⟨d2, fun p4 hp4 => ⟨p4, rfl, ⟨_, SqL.of upd_same⟩, ?_⟩⟩
    have hw4 := (same_upd (o := .lst [V.int 16, V.int 17]) hp4) _ _ ((same_upd (o := .lst [V.str (Str.ofString ")))"), V.str (Str.ofString "")]) hp3) _ _ hw)
    have hg4 := (same_upd (o := .lst [V.int 16, V.int 17]) hp4) _ _ ((same_upd (o := .lst [V.str (Str.ofString ")))"), V.str (Str.ofString "")]) hp3) _ _ hgr)
    have hl4 : SqL K (upd (upd H3 p3 (.lst [V.str (Str.ofString ")))"), V.str (Str.ofString "")])) p4 (.lst [V.int 16, V.int 17])) p4 [V.int 16, V.int 17] := SqL.of upd_same
    generalize upd (upd H3 p3 (.lst [V.str (Str.ofString ")))"), V.str (Str.ofString "")])) p4 (.lst [V.int 16, V.int 17]) = H4 at hw4 hg4 hl4 ⊢
    refine for_list (xs := [V.int 16, V.int 17]) (fun i σ' H' => ∃ (s7 s9 : Option V), σ' = [some (.ref a), some (.int C), some (.int M), some (.str (sOf (txT t1))), some (.str (sOf (txT t2))), some (.ref pw), some (.ref pg), s7, some (.str (Str.ofString x)), s9] ∧ Same H4 H') ?_ ?_ ?_ ?_
    · exact ⟨none, none, rfl, .refl _⟩
    · rintro i σ1 H1' _ ⟨s7, s9, rfl, g⟩
      exact g.seq hl4
    · rintro i v σ1 H5 hv ⟨s7, s9, rfl, g⟩
      obtain ⟨n, rfl, hn⟩ : ∃ n : Nat, v = .int n ∧ (n = 16 ∨ n = 17) := by
        match i, hv with
        | 0, hv => exact ⟨16, by simpa using hv.symm, .inl rfl⟩
        | 1, hv => exact ⟨17, by simpa using hv.symm, .inr rfl⟩
      refine ⟨_, rfl, _, rfl, _, rfl, _, _, rfl, rfl, ⟨(show (0 : Int) < 5 by decide), (show (5 : Int) < 1073741824 by decide)⟩, _, _, rfl, rfl, (show (0 : Int) < 2147483647 by decide), n, _, rfl, by omega, by omega, fun t H6 g6 ht => ?_⟩
      have lt := ht.len
      rw [str_tx x]
      refine ⟨_, _, rfl, rfl, line_of (by rw [sOf_len, sOf_len]; omega), ?_⟩
      rw [sOf_app]
      refine ⟨d4, fun p6 hp6 => ⟨_, rfl, _, _, rfl, rfl, ⟨(show (0 : Int) < 3 by decide), (show (3 : Int) < 1073741824 by decide)⟩, _, _, rfl, rfl, (show (0 : Int) < 4 by decide), p6, _, _, _, rfl, rfl, SqL.of upd_same, ey, ?_⟩⟩
      rw [str_tx y]
      refine ⟨_, _, rfl, rfl, line_of (by rw [sOf_len, sOf_len, List.length_append]; omega), ?_⟩
      rw [sOf_app]
      have gz := g.trans (g6.trans (same_upd (o := .lst [V.str "", V.str "", V.str "x", V.str ")"]) hp6))
      have lTx : (sOf (tx x ++ txT t ++ tx y)).length ≤ 9000 := by rw [sOf_len]; simp only [List.length_append]; omega
      rw [← str_tx x]
      rcases hn with rfl | rfl
      · refine ⟨_, rfl, rfl, _, rfl, ite2 (fun c => absurd c (by decide)) (fun _ => iteF ?_)⟩
        refine ⟨_, rfl, rfl, _, rfl, ite2 (fun _ => ?_) (fun c => absurd (by decide) c)⟩
        have bad : (x ≠ "" ∨ y = "x" ∨ y = ")") → NoneOk (sOf (tx x ++ txT t ++ tx y)) := fun h => open_none ht (by decide) (by decide) hxa hy h
        have yk : (M / 3 % 4 < 2 → y = "") ∧ (1 < M / 3 % 4 → y = "x" ∨ y = ")") := by
          simp only [behindL, List.mem_cons, List.not_mem_nil, or_false] at hy
          rcases (show M / 3 % 4 = 0 ∨ M / 3 % 4 = 1 ∨ M / 3 % 4 = 2 ∨ M / 3 % 4 = 3 by omega) with e | e | e | e <;> rw [e] at ey ⊢ <;> rcases hy with rfl | rfl | rfl | rfl <;> first | exact ⟨fun _ => rfl, fun z => absurd z (by decide)⟩ | exact ⟨fun z => absurd z (by decide), fun _ => .inl rfl⟩ | exact ⟨fun z => absurd z (by decide), fun _ => .inr rfl⟩ | exact absurd ey (by decide +kernel)
        refine ⟨_, rfl, rfl, _, rfl, ite2 (fun hne => iteT ?_) (fun heq => ?_)⟩
        · rcases hx with rfl | rfl
          · have hN := bad (.inl (by decide))
            refine ⟨_, rfl, _, rfl, _, pw, false, rfl, gz _ _ hw4, lTx, (none_due hN).1, fun _ => (none_due hN).2, fun H7 g7 => ⟨_, rfl, iteF ?_⟩⟩
            refine ⟨_, rfl, rfl, _, rfl, ite2 (fun _ => ?_) (fun c => absurd (by decide) c)⟩
            refine ⟨_, rfl, rfl, _, rfl, ite2 (fun c => absurd c (by decide +kernel)) (fun _ => iteF ?_)⟩
            exact ⟨_, _, rfl, gz.trans g7⟩
          · exact absurd hne (by decide +kernel)
        · rcases hx with rfl | rfl
          · exact absurd (by decide +kernel) heq
          · refine ⟨_, rfl, _, _, rfl, rfl, ⟨(show (0 : Int) < 3 by decide), (show (3 : Int) < 1073741824 by decide)⟩, _, _, rfl, rfl, (show (0 : Int) < 4 by decide), _, _, rfl, rfl, _, rfl, ite2 (fun gt => ?_) (fun ngt => iteF ?_)⟩
            · have gt' : 1 < M / 3 % 4 := of_decide_eq_true gt
              have hN := bad (.inr (yk.2 gt'))
              refine ⟨_, rfl, _, rfl, _, pw, false, rfl, gz _ _ hw4, lTx, (none_due hN).1, fun _ => (none_due hN).2, fun H7 g7 => ⟨_, rfl, iteF ?_⟩⟩
              refine ⟨_, rfl, rfl, _, rfl, ite2 (fun _ => ?_) (fun c => absurd (by decide) c)⟩
              refine ⟨_, rfl, rfl, _, rfl, ite2 (fun _ => ?_) (fun c => absurd (by decide +kernel) c)⟩
              refine ⟨_, rfl, _, _, rfl, rfl, ⟨(show (0 : Int) < 3 by decide), (show (3 : Int) < 1073741824 by decide)⟩, _, _, rfl, rfl, (show (0 : Int) < 4 by decide), _, _, rfl, rfl, _, rfl, ite2 (fun c => absurd (of_decide_eq_true c) (by omega)) (fun _ => iteF ?_)⟩
              exact ⟨_, _, rfl, gz.trans g7⟩
            · have ngt' : ¬ (1 < M / 3 % 4) := fun z => ngt (decide_eq_true z)
              have hy0 := yk.1 (by omega)
              subst hy0
              have eT : tx "" ++ txT t ++ tx "" = txT t := by rw [show tx "" = [] by decide +kernel]; simp
              rw [eT]
              have ng : ¬ Great (sOf (txT t)) := fun z => by
                rcases z with z | z
                · rw [sOf_len] at z
                  omega
                · rw [sOf_list] at z
                  have := (tree_bal ht.ok).up_.mo
                  have := ht.op
                  omega
              have sh : shapeP 17 (sOf (txT t)).cps.toList = some (t, []) := by
                have := shape_comp (n := 17) (t := t) (r := []) ht.ok (by have := ht.dp; omega) end_nil
                rw [List.append_nil] at this
                rw [sOf_list]
                exact this
              refine ⟨_, rfl, rfl, _, rfl, ite2 (fun _ => ?_) (fun c => absurd (by decide) c)⟩
              refine ⟨_, rfl, rfl, _, rfl, ite2 (fun _ => ?_) (fun c => absurd (by decide +kernel) c)⟩
              refine ⟨_, rfl, _, _, rfl, rfl, ⟨(show (0 : Int) < 3 by decide), (show (3 : Int) < 1073741824 by decide)⟩, _, _, rfl, rfl, (show (0 : Int) < 4 by decide), _, _, rfl, rfl, _, rfl, ite2 (fun _ => ?_) (fun c => absurd (decide_eq_true (by omega)) c)⟩
              refine ⟨_, rfl, _, rfl, by rw [sOf_len]; omega, fun z => absurd z ng, fun _ => ⟨fun t' e v H7 g7 hv => ?_, fun no => absurd sh (no t)⟩⟩
              obtain ⟨p, xs, rfl, ep⟩ := hv.tupo
              refine ⟨_, "tuple", _, true, rfl, .tup ep, ?_, ?_⟩
              · first | exact kit_self | rfl
              · exact ⟨_, rfl, iteF ⟨_, _, rfl, gz.trans g7⟩⟩
      · obtain ⟨du1, du2⟩ := open_due (b := y) ht (Nat.le_refl _) hxa
        refine ⟨_, rfl, rfl, _, rfl, ite2 (fun _ => ?_) (fun c => absurd (by decide) c)⟩
        refine ⟨_, rfl, _, rfl, _, pg, true, rfl, gz _ _ hg4, lTx, du1, fun _ => du2, fun H7 g7 => ⟨_, rfl, iteF ?_⟩⟩
        refine ⟨_, rfl, rfl, _, rfl, ite2 (fun c => absurd c (by decide)) (fun _ => iteF ?_)⟩
        refine ⟨_, rfl, rfl, _, rfl, ite2 (fun c => absurd c (by decide)) (fun _ => iteF ?_)⟩
        exact ⟨_, _, rfl, gz.trans g7⟩
    · rintro σ1 H1' ⟨s7, s9, rfl, g⟩
      exact q _
end
end K07
set_option Elab.async false
set_option linter.all false
set_option maxRecDepth 100000
set_option maxHeartbeats 4000000
namespace K07
open PySem PySem.Spec L2 PyProof.Rows
theorem keep_of {K : PySem.W.Frag} {f : Addr} {oc : Value} {od : Option Addr} {fd : FuncData} {sl : Array (Option Value)} (l : K.lookup f = some ⟨oc, od, .func fd, sl⟩) : PySem.W.keepIn K (.ref f) = true := by unfold PySem.W.keepIn; dsimp only; rw [l]
theorem all_mk {l : PySem.W.OpenLaw} {w : World} {K : PySem.W.Frag} {h : Heap} {mg : Str → Option Value} {fa f0 f1 f2 f3 f4 f5 f6 f7 f8 f9 f10 f11 f12 f13 f14 f15 f16 f17 f18 f19 f20 f21 f22 f23 f24 f25 f26 f27 f28 lv_KEPT_WORDS c_RecastError c_NoText c_TooGreat c_NoRule c_Reader : Addr} (X : K.In h) (G : h.Ns mainGlobals mg) (hfa : mg "law" = some (.ref fa))
    {od0 an0 : Option Addr} {sl0 : Array (Option Value)} {oc0 kV0 dc0 pm0 cd0 ct0 : Value}
    {od1 an1 : Option Addr} {sl1 : Array (Option Value)} {oc1 kV1 dc1 pm1 cd1 ct1 : Value}
    {od2 an2 : Option Addr} {sl2 : Array (Option Value)} {oc2 kV2 dc2 pm2 cd2 ct2 : Value}
    {od3 an3 : Option Addr} {sl3 : Array (Option Value)} {oc3 kV3 dc3 pm3 cd3 ct3 : Value}
    {od4 an4 : Option Addr} {sl4 : Array (Option Value)} {oc4 kV4 dc4 pm4 cd4 ct4 : Value}
    {od5 an5 : Option Addr} {sl5 : Array (Option Value)} {oc5 kV5 dc5 pm5 cd5 ct5 : Value}
    {od6 an6 : Option Addr} {sl6 : Array (Option Value)} {oc6 kV6 dc6 pm6 cd6 ct6 : Value}
    {od7 an7 : Option Addr} {sl7 : Array (Option Value)} {oc7 kV7 dc7 pm7 cd7 ct7 : Value}
    {od8 an8 : Option Addr} {sl8 : Array (Option Value)} {oc8 kV8 dc8 pm8 cd8 ct8 : Value}
    {od9 an9 : Option Addr} {sl9 : Array (Option Value)} {oc9 kV9 dc9 pm9 cd9 ct9 : Value}
    {od10 an10 : Option Addr} {sl10 : Array (Option Value)} {oc10 kV10 dc10 pm10 cd10 ct10 : Value}
    {od11 an11 : Option Addr} {sl11 : Array (Option Value)} {oc11 kV11 dc11 pm11 cd11 ct11 : Value}
    {od12 an12 : Option Addr} {sl12 : Array (Option Value)} {oc12 kV12 dc12 pm12 cd12 ct12 : Value}
    {od13 an13 : Option Addr} {sl13 : Array (Option Value)} {oc13 kV13 dc13 pm13 cd13 ct13 : Value}
    {od14 an14 : Option Addr} {sl14 : Array (Option Value)} {oc14 kV14 dc14 pm14 cd14 ct14 : Value}
    {od15 an15 : Option Addr} {sl15 : Array (Option Value)} {oc15 kV15 dc15 pm15 cd15 ct15 : Value}
    {od16 an16 : Option Addr} {sl16 : Array (Option Value)} {oc16 kV16 dc16 pm16 cd16 ct16 : Value}
    {od17 an17 : Option Addr} {sl17 : Array (Option Value)} {oc17 kV17 dc17 pm17 cd17 ct17 : Value}
    {od18 an18 : Option Addr} {sl18 : Array (Option Value)} {oc18 kV18 dc18 pm18 cd18 ct18 : Value}
    {od19 an19 : Option Addr} {sl19 : Array (Option Value)} {oc19 kV19 dc19 pm19 cd19 ct19 : Value}
    {od20 an20 : Option Addr} {sl20 : Array (Option Value)} {oc20 kV20 dc20 pm20 cd20 ct20 : Value}
    {od21 an21 : Option Addr} {sl21 : Array (Option Value)} {oc21 kV21 dc21 pm21 cd21 ct21 : Value}
    {od22 an22 : Option Addr} {sl22 : Array (Option Value)} {oc22 kV22 dc22 pm22 cd22 ct22 : Value}
    {od23 an23 : Option Addr} {sl23 : Array (Option Value)} {oc23 kV23 dc23 pm23 cd23 ct23 : Value}
    {od24 an24 : Option Addr} {sl24 : Array (Option Value)} {oc24 kV24 dc24 pm24 cd24 ct24 : Value}
    {od25 an25 : Option Addr} {sl25 : Array (Option Value)} {oc25 kV25 dc25 pm25 cd25 ct25 : Value}
    {od26 an26 : Option Addr} {sl26 : Array (Option Value)} {oc26 kV26 dc26 pm26 cd26 ct26 : Value}
    {od27 an27 : Option Addr} {sl27 : Array (Option Value)} {oc27 kV27 dc27 pm27 cd27 ct27 : Value}
    {od28 an28 : Option Addr} {sl28 : Array (Option Value)} {oc28 kV28 dc28 pm28 cd28 ct28 : Value}
    {odC0 : Option Addr} {slC0 : Array (Option Value)} {nC0 : Nat} {tC0_0 tC0_1 tC0_2 tC0_3 tC0_4 tC0_5 tC0_6 tC0_7 tC0_8 tC0_9 tC0_10 : Tok}
    {tk1 tk2 tk3 tk4 tk5 tk6 x0 x1 x2 x3 : Tok} {bd : Addr} {esB : Array DictEntry} {nB : Nat}
    {dd_RecastError dd_NoText dd_TooGreat dd_NoRule : Option Addr} {cd_RecastError cd_NoText cd_TooGreat cd_NoRule : ClassData} {sl_RecastError sl_NoText sl_TooGreat sl_NoRule : Array (Option Value)}
    (aK_Reader : PySem.W.nsIn K mainGlobals "Reader" = some (some (.ref c_Reader))) (pg_Reader : PySem.W.plainGet K c_Reader Str.empty = true) (hd_Reader : PySem.W.hasDictIn K c_Reader = true) (po_Reader : PySem.W.plainOver K c_Reader = true) (sa_Reader : PySem.W.findIn K (.ref c_Reader) "__setattr__" = some (some (.builtin "object.__setattr__"))) (mk_Reader : PySem.W.makesIn K c_Reader = true) (kc_Reader : PySem.W.keepIn K (.ref c_Reader) = true)
    (n_Reader_text : PySem.W.findIn K (.ref c_Reader) "text" = some none)
    (n_Reader_at : PySem.W.findIn K (.ref c_Reader) "at" = some none)
    (a0 : PySem.W.findIn K (.ref c_Reader) "__init__" = some (some (.ref f0))) (i0 : PySem.W.isFn K (.ref f0) = true)
    (l0 : K.lookup f0 = some ⟨oc0, od0, .func (PySem.W.fnOf "__init__" "Reader.__init__" (defArgs s_Reader___init__) (defBody s_Reader___init__) (defScope s_Reader___init__) .none kV0 dc0 pm0 an0 cd0 ct0), sl0⟩) (c0 : PySem.W.codeIn K cd0 "Reader.__init__" = true)
    (a1 : PySem.W.findIn K (.ref c_Reader) "stands" = some (some (.ref f1))) (i1 : PySem.W.isFn K (.ref f1) = true)
    (l1 : K.lookup f1 = some ⟨oc1, od1, .func (PySem.W.fnOf "stands" "Reader.stands" (defArgs s_Reader_stands) (defBody s_Reader_stands) (defScope s_Reader_stands) .none kV1 dc1 pm1 an1 cd1 ct1), sl1⟩) (c1 : PySem.W.codeIn K cd1 "Reader.stands" = true)
    (a2 : PySem.W.findIn K (.ref c_Reader) "skipped" = some (some (.ref f2))) (i2 : PySem.W.isFn K (.ref f2) = true)
    (l2 : K.lookup f2 = some ⟨oc2, od2, .func (PySem.W.fnOf "skipped" "Reader.skipped" (defArgs s_Reader_skipped) (defBody s_Reader_skipped) (defScope s_Reader_skipped) .none kV2 dc2 pm2 an2 cd2 ct2), sl2⟩) (c2 : PySem.W.codeIn K cd2 "Reader.skipped" = true)
    (a3 : PySem.W.findIn K (.ref c_Reader) "skip" = some (some (.ref f3))) (i3 : PySem.W.isFn K (.ref f3) = true)
    (l3 : K.lookup f3 = some ⟨oc3, od3, .func (PySem.W.fnOf "skip" "Reader.skip" (defArgs s_Reader_skip) (defBody s_Reader_skip) (defScope s_Reader_skip) .none kV3 dc3 pm3 an3 cd3 ct3), sl3⟩) (c3 : PySem.W.codeIn K cd3 "Reader.skip" = true)
    (a4 : PySem.W.findIn K (.ref c_Reader) "run_of" = some (some (.ref f4))) (i4 : PySem.W.isFn K (.ref f4) = true)
    (l4 : K.lookup f4 = some ⟨oc4, od4, .func (PySem.W.fnOf "run_of" "Reader.run_of" (defArgs s_Reader_run_of) (defBody s_Reader_run_of) (defScope s_Reader_run_of) .none kV4 dc4 pm4 an4 cd4 ct4), sl4⟩) (c4 : PySem.W.codeIn K cd4 "Reader.run_of" = true)
    (a5 : PySem.W.findIn K (.ref c_Reader) "skip_end" = some (some (.ref f5))) (i5 : PySem.W.isFn K (.ref f5) = true)
    (l5 : K.lookup f5 = some ⟨oc5, od5, .func (PySem.W.fnOf "skip_end" "Reader.skip_end" (defArgs s_Reader_skip_end) (defBody s_Reader_skip_end) (defScope s_Reader_skip_end) .none kV5 dc5 pm5 an5 cd5 ct5), sl5⟩) (c5 : PySem.W.codeIn K cd5 "Reader.skip_end" = true)
    (a6 : PySem.W.nsIn K mainGlobals "most_open" = some (some (.ref f6)))
    (l6 : K.lookup f6 = some ⟨oc6, od6, .func (PySem.W.fnOf "most_open" "most_open" (defArgs s_most_open) (defBody s_most_open) (defScope s_most_open) .none kV6 dc6 pm6 an6 cd6 ct6), sl6⟩) (c6 : PySem.W.codeIn K cd6 "most_open" = true)
    (a7 : PySem.W.nsIn K mainGlobals "begun" = some (some (.ref f7)))
    (l7 : K.lookup f7 = some ⟨oc7, od7, .func (PySem.W.fnOf "begun" "begun" (defArgs s_begun) (defBody s_begun) (defScope s_begun) .none kV7 dc7 pm7 an7 cd7 ct7), sl7⟩) (c7 : PySem.W.codeIn K cd7 "begun" = true)
    (a8 : PySem.W.nsIn K mainGlobals "word_from" = some (some (.ref f8)))
    (l8 : K.lookup f8 = some ⟨oc8, od8, .func (PySem.W.fnOf "word_from" "word_from" (defArgs s_word_from) (defBody s_word_from) (defScope s_word_from) .none kV8 dc8 pm8 an8 cd8 ct8), sl8⟩) (c8 : PySem.W.codeIn K cd8 "word_from" = true)
    (a9 : PySem.W.nsIn K mainGlobals "number_from" = some (some (.ref f9)))
    (l9 : K.lookup f9 = some ⟨oc9, od9, .func (PySem.W.fnOf "number_from" "number_from" (defArgs s_number_from) (defBody s_number_from) (defScope s_number_from) .none kV9 dc9 pm9 an9 cd9 ct9), sl9⟩) (c9 : PySem.W.codeIn K cd9 "number_from" = true)
    (a10 : PySem.W.nsIn K mainGlobals "plain_leaf_from" = some (some (.ref f10)))
    (l10 : K.lookup f10 = some ⟨oc10, od10, .func (PySem.W.fnOf "plain_leaf_from" "plain_leaf_from" (defArgs s_plain_leaf_from) (defBody s_plain_leaf_from) (defScope s_plain_leaf_from) .none kV10 dc10 pm10 an10 cd10 ct10), sl10⟩) (c10 : PySem.W.codeIn K cd10 "plain_leaf_from" = true)
    (a11 : PySem.W.nsIn K mainGlobals "atom_from" = some (some (.ref f11)))
    (l11 : K.lookup f11 = some ⟨oc11, od11, .func (PySem.W.fnOf "atom_from" "atom_from" (defArgs s_atom_from) (defBody s_atom_from) (defScope s_atom_from) .none kV11 dc11 pm11 an11 cd11 ct11), sl11⟩) (c11 : PySem.W.codeIn K cd11 "atom_from" = true)
    (a12 : PySem.W.nsIn K mainGlobals "atoms_from" = some (some (.ref f12)))
    (l12 : K.lookup f12 = some ⟨oc12, od12, .func (PySem.W.fnOf "atoms_from" "atoms_from" (defArgs s_atoms_from) (defBody s_atoms_from) (defScope s_atoms_from) .none kV12 dc12 pm12 an12 cd12 ct12), sl12⟩) (c12 : PySem.W.codeIn K cd12 "atoms_from" = true)
    (a13 : PySem.W.nsIn K mainGlobals "shape_from" = some (some (.ref f13)))
    (l13 : K.lookup f13 = some ⟨oc13, od13, .func (PySem.W.fnOf "shape_from" "shape_from" (defArgs s_shape_from) (defBody s_shape_from) (defScope s_shape_from) .none kV13 dc13 pm13 an13 cd13 ct13), sl13⟩) (c13 : PySem.W.codeIn K cd13 "shape_from" = true)
    (a14 : PySem.W.nsIn K mainGlobals "bracket_from" = some (some (.ref f14)))
    (l14 : K.lookup f14 = some ⟨oc14, od14, .func (PySem.W.fnOf "bracket_from" "bracket_from" (defArgs s_bracket_from) (defBody s_bracket_from) (defScope s_bracket_from) .none kV14 dc14 pm14 an14 cd14 ct14), sl14⟩) (c14 : PySem.W.codeIn K cd14 "bracket_from" = true)
    (a15 : PySem.W.nsIn K mainGlobals "if_from" = some (some (.ref f15)))
    (l15 : K.lookup f15 = some ⟨oc15, od15, .func (PySem.W.fnOf "if_from" "if_from" (defArgs s_if_from) (defBody s_if_from) (defScope s_if_from) .none kV15 dc15 pm15 an15 cd15 ct15), sl15⟩) (c15 : PySem.W.codeIn K cd15 "if_from" = true)
    (a16 : PySem.W.nsIn K mainGlobals "let_from" = some (some (.ref f16)))
    (l16 : K.lookup f16 = some ⟨oc16, od16, .func (PySem.W.fnOf "let_from" "let_from" (defArgs s_let_from) (defBody s_let_from) (defScope s_let_from) .none kV16 dc16 pm16 an16 cd16 ct16), sl16⟩) (c16 : PySem.W.codeIn K cd16 "let_from" = true)
    (a17 : PySem.W.nsIn K mainGlobals "two_from" = some (some (.ref f17)))
    (l17 : K.lookup f17 = some ⟨oc17, od17, .func (PySem.W.fnOf "two_from" "two_from" (defArgs s_two_from) (defBody s_two_from) (defScope s_two_from) .none kV17 dc17 pm17 an17 cd17 ct17), sl17⟩) (c17 : PySem.W.codeIn K cd17 "two_from" = true)
    (a18 : PySem.W.nsIn K mainGlobals "read" = some (some (.ref f18)))
    (l18 : K.lookup f18 = some ⟨oc18, od18, .func (PySem.W.fnOf "read" "read" (defArgs s_read) (defBody s_read) (defScope s_read) .none kV18 dc18 pm18 an18 cd18 ct18), sl18⟩) (c18 : PySem.W.codeIn K cd18 "read" = true)
    (a19 : PySem.W.nsIn K mainGlobals "read_rule" = some (some (.ref f19)))
    (l19 : K.lookup f19 = some ⟨oc19, od19, .func (PySem.W.fnOf "read_rule" "read_rule" (defArgs s_read_rule) (defBody s_read_rule) (defScope s_read_rule) .none kV19 dc19 pm19 an19 cd19 ct19), sl19⟩) (c19 : PySem.W.codeIn K cd19 "read_rule" = true)
    (a20 : PySem.W.nsIn K mainGlobals "_law_cell_at" = some (some (.ref f20)))
    (l20 : K.lookup f20 = some ⟨oc20, od20, .func (PySem.W.fnOf "_law_cell_at" "_law_cell_at" (defArgs s_law_cell_at) (defBody s_law_cell_at) (defScope s_law_cell_at) .none kV20 dc20 pm20 an20 cd20 ct20), sl20⟩) (c20 : PySem.W.codeIn K cd20 "_law_cell_at" = true)
    (a21 : PySem.W.nsIn K mainGlobals "_law_word" = some (some (.ref f21)))
    (l21 : K.lookup f21 = some ⟨oc21, od21, .func (PySem.W.fnOf "_law_word" "_law_word" (defArgs s_law_word) (defBody s_law_word) (defScope s_law_word) .none kV21 dc21 pm21 an21 cd21 ct21), sl21⟩) (c21 : PySem.W.codeIn K cd21 "_law_word" = true)
    (a22 : PySem.W.nsIn K mainGlobals "_law_text" = some (some (.ref f22)))
    (l22 : K.lookup f22 = some ⟨oc22, od22, .func (PySem.W.fnOf "_law_text" "_law_text" (defArgs s_law_text) (defBody s_law_text) (defScope s_law_text) .none kV22 dc22 pm22 an22 cd22 ct22), sl22⟩) (c22 : PySem.W.codeIn K cd22 "_law_text" = true)
    (a23 : PySem.W.nsIn K mainGlobals "_law_none" = some (some (.ref f23)))
    (l23 : K.lookup f23 = some ⟨oc23, od23, .func (PySem.W.fnOf "_law_none" "_law_none" (defArgs s_law_none) (defBody s_law_none) (defScope s_law_none) .none kV23 dc23 pm23 an23 cd23 ct23), sl23⟩) (c23 : PySem.W.codeIn K cd23 "_law_none" = true)
    (a24 : PySem.W.nsIn K mainGlobals "_law_spoiled" = some (some (.ref f24)))
    (l24 : K.lookup f24 = some ⟨oc24, od24, .func (PySem.W.fnOf "_law_spoiled" "_law_spoiled" (defArgs s_law_spoiled) (defBody s_law_spoiled) (defScope s_law_spoiled) .none kV24 dc24 pm24 an24 cd24 ct24), sl24⟩) (c24 : PySem.W.codeIn K cd24 "_law_spoiled" = true)
    (a25 : PySem.W.nsIn K mainGlobals "_law_open" = some (some (.ref f25)))
    (l25 : K.lookup f25 = some ⟨oc25, od25, .func (PySem.W.fnOf "_law_open" "_law_open" (defArgs s_law_open) (defBody s_law_open) (defScope s_law_open) .none kV25 dc25 pm25 an25 cd25 ct25), sl25⟩) (c25 : PySem.W.codeIn K cd25 "_law_open" = true)
    (a26 : PySem.W.nsIn K mainGlobals "_law_refused" = some (some (.ref f26)))
    (l26 : K.lookup f26 = some ⟨oc26, od26, .func (PySem.W.fnOf "_law_refused" "_law_refused" (defArgs s_law_refused) (defBody s_law_refused) (defScope s_law_refused) .none kV26 dc26 pm26 an26 cd26 ct26), sl26⟩) (c26 : PySem.W.codeIn K cd26 "_law_refused" = true)
    (a27 : PySem.W.nsIn K mainGlobals "_law_told" = some (some (.ref f27)))
    (l27 : K.lookup f27 = some ⟨oc27, od27, .func (PySem.W.fnOf "_law_told" "_law_told" (defArgs s_law_told) (defBody s_law_told) (defScope s_law_told) .none kV27 dc27 pm27 an27 cd27 ct27), sl27⟩) (c27 : PySem.W.codeIn K cd27 "_law_told" = true)
    (a28 : PySem.W.nsIn K mainGlobals "law" = some (some (.ref f28)))
    (l28 : K.lookup f28 = some ⟨oc28, od28, .func (PySem.W.fnOf "law" "law" (defArgs s_law) (defBody s_law) (defScope s_law) .none kV28 dc28 pm28 an28 cd28 ct28), sl28⟩) (c28 : PySem.W.codeIn K cd28 "law" = true)
    (aC0 : PySem.W.nsIn K mainGlobals "KEPT_WORDS" = some (some (.ref lv_KEPT_WORDS))) (lC0 : K.lookup lv_KEPT_WORDS = some ⟨.type "tuple", odC0, .seq #[.str "let" tC0_0, .str "in" tC0_1, .str "if" tC0_2, .str "then" tC0_3, .str "else" tC0_4, .str "say" tC0_5, .str "ask" tC0_6, .str "stop" tC0_7, .str "where" tC0_8, .str "quiet" tC0_9, .str "number" tC0_10] nC0, slC0⟩)
    (aX0 : PySem.W.nsIn K mainGlobals "RecastError" = some (some (.ref c_RecastError)))
    (aX1 : PySem.W.nsIn K mainGlobals "NoText" = some (some (.ref c_NoText)))
    (aX2 : PySem.W.nsIn K mainGlobals "TooGreat" = some (some (.ref c_TooGreat)))
    (aX3 : PySem.W.nsIn K mainGlobals "NoRule" = some (some (.ref c_NoRule)))
    (aLt : PySem.W.nsIn K mainGlobals "LETTERS" = some (some (.str "abcdefghijklmnopqrstuvwxyz" tk1)))
    (aFg : PySem.W.nsIn K mainGlobals "FIGURES" = some (some (.str "0123456789" tk2)))
    (aM1 : PySem.W.nsIn K mainGlobals "MOST_SIGNS" = some (some (.int 2000 tk3)))
    (aM2 : PySem.W.nsIn K mainGlobals "MOST_OPEN" = some (some (.int 16 tk4)))
    (aM3 : PySem.W.nsIn K mainGlobals "MOST_LETTERS" = some (some (.int 8 tk5)))
    (aM4 : PySem.W.nsIn K mainGlobals "MOST_FIGURES" = some (some (.int 30 tk6)))
    (aB : PySem.W.nsIn K mainGlobals "BETWEEN" = some (some (.ref bd)))
    (lB : K.lookup bd = some ⟨.type "dict", none, .dict esB nB, #[]⟩)
    (kB : PySem.W.KeysLit w.params esB.toList)
    (sB : (bd == sysModules) = false)
    (pB : Paired (fun (x : Str) (e : DictEntry) => ∃ t, e.key = .str x t) betw esB.toList)
    (nB0 : PySem.W.nsIn K bd "add" = some (some (.str " + " x0)))
    (nB1 : PySem.W.nsIn K bd "sub" = some (some (.str " - " x1)))
    (nB2 : PySem.W.nsIn K bd "mul" = some (some (.str " * " x2)))
    (nB3 : PySem.W.nsIn K bd "then" = some (some (.str " ; " x3)))
    (RecastError_ga : PySem.W.findIn K (.ref c_RecastError) "__getattribute__" = some (some (.builtin "BaseException.__getattribute__")))
    (RecastError_gt : PySem.W.findIn K (.ref c_RecastError) "__getattr__" = some none)
    (RecastError_bs : PySem.W.mroIn K c_RecastError (.type "BaseException") = some true)
    (RecastError_cl : PySem.W.findIn K (.ref c_RecastError) "__class__" = some (some (.builtin "object.__class__")))
    (RecastError_ob : PySem.W.mroIn K c_RecastError (.type "object") = some true)
    (NoText_ga : PySem.W.findIn K (.ref c_NoText) "__getattribute__" = some (some (.builtin "BaseException.__getattribute__")))
    (NoText_gt : PySem.W.findIn K (.ref c_NoText) "__getattr__" = some none)
    (NoText_bs : PySem.W.mroIn K c_NoText (.type "BaseException") = some true)
    (NoText_cl : PySem.W.findIn K (.ref c_NoText) "__class__" = some (some (.builtin "object.__class__")))
    (NoText_ob : PySem.W.mroIn K c_NoText (.type "object") = some true)
    (TooGreat_ga : PySem.W.findIn K (.ref c_TooGreat) "__getattribute__" = some (some (.builtin "BaseException.__getattribute__")))
    (TooGreat_gt : PySem.W.findIn K (.ref c_TooGreat) "__getattr__" = some none)
    (TooGreat_bs : PySem.W.mroIn K c_TooGreat (.type "BaseException") = some true)
    (TooGreat_cl : PySem.W.findIn K (.ref c_TooGreat) "__class__" = some (some (.builtin "object.__class__")))
    (TooGreat_ob : PySem.W.mroIn K c_TooGreat (.type "object") = some true)
    (R_ty : PySem.W.typeIn K (.ref c_RecastError) = some (.type "type"))
    (lk_RecastError : K.lookup c_RecastError = some ⟨.type "type", dd_RecastError, .cls cd_RecastError, sl_RecastError⟩)
    (lk_NoText : K.lookup c_NoText = some ⟨.type "type", dd_NoText, .cls cd_NoText, sl_NoText⟩)
    (lk_TooGreat : K.lookup c_TooGreat = some ⟨.type "type", dd_TooGreat, .cls cd_TooGreat, sl_TooGreat⟩)
    (lk_NoRule : K.lookup c_NoRule = some ⟨.type "type", dd_NoRule, .cls cd_NoRule, sl_NoRule⟩)
    (x_NoText : PySem.W.excIn K c_NoText bmVE "ValueError.__new__" = true)
    (nR_NoText : PySem.W.mroIn K c_NoText (.ref c_RecastError) = some true)
    (ne_NoText_TooGreat : c_NoText ≠ c_TooGreat)
    (sb_NoText_TooGreat : PySem.W.subIn K (.ref c_NoText) (.ref c_TooGreat) = some false)
    (ne_NoText_NoRule : c_NoText ≠ c_NoRule)
    (sb_NoText_NoRule : PySem.W.subIn K (.ref c_NoText) (.ref c_NoRule) = some false)
    (sb_NoText_V : PySem.W.subIn K (.ref c_NoText) (.type "ValueError") = some true)
    (x_TooGreat : PySem.W.excIn K c_TooGreat bmVE "ValueError.__new__" = true)
    (nR_TooGreat : PySem.W.mroIn K c_TooGreat (.ref c_RecastError) = some true)
    (ne_TooGreat_NoText : c_TooGreat ≠ c_NoText)
    (sb_TooGreat_NoText : PySem.W.subIn K (.ref c_TooGreat) (.ref c_NoText) = some false)
    (ne_TooGreat_NoRule : c_TooGreat ≠ c_NoRule)
    (sb_TooGreat_NoRule : PySem.W.subIn K (.ref c_TooGreat) (.ref c_NoRule) = some false)
    (sb_TooGreat_V : PySem.W.subIn K (.ref c_TooGreat) (.type "ValueError") = some true)
    (z_len : PySem.W.nsIn K mainGlobals "len" = some none)
    (z_range : PySem.W.nsIn K mainGlobals "range" = some none)
    (z_isinstance : PySem.W.nsIn K mainGlobals "isinstance" = some none)
    (z_int : PySem.W.nsIn K mainGlobals "int" = some none)
    (z_str : PySem.W.nsIn K mainGlobals "str" = some none)
    (z_tuple : PySem.W.nsIn K mainGlobals "tuple" = some none)
    (z_any : PySem.W.nsIn K mainGlobals "any" = some none)
    (z_max : PySem.W.nsIn K mainGlobals "max" = some none)
    (z_min : PySem.W.nsIn K mainGlobals "min" = some none)
    (z_ValueError : PySem.W.nsIn K mainGlobals "ValueError" = some none)
    : ∃ fd : FuncData, (∀ (s : Shared) (v : Value), BindsTo s fd ⟨[v], []⟩ [("_law_script", v)]) ∧ ∀ base : Heap, K.In base → base.Ns mainGlobals mg → FnOk l.prog w K mg base CX0 60 fa fd ["_law_script"] (sp_law K) := by
  have e := hfa.symm.trans (PySem.W.mg_of X G a28)
  cases e
  have z_len := PySem.W.mg_none_of X G z_len
  have z_range := PySem.W.mg_none_of X G z_range
  have z_isinstance := PySem.W.mg_none_of X G z_isinstance
  have z_int := PySem.W.mg_none_of X G z_int
  have z_str := PySem.W.mg_none_of X G z_str
  have z_tuple := PySem.W.mg_none_of X G z_tuple
  have z_any := PySem.W.mg_none_of X G z_any
  have z_max := PySem.W.mg_none_of X G z_max
  have z_min := PySem.W.mg_none_of X G z_min
  have z_ValueError := PySem.W.mg_none_of X G z_ValueError
  have m_KEPT_WORDS := PySem.W.mg_of X G aC0
  have h_KEPT_WORDS : KeptT K lv_KEPT_WORDS := ⟨_, _, _, lC0, rfl, rfl, (by show 11 ≤ sizeLine; decide), (.cons ⟨_, rfl⟩ (.cons ⟨_, rfl⟩ (.cons ⟨_, rfl⟩ (.cons ⟨_, rfl⟩ (.cons ⟨_, rfl⟩ (.cons ⟨_, rfl⟩ (.cons ⟨_, rfl⟩ (.cons ⟨_, rfl⟩ (.cons ⟨_, rfl⟩ (.cons ⟨_, rfl⟩ (.cons ⟨_, rfl⟩ .nil)))))))))))⟩
  have m_RecastError := PySem.W.mg_of X G aX0
  have m_NoText := PySem.W.mg_of X G aX1
  have m_TooGreat := PySem.W.mg_of X G aX2
  have m_NoRule := PySem.W.mg_of X G aX3
  have T_Reader : TxtR K mg c_Reader := ⟨⟨pg_Reader, hd_Reader, po_Reader, sa_Reader⟩, n_Reader_text, n_Reader_at, PySem.W.mg_of X G aK_Reader⟩
  have m_LETTERS : mg "LETTERS" = some (.str abcS tk1) := PySem.W.mg_of X G aLt
  have m_FIGURES : mg "FIGURES" = some (.str figS tk2) := PySem.W.mg_of X G aFg
  have m_MS := PySem.W.mg_of X G aM1
  have m_MO := PySem.W.mg_of X G aM2
  have m_ML := PySem.W.mg_of X G aM3
  have m_MF := PySem.W.mg_of X G aM4
  have m_BETWEEN := PySem.W.mg_of X G aB
  have h_BETWEEN : KDicW K w.params bd betw := ⟨⟨esB, nB, lB, kB, pB⟩, by decide +kernel, sB⟩
  have hB : KBtw K bd := fun o => by
    cases o
    · exact ⟨_, nB0⟩
    · exact ⟨_, nB1⟩
    · exact ⟨_, nB2⟩
    · exact ⟨_, nB3⟩
  have XR : ExC K c_RecastError := ⟨⟨RecastError_ga, RecastError_gt, RecastError_bs, RecastError_cl, RecastError_ob, cls_of lk_RecastError⟩, R_ty⟩
  have XN : Er K c_RecastError c_NoText c_TooGreat c_NoRule c_NoText false := ⟨⟨NoText_ga, NoText_gt, NoText_bs, NoText_cl, NoText_ob, cls_of lk_NoText⟩, nR_NoText, kit_self, kit_ref ne_NoText_TooGreat lk_TooGreat sb_NoText_TooGreat, kit_ref ne_NoText_NoRule lk_NoRule sb_NoText_NoRule, kit_ty (by decide +kernel) sb_NoText_V⟩
  have XG : Er K c_RecastError c_NoText c_TooGreat c_NoRule c_TooGreat true := ⟨⟨TooGreat_ga, TooGreat_gt, TooGreat_bs, TooGreat_cl, TooGreat_ob, cls_of lk_TooGreat⟩, nR_TooGreat, kit_ref ne_TooGreat_NoText lk_NoText sb_TooGreat_NoText, kit_self, kit_ref ne_TooGreat_NoRule lk_NoRule sb_TooGreat_NoRule, kit_ty (by decide +kernel) sb_TooGreat_V⟩
  have k0 := keep_of l0
  have F0 := fun_mk (st := s_Reader___init__) l0 c0 k0
  have b0 := F0.binds (ps := ["self", "text"]) fun _ _ _ _ _ _ us hl => match us, hl with | [_, _], _ => rfl
  have k1 := keep_of l1
  have F1 := fun_mk (st := s_Reader_stands) l1 c1 k1
  have b1 := F1.binds (ps := ["self", "piece"]) fun _ _ _ _ _ _ us hl => match us, hl with | [_, _], _ => rfl
  have k2 := keep_of l2
  have F2 := fun_mk (st := s_Reader_skipped) l2 c2 k2
  have b2 := F2.binds (ps := ["self", "piece"]) fun _ _ _ _ _ _ us hl => match us, hl with | [_, _], _ => rfl
  have k3 := keep_of l3
  have F3 := fun_mk (st := s_Reader_skip) l3 c3 k3
  have b3 := F3.binds (ps := ["self", "piece"]) fun _ _ _ _ _ _ us hl => match us, hl with | [_, _], _ => rfl
  have k4 := keep_of l4
  have F4 := fun_mk (st := s_Reader_run_of) l4 c4 k4
  have b4 := F4.binds (ps := ["self", "signs"]) fun _ _ _ _ _ _ us hl => match us, hl with | [_, _], _ => rfl
  have k5 := keep_of l5
  have F5 := fun_mk (st := s_Reader_skip_end) l5 c5 k5
  have b5 := F5.binds (ps := ["self"]) fun _ _ _ _ _ _ us hl => match us, hl with | [_], _ => rfl
  have k6 := keep_of l6
  have F6 := fun_mk (st := s_most_open) l6 c6 k6
  have b6 := F6.binds (ps := ["text"]) fun _ _ _ _ _ _ us hl => match us, hl with | [_], _ => rfl
  have m6 := PySem.W.mg_of X G a6
  have k7 := keep_of l7
  have F7 := fun_mk (st := s_begun) l7 c7 k7
  have b7 := F7.binds (ps := ["text"]) fun _ _ _ _ _ _ us hl => match us, hl with | [_], _ => rfl
  have m7 := PySem.W.mg_of X G a7
  have k8 := keep_of l8
  have F8 := fun_mk (st := s_word_from) l8 c8 k8
  have b8 := F8.binds (ps := ["reader"]) fun _ _ _ _ _ _ us hl => match us, hl with | [_], _ => rfl
  have m8 := PySem.W.mg_of X G a8
  have k9 := keep_of l9
  have F9 := fun_mk (st := s_number_from) l9 c9 k9
  have b9 := F9.binds (ps := ["reader"]) fun _ _ _ _ _ _ us hl => match us, hl with | [_], _ => rfl
  have m9 := PySem.W.mg_of X G a9
  have k10 := keep_of l10
  have F10 := fun_mk (st := s_plain_leaf_from) l10 c10 k10
  have b10 := F10.binds (ps := ["reader"]) fun _ _ _ _ _ _ us hl => match us, hl with | [_], _ => rfl
  have m10 := PySem.W.mg_of X G a10
  have k11 := keep_of l11
  have F11 := fun_mk (st := s_atom_from) l11 c11 k11
  have b11 := F11.binds (ps := ["reader"]) fun _ _ _ _ _ _ us hl => match us, hl with | [_], _ => rfl
  have m11 := PySem.W.mg_of X G a11
  have k12 := keep_of l12
  have F12 := fun_mk (st := s_atoms_from) l12 c12 k12
  have b12 := F12.binds (ps := ["reader"]) fun _ _ _ _ _ _ us hl => match us, hl with | [_], _ => rfl
  have m12 := PySem.W.mg_of X G a12
  have k13 := keep_of l13
  have F13 := fun_mk (st := s_shape_from) l13 c13 k13
  have b13 := F13.binds (ps := ["reader"]) fun _ _ _ _ _ _ us hl => match us, hl with | [_], _ => rfl
  have m13 := PySem.W.mg_of X G a13
  have k14 := keep_of l14
  have F14 := fun_mk (st := s_bracket_from) l14 c14 k14
  have b14 := F14.binds (ps := ["reader"]) fun _ _ _ _ _ _ us hl => match us, hl with | [_], _ => rfl
  have m14 := PySem.W.mg_of X G a14
  have k15 := keep_of l15
  have F15 := fun_mk (st := s_if_from) l15 c15 k15
  have b15 := F15.binds (ps := ["reader"]) fun _ _ _ _ _ _ us hl => match us, hl with | [_], _ => rfl
  have m15 := PySem.W.mg_of X G a15
  have k16 := keep_of l16
  have F16 := fun_mk (st := s_let_from) l16 c16 k16
  have b16 := F16.binds (ps := ["reader"]) fun _ _ _ _ _ _ us hl => match us, hl with | [_], _ => rfl
  have m16 := PySem.W.mg_of X G a16
  have k17 := keep_of l17
  have F17 := fun_mk (st := s_two_from) l17 c17 k17
  have b17 := F17.binds (ps := ["reader"]) fun _ _ _ _ _ _ us hl => match us, hl with | [_], _ => rfl
  have m17 := PySem.W.mg_of X G a17
  have k18 := keep_of l18
  have F18 := fun_mk (st := s_read) l18 c18 k18
  have b18 := F18.binds (ps := ["text"]) fun _ _ _ _ _ _ us hl => match us, hl with | [_], _ => rfl
  have m18 := PySem.W.mg_of X G a18
  have k19 := keep_of l19
  have F19 := fun_mk (st := s_read_rule) l19 c19 k19
  have b19 := F19.binds (ps := ["text"]) fun _ _ _ _ _ _ us hl => match us, hl with | [_], _ => rfl
  have m19 := PySem.W.mg_of X G a19
  have k20 := keep_of l20
  have F20 := fun_mk (st := s_law_cell_at) l20 c20 k20
  have b20 := F20.binds (ps := ["_law_script", "_law_k"]) fun _ _ _ _ _ _ us hl => match us, hl with | [_, _], _ => rfl
  have m20 := PySem.W.mg_of X G a20
  have k21 := keep_of l21
  have F21 := fun_mk (st := s_law_word) l21 c21 k21
  have b21 := F21.binds (ps := ["_law_cell"]) fun _ _ _ _ _ _ us hl => match us, hl with | [_], _ => rfl
  have m21 := PySem.W.mg_of X G a21
  have k22 := keep_of l22
  have F22 := fun_mk (st := s_law_text) l22 c22 k22
  have b22 := F22.binds (ps := ["_law_cells", "_law_deep"]) fun _ _ _ _ _ _ us hl => match us, hl with | [_, _], _ => rfl
  have m22 := PySem.W.mg_of X G a22
  have k23 := keep_of l23
  have F23 := fun_mk (st := s_law_none) l23 c23 k23
  have b23 := F23.binds (ps := ["_law_cell"]) fun _ _ _ _ _ _ us hl => match us, hl with | [_], _ => rfl
  have m23 := PySem.W.mg_of X G a23
  have k24 := keep_of l24
  have F24 := fun_mk (st := s_law_spoiled) l24 c24 k24
  have b24 := F24.binds (ps := ["_law_one", "_law_other", "_law_cell"]) fun _ _ _ _ _ _ us hl => match us, hl with | [_, _, _], _ => rfl
  have m24 := PySem.W.mg_of X G a24
  have k25 := keep_of l25
  have F25 := fun_mk (st := s_law_open) l25 c25 k25
  have b25 := F25.binds (ps := ["_law_many", "_law_cell"]) fun _ _ _ _ _ _ us hl => match us, hl with | [_, _], _ => rfl
  have m25 := PySem.W.mg_of X G a25
  have k26 := keep_of l26
  have F26 := fun_mk (st := s_law_refused) l26 c26 k26
  have b26 := F26.binds (ps := ["_law_text_here", "_law_ruled"]) fun _ _ _ _ _ _ us hl => match us, hl with | [_, _], _ => rfl
  have m26 := PySem.W.mg_of X G a26
  have k27 := keep_of l27
  have F27 := fun_mk (st := s_law_told) l27 c27 k27
  have b27 := F27.binds (ps := ["_law_text_here", "_law_due"]) fun _ _ _ _ _ _ us hl => match us, hl with | [_, _], _ => rfl
  have m27 := PySem.W.mg_of X G a27
  have k28 := keep_of l28
  have F28 := fun_mk (st := s_law) l28 c28 k28
  have b28 := F28.binds (ps := ["_law_script"]) fun _ _ _ _ _ _ us hl => match us, hl with | [_], _ => rfl
  have m28 := PySem.W.mg_of X G a28
  refine ⟨PySem.W.fnOf "law" "law" (defArgs s_law) (defBody s_law) (defScope s_law) .none kV28 dc28 pm28 an28 cd28 ct28, fun s v => .of_eq rfl, fun base _ _ => ?_⟩
  have G0 : FnM l.prog w K mg base 1 c_Reader "__init__" f0 _ _ _ := ⟨ok_init (k := 0) F0 T_Reader, b0, ⟨a0, i0, k0⟩⟩
  have G1 : FnM l.prog w K mg base 1 c_Reader "stands" f1 _ _ _ := ⟨ok_stands (k := 0) F1 T_Reader, b1, ⟨a1, i1, k1⟩⟩
  have G2 : FnM l.prog w K mg base 2 c_Reader "skipped" f2 _ _ _ := ⟨ok_skipped F2 T_Reader z_len (G1.up (k := 1) (by decide)), b2, ⟨a2, i2, k2⟩⟩
  have G3 : FnMF l.prog w K mg base 3 c_Reader "skip" f3 _ _ _ := ⟨okF_skip F3 T_Reader m_NoText x_NoText (G2.up (k := 2) (by decide)), b3, ⟨a3, i3, k3⟩⟩
  have G4 : FnM l.prog w K mg base 1 c_Reader "run_of" f4 _ _ _ := ⟨ok_run_of (k := 0) F4 T_Reader z_len, b4, ⟨a4, i4, k4⟩⟩
  have G5 : FnMF l.prog w K mg base 1 c_Reader "skip_end" f5 _ _ _ := ⟨okF_skip_end (k := 0) F5 T_Reader z_len m_NoText x_NoText, b5, ⟨a5, i5, k5⟩⟩
  have G8 : FnF l.prog w K mg base 2 "word_from" f8 _ _ _ := ⟨okF_word F8 T_Reader z_len m_LETTERS m_ML m_KEPT_WORDS h_KEPT_WORDS m_NoText x_NoText (G4.up (k := 1) (by decide)), b8, k8, m8⟩
  have G9 : FnF l.prog w K mg base 2 "number_from" f9 _ _ _ := ⟨okF_number F9 T_Reader z_len z_int m_FIGURES m_MF m_NoText x_NoText (G4.up (k := 1) (by decide)), b9, k9, m9⟩
  have G10 : FnF l.prog w K mg base 3 "plain_leaf_from" f10 _ _ _ := ⟨okF_pleaf F10 T_Reader z_any m_FIGURES (G1.up (k := 2) (by decide)) (G9.up (k := 2) (by decide)) (G8.up (k := 2) (by decide)), b10, k10, m10⟩
  have G11 : FnF l.prog w K mg base 4 "atom_from" f11 _ _ _ := ⟨okF_atom F11 T_Reader (G2.up (k := 3) (by decide)) (G10.up (k := 3) (by decide)) (G8.up (k := 3) (by decide)), b11, k11, m11⟩
  have G12 : FnF l.prog w K mg base 5 "atoms_from" f12 _ _ _ := ⟨okF_atoms F12 T_Reader z_tuple (G2.up (k := 4) (by decide)) (G3.up (k := 4) (by decide)) (G11.up (k := 4) (by decide)), b12, k12, m12⟩
  have G13 := allF_shape F13 F14 F15 F16 F17 b13 b14 b15 b16 b17 m13 m14 m15 m16 m17 T_Reader m_BETWEEN h_BETWEEN hB m_NoText x_NoText (G2.up (k := 5) (by decide)) (G3.up (k := 5) (by decide)) (G8.up (k := 5) (by decide)) (G12.up (k := 5) (by decide)) (G10.up (k := 5) (by decide)) 17
  have G6 : FnB l.prog w K mg base 1 "most_open" f6 _ _ _ := ⟨ok_most (k := 0) F6 z_max, b6, k6, m6⟩
  have G7 : FnF l.prog w K mg base 3 "begun" f7 _ _ _ := ⟨okF_begun F7 z_len m_MS m_MO T_Reader ⟨mk_Reader, a0, i0, kc_Reader⟩ m_TooGreat x_TooGreat (G6.up (k := 2) (by decide)) (G0.up (k := 1) (by decide)), b7, k7, m7⟩
  have G18 : FnF l.prog w K mg base 57 "read" f18 _ _ _ := ⟨okF_read F18 T_Reader (G7.up (k := 56) (by decide)) (G13.up (k := 56) (by decide)) (G5.up (k := 56) (by decide)), b18, k18, m18⟩
  have G19 : FnF l.prog w K mg base 57 "read_rule" f19 _ _ _ := ⟨okF_rule F19 T_Reader (G7.up (k := 56) (by decide)) (G13.up (k := 56) (by decide)) (G3.up (k := 56) (by decide)), b19, k19, m19⟩
  have G20 : FnB l.prog w K mg base 1 "_law_cell_at" f20 _ _ _ := ⟨ok_cell_at (k := 0) F20 z_len, b20, k20, m20⟩
  have G21 : FnB l.prog w K mg base 1 "_law_word" f21 _ _ _ := ⟨ok_lword (k := 0) F21 z_range, b21, k21, m21⟩
  have G22 := all_text F22 b22 m22 z_len z_str (G21.up (k := 1) (by decide)) 12
  have G23 : FnB l.prog w K mg base 1 "_law_none" f23 _ _ _ := ⟨ok_none (k := 0) F23 z_len, b23, k23, m23⟩
  have G24 : FnB l.prog w K mg base 1 "_law_spoiled" f24 _ _ _ := ⟨ok_spoiled (k := 0) F24, b24, k24, m24⟩
  have G25 : FnB l.prog w K mg base 1 "_law_open" f25 _ _ _ := ⟨ok_open (k := 0) F25 z_range, b25, k25, m25⟩
  have G26 : FnB l.prog w K mg base 58 "_law_refused" f26 _ _ _ := ⟨ok_refused F26 z_isinstance z_ValueError m_RecastError m_NoText m_TooGreat m_NoRule XR XN XG (G18.up (k := 57) (by decide)) (G19.up (k := 57) (by decide)), b26, k26, m26⟩
  have G27 : FnB l.prog w K mg base 59 "_law_told" f27 _ _ _ := ⟨ok_told F27 z_range z_len (G26.up (k := 58) (by decide)), b27, k27, m27⟩
  exact ok_law F28 z_isinstance z_tuple z_len z_min (G22.up (k := 59) (by decide)) (G20.up (k := 59) (by decide)) (G23.up (k := 59) (by decide)) (G24.up (k := 59) (by decide)) (G25.up (k := 59) (by decide)) (G27.up (k := 59) (by decide)) (G18.up (k := 59) (by decide))
theorem walk {l : PySem.W.OpenLaw} {q : Program} {loose : List Str} {XP : (Str → Option Value) → Heap → Prop} {YP : World → Heap → Prop} {d : DefRec} {K : Params → PySem.W.Frag} (hn : l.most = some 63) (hdf : d.params.defaults = [])
    (hY : ∀ (w : World) (h : Heap), YP w h → (K w.params).In h)
    (F : ∀ (w : World) (mg : Str → Option Value) (fa : Addr) (h : Heap), (K w.params).In h → h.Ns mainGlobals mg → mg d.name = some (.ref fa) →
      ∃ fd : FuncData, (∀ (s : Shared) (u : Value), BindsTo s fd ⟨[u], []⟩ [("_law_script", u)]) ∧ ∀ base : Heap, (K w.params).In base → base.Ns mainGlobals mg → FnOk l.prog w (K w.params) mg base CX0 60 fa fd ["_law_script"] (sp_law (K w.params))) :
    PySem.W.WalkO q loose XP YP l.row.toRowW d [] (fun f vs => PySem.call f vs) :=
  L2.walk_of (n := 63) (k := 60) (x := "_law_script") (CX := fun _ => CX0) (sp := fun w => sp_law (K w.params)) hn (by decide) hdf ⟨rfl, by decide, by decide⟩ hY F (fun _ _ a ns hl _ hS => ⟨a, ns, rfl, hS, hl, fun _ => rfl⟩) fun _ _ _ _ _ z => z
end K07
def PySem.W.Fast.tw11380246580000642663 : Unit := ()
def PySem.W.Fast.tw1311821123137769207 : Unit := ()
def PySem.W.Fast.tw7081028451908686106 : Unit := ()
def PySem.W.Fast.tw9061935798936430960 : Unit := ()
def PySem.W.Fast.tw7034580694134035987 : Unit := ()
def PySem.W.Fast.tw1905717913762345906 : Unit := ()
def PySem.W.Fast.tw9216241145930023790 : Unit := ()
def PySem.W.Fast.tw3650663372505271728 : Unit := ()
def PySem.W.Fast.tw4620106497544285901 : Unit := ()
open PySem PySem.W PyProof.Rows
set_option maxRecDepth 100000 in
set_option maxHeartbeats 0 in
theorem PySem.Challenge.cw_recastle_k07_texts_refused_holds : PySem.Challenge.rw_recastle_k07_texts_refused.Holds := by
  w_on; o_law; k_head; (case hw => w_witness2)
  k_fill
  refine K07.walk (l := PySem.Challenge.rw_recastle_k07_texts_refused) rfl rfl (fun w h Y => PySem.W.kIn_of Y) ?F
  case F =>
    intro w mg fa h KX G hmg
    refine' K07.all_mk KX G hmg ?aK_Reader ?pg_Reader ?hd_Reader ?po_Reader ?sa_Reader ?mk_Reader ?kc_Reader ?n_Reader_text ?n_Reader_at ?a0 ?i0 ?l0 ?c0 ?a1 ?i1 ?l1 ?c1 ?a2 ?i2 ?l2 ?c2 ?a3 ?i3 ?l3 ?c3 ?a4 ?i4 ?l4 ?c4 ?a5 ?i5 ?l5 ?c5 ?a6 ?l6 ?c6 ?a7 ?l7 ?c7 ?a8 ?l8 ?c8 ?a9 ?l9 ?c9 ?a10 ?l10 ?c10 ?a11 ?l11 ?c11 ?a12 ?l12 ?c12 ?a13 ?l13 ?c13 ?a14 ?l14 ?c14 ?a15 ?l15 ?c15 ?a16 ?l16 ?c16 ?a17 ?l17 ?c17 ?a18 ?l18 ?c18 ?a19 ?l19 ?c19 ?a20 ?l20 ?c20 ?a21 ?l21 ?c21 ?a22 ?l22 ?c22 ?a23 ?l23 ?c23 ?a24 ?l24 ?c24 ?a25 ?l25 ?c25 ?a26 ?l26 ?c26 ?a27 ?l27 ?c27 ?a28 ?l28 ?c28 ?aC0 ?lC0 ?aX0 ?aX1 ?aX2 ?aX3 ?aLt ?aFg ?aM1 ?aM2 ?aM3 ?aM4 ?aB ?lB ?kB ?sB ?pB ?nB0 ?nB1 ?nB2 ?nB3 ?RecastError_ga ?RecastError_gt ?RecastError_bs ?RecastError_cl ?RecastError_ob ?NoText_ga ?NoText_gt ?NoText_bs ?NoText_cl ?NoText_ob ?TooGreat_ga ?TooGreat_gt ?TooGreat_bs ?TooGreat_cl ?TooGreat_ob ?R_ty ?lk_RecastError ?lk_NoText ?lk_TooGreat ?lk_NoRule ?x_NoText ?nR_NoText ?ne_NoText_TooGreat ?sb_NoText_TooGreat ?ne_NoText_NoRule ?sb_NoText_NoRule ?sb_NoText_V ?x_TooGreat ?nR_TooGreat ?ne_TooGreat_NoText ?sb_TooGreat_NoText ?ne_TooGreat_NoRule ?sb_TooGreat_NoRule ?sb_TooGreat_V ?z_len ?z_range ?z_isinstance ?z_int ?z_str ?z_tuple ?z_any ?z_max ?z_min ?z_ValueError
    (case aK_Reader => k_is); (case pg_Reader => k_is); (case hd_Reader => k_is); (case po_Reader => k_is)
    (case sa_Reader => k_is); (case mk_Reader => k_is); (case kc_Reader => k_is); (case n_Reader_text => k_is)
    (case n_Reader_at => k_is); (case a0 => k_is); (case i0 => k_is); (case l0 => k_is)
    (case c0 => k_is); (case a1 => k_is); (case i1 => k_is); (case l1 => k_is)
    (case c1 => k_is); (case a2 => k_is); (case i2 => k_is); (case l2 => k_is)
    (case c2 => k_is); (case a3 => k_is); (case i3 => k_is); (case l3 => k_is)
    (case c3 => k_is); (case a4 => k_is); (case i4 => k_is); (case l4 => k_is)
    (case c4 => k_is); (case a5 => k_is); (case i5 => k_is); (case l5 => k_is)
    (case c5 => k_is); (case a6 => k_is); (case l6 => k_is); (case c6 => k_is)
    (case a7 => k_is); (case l7 => k_is); (case c7 => k_is); (case a8 => k_is)
    (case l8 => k_is); (case c8 => k_is); (case a9 => k_is); (case l9 => k_is)
    (case c9 => k_is); (case a10 => k_is); (case l10 => k_is); (case c10 => k_is)
    (case a11 => k_is); (case l11 => k_is); (case c11 => k_is); (case a12 => k_is)
    (case l12 => k_is); (case c12 => k_is); (case a13 => k_is); (case l13 => k_is)
    (case c13 => k_is); (case a14 => k_is); (case l14 => k_is); (case c14 => k_is)
    (case a15 => k_is); (case l15 => k_is); (case c15 => k_is); (case a16 => k_is)
    (case l16 => k_is); (case c16 => k_is); (case a17 => k_is); (case l17 => k_is)
    (case c17 => k_is); (case a18 => k_is); (case l18 => k_is); (case c18 => k_is)
    (case a19 => k_is); (case l19 => k_is); (case c19 => k_is); (case a20 => k_is)
    (case l20 => k_is); (case c20 => k_is); (case a21 => k_is); (case l21 => k_is)
    (case c21 => k_is); (case a22 => k_is); (case l22 => k_is); (case c22 => k_is)
    (case a23 => k_is); (case l23 => k_is); (case c23 => k_is); (case a24 => k_is)
    (case l24 => k_is); (case c24 => k_is); (case a25 => k_is); (case l25 => k_is)
    (case c25 => k_is); (case a26 => k_is); (case l26 => k_is); (case c26 => k_is)
    (case a27 => k_is); (case l27 => k_is); (case c27 => k_is); (case a28 => k_is)
    (case l28 => k_is); (case c28 => k_is); (case aC0 => k_is); (case lC0 => k_is)
    (case aX0 => k_is); (case aX1 => k_is); (case aX2 => k_is); (case aX3 => k_is)
    (case aLt => k_is); (case aFg => k_is); (case aM1 => k_is); (case aM2 => k_is)
    (case aM3 => k_is); (case aM4 => k_is); (case aB => k_is); (case lB => k_is)
    (case kB => k_keys); (case sB => decide); (case pB => exact .cons ⟨_, rfl⟩ (.cons ⟨_, rfl⟩ (.cons ⟨_, rfl⟩ (.cons ⟨_, rfl⟩ .nil)))); (case nB0 => k_is)
    (case nB1 => k_is); (case nB2 => k_is); (case nB3 => k_is); (case RecastError_ga => k_is)
    (case RecastError_gt => k_is); (case RecastError_bs => k_is); (case RecastError_cl => k_is); (case RecastError_ob => k_is)
    (case NoText_ga => k_is); (case NoText_gt => k_is); (case NoText_bs => k_is); (case NoText_cl => k_is)
    (case NoText_ob => k_is); (case TooGreat_ga => k_is); (case TooGreat_gt => k_is); (case TooGreat_bs => k_is)
    (case TooGreat_cl => k_is); (case TooGreat_ob => k_is); (case R_ty => k_is); (case lk_RecastError => k_is)
    (case lk_NoText => k_is); (case lk_TooGreat => k_is); (case lk_NoRule => k_is); (case x_NoText => k_exc)
    (case nR_NoText => k_is); (case ne_NoText_TooGreat => decide); (case sb_NoText_TooGreat => k_is); (case ne_NoText_NoRule => decide)
    (case sb_NoText_NoRule => k_is); (case sb_NoText_V => k_is); (case x_TooGreat => k_exc); (case nR_TooGreat => k_is)
    (case ne_TooGreat_NoText => decide); (case sb_TooGreat_NoText => k_is); (case ne_TooGreat_NoRule => decide); (case sb_TooGreat_NoRule => k_is)
    (case sb_TooGreat_V => k_is); (case z_len => k_is); (case z_range => k_is); (case z_isinstance => k_is)
    (case z_int => k_is); (case z_str => k_is); (case z_tuple => k_is); (case z_any => k_is)
    (case z_max => k_is); (case z_min => k_is); (case z_ValueError => k_is)
#print axioms PySem.Challenge.cw_recastle_k07_texts_refused_holds