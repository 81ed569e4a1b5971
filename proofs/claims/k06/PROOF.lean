import PyProof.Rows.All
import Wide.All
import OpenK.AllK
import Wide.FinOn
import Lean
import PyProof.EqAt
import PyProof.EqKinds
import PyProof.TupleCall
import PyProof.NeKinds
import PyProof.AttrMissHeap
import KE.KDictOf
import KE.KDictLaws
import KE.KSortTup
import PyProof.Rows.SortWalk
import PyProof.Rows.SortShellK
import PySem.Challenge.RW_recastle_k06_texts_read_again
set_option Elab.async false
set_option linter.all false
set_option maxRecDepth 100000
namespace L2
open PySem PySem.Spec PyProof.Rows
abbrev Key := Sum Int Str
def keyIs : Key → Value → Bool
  | .inl k, v => Value.isInt k v
  | .inr x, v => Value.isStrOf x v
def keyH (w : World) : Key → Int
  | .inl k => hashInt k
  | .inr x => hashStr w x
theorem keyIs_shape : ∀ {k : Key} {v : Value}, keyIs k v = true → (∃ i t, k = Sum.inl i ∧ v = Value.int i t) ∨ (∃ x t, k = Sum.inr x ∧ v = Value.str x t)
  | .inl i, v, h => by
    obtain ⟨t, e⟩ := Value.isInt_shape (k := i) (v := v) h
    exact .inl ⟨i, t, rfl, e⟩
  | .inr x, v, h => by
    obtain ⟨t, e⟩ := Value.isStrOf_shape (x := x) (v := v) h
    exact .inr ⟨x, t, rfl, e⟩
theorem key_ll (a b : Int) : decide ((Sum.inl a : Key) = Sum.inl b) = (a == b) := by
  by_cases e : a = b
  · subst e; simp
  · have h : ¬ (Sum.inl a : Key) = Sum.inl b := fun q => e (Sum.inl.inj q)
    rw [decide_eq_false h]
    exact (beq_eq_false_iff_ne.mpr e).symm
theorem key_rr (a b : Str) : decide ((Sum.inr a : Key) = Sum.inr b) = decide (a = b) := by
  by_cases e : a = b
  · subst e; simp
  · have h : ¬ (Sum.inr a : Key) = Sum.inr b := fun q => e (Sum.inr.inj q)
    rw [decide_eq_false h, decide_eq_false e]
theorem key_lr (a : Int) (b : Str) : decide ((Sum.inl a : Key) = Sum.inr b) = false := decide_eq_false (fun q => nomatch q)
theorem key_rl (a : Str) (b : Int) : decide ((Sum.inr a : Key) = Sum.inl b) = false := decide_eq_false (fun q => nomatch q)
def mixKind (prog : Program) (w : World) : PySem.KeyKind prog w Key where
  is := keyIs
  hash := keyH w
  inj := fun v a b ha hb => by
    rcases keyIs_shape ha with ⟨i, t, rfl, rfl⟩ | ⟨x, t, rfl, rfl⟩
    · rcases keyIs_shape hb with ⟨j, u, rfl, e⟩ | ⟨y, u, rfl, e⟩
      · injection e with e1 _; rw [e1]
      · exact nomatch e
    · rcases keyIs_shape hb with ⟨j, u, rfl, e⟩ | ⟨y, u, rfl, e⟩
      · exact nomatch e
      · injection e with e1 _; rw [e1]
  byValue := fun k v h => by
    rcases keyIs_shape h with ⟨i, t, rfl, rfl⟩ | ⟨x, t, rfl, rfl⟩ <;> rfl
  pyHash := fun hv h => by
    rcases keyIs_shape hv with ⟨i, t, rfl, rfl⟩ | ⟨x, t, rfl, rfl⟩
    · exact wpAny_pyHash_int h
    · exact wpAny_pyHash_str h
  eqBool := fun hu hv h => by
    rcases keyIs_shape hu with ⟨i, t, rfl, rfl⟩ | ⟨x, t, rfl, rfl⟩
    · rcases keyIs_shape hv with ⟨j, u, rfl, rfl⟩ | ⟨y, u, rfl, rfl⟩
      · rw [key_ll] at h; exact wpAny_eqBool_int h
      · rw [key_lr] at h; exact SeqAt.EqAt.int_str i t y u _ _ _ _ h
    · rcases keyIs_shape hv with ⟨j, u, rfl, rfl⟩ | ⟨y, u, rfl, rfl⟩
      · rw [key_rl] at h; exact SeqAt.EqAt.str_int x t j u _ _ _ _ h
      · rw [key_rr] at h; exact wpAny_eqBool_str h
  «strs» := fun k x t v h => by
    rcases keyIs_shape h with ⟨i, u, rfl, e⟩ | ⟨y, u, rfl, e⟩
    · exact nomatch e
    · injection e with e1 _
      subst e1
      cases v <;> rfl
end L2
namespace L2
open PySem PySem.Spec PyProof.Rows
inductive V where
  | non | bl (b : Bool) | int (i : Int) | str (x : Str) | byt (b : Array UInt8) | flt (b : UInt64) | ref (a : Addr) | ty (n : String)
  deriving DecidableEq
def RelV : V → Value → Prop
  | .non, u => u = Value.none
  | .bl b, u => u = Value.bool b
  | .int i, u => ∃ t, u = Value.int i t
  | .str x, u => ∃ t, u = Value.str x t
  | .byt b, u => ∃ t, u = Value.bytes b t
  | .flt b, u => ∃ t, u = Value.float b t
  | .ref a, u => u = Value.ref a
  | .ty n, u => u = Value.type n
abbrev Vals : List V → List Value → Prop := Paired RelV
theorem Vals.length {xs : List V} {us : List Value} (r : Vals xs us) : xs.length = us.length := Paired.length r
theorem Vals.get : ∀ {xs : List V} {us : List Value} {i : Nat} {x : V}, Vals xs us → xs[i]? = some x → ∃ u, us[i]? = some u ∧ RelV x u
  | _, _, _, _, .nil, e => by simp at e
  | _, _, 0, _, .cons r _, e => by simp at e; subst e; exact ⟨_, rfl, r⟩
  | _, _, i + 1, x, .cons _ t, e => by
    obtain ⟨u, h1, h2⟩ := Vals.get (i := i) (x := x) t (by simpa using e)
    exact ⟨u, by simpa using h1, h2⟩
theorem Vals.append : ∀ {xs ys : List V} {us ws : List Value}, Vals xs us → Vals ys ws → Vals (xs ++ ys) (us ++ ws)
  | _, _, _, _, .nil, s => s
  | _, _, _, _, .cons r t, s => .cons r (Vals.append t s)
theorem Vals.take : ∀ {xs : List V} {us : List Value} (n : Nat), Vals xs us → Vals (xs.take n) (us.take n)
  | _, _, 0, _ => .nil
  | _, _, _ + 1, .nil => .nil
  | _, _, n + 1, .cons r t => .cons r (Vals.take n t)
theorem Vals.drop : ∀ {xs : List V} {us : List Value} (n : Nat), Vals xs us → Vals (xs.drop n) (us.drop n)
  | _, _, 0, r => r
  | _, _, _ + 1, .nil => .nil
  | _, _, n + 1, .cons _ t => Vals.drop n t
def RelO : Option V → Option Value → Prop
  | some v, some u => RelV v u
  | none, none => True
  | _, _ => False
def KV {κ : Type} : List (κ × V) → List (κ × Value) → Prop := Paired fun (p : κ × V) (q : κ × Value) => p.1 = q.1 ∧ RelV p.2 q.2
def kV : Key → V
  | .inl i => .int i
  | .inr x => .str x
inductive HO where
  | lst (xs : List V)
  | tup (xs : List V)
  | dK (kvs : List (Key × V)) | dT (kvs : List (List Key × V))
  | set (S : Int → Bool) (n : Nat)
  | ins (C dx : Addr) (fs : List (Str × V))
  | own (x : Addr)
  | xd (fs : List (Str × V))
  | met (f x : Addr)
  | rng (lo hi : Int)
  | frz (o : Obj) (u : HO)
  | tbl (ps : Array Value)
  | ext (φ : Heap → Prop)
abbrev Hp := Addr → Option HO
def upd (H : Hp) (a : Addr) (o : HO) : Hp := fun b => if b = a then some o else H b
theorem upd_same {H : Hp} {a : Addr} {o : HO} : upd H a o a = some o := by unfold upd; rw [if_pos rfl]
theorem upd_ne {H : Hp} {a b : Addr} {o : HO} (h : b ≠ a) : upd H a o b = H b := by unfold upd; rw [if_neg h]
theorem ne_of_none {H : Hp} {a b : Addr} {o : HO} (h : H a = some o) (h' : H b = none) : a ≠ b := by
  intro e; subst e; rw [h] at h'; cases h'
section
variable (P : Program) (w : World)
def ObjOk (H : Hp) (h : Heap) (a : Addr) : HO → Prop
  | .lst xs => xs.length ≤ sizeLine ∧ ∃ (its : List Value) (n : Nat), Vals xs its ∧ h.get? a = some { cls := .type "list", data := .seq its.toArray n }
  | .tup xs => xs.length ≤ sizeLine ∧ ∃ its : List Value, Vals xs its ∧ IsTup h a its.toArray
  | .dK kvs => kvs.length ≤ sizeLine ∧ (a == sysModules) = false ∧ ∃ vs, KV kvs vs ∧ h.DictOf (mixKind P w) a vs
  | .dT kvs => kvs.length ≤ sizeLine ∧ (a == sysModules) = false ∧ ∃ xs : List (List Key × Addr × Value),
      Paired (fun (p : List Key × V) (q : List Key × Addr × Value) => p.1 = q.1 ∧ H q.2.1 = some (.tup (p.1.map kV)) ∧ RelV p.2 q.2.2) kvs xs ∧
      ∃ o es ep, h.get? a = some o ∧ o.ExactDict ∧ o.data = .dict es ep ∧ es.toList = xs.map (entryOfKey (tupleKind (mixKind P w))) ∧ (xs.map (·.1)).Nodup
  | .set S n => h.SetOf (intKind P w) a S n
  | .ins C dx fs => H dx = some (.own a) ∧ fs.length ≤ 1000 ∧ dx ≠ a ∧ h.get? a = some (PySem.W.instObj C dx) ∧
      ∃ mA, h.Ns1 dx mA ∧ (∀ f, RelO (fs.lookup f) (mA f)) ∧ PySem.Within mA (fs.map (·.1))
  | .own _ => ∃ o, h.get? a = some o
  | .xd fs => ∃ mA, h.Ns1 a mA ∧ ∀ f, RelO (fs.lookup f) (mA f)
  | .rng lo hi => ∃ t u v, h.get? a = some { cls := .type "range", data := .fields #[.int lo t, .int hi u, .int 1 v] }
  | .frz o u => h.get? a = some o ∧ ObjOk H h a u
  | .tbl ps => h.get? a = some { cls := .none, data := .fields ps }
  | .met f x => h.get? a = some (PySem.W.methodObj (.ref f) (.ref x))
  | .ext φ => φ h ∧ (∃ o, h.get? a = some o) ∧ ∀ h1 h2 : Heap, φ h1 → (∀ o, h1.get? a = some o → h2.get? a = some o) → φ h2
def HOk (H : Hp) (h : Heap) : Prop := ∀ a o, H a = some o → ObjOk P w H h a o
end
section
variable {P : Program} {w : World} {H H' : Hp} {h h' : Heap} {a : Addr} {o : HO}
theorem ObjOk.lt (x : ObjOk P w H h a o) : a < h.objs.size := by
  cases o with
  | lst xs => obtain ⟨_, _, _, _, e⟩ := x; exact Heap.lt_size e
  | tup xs => obtain ⟨_, _, _, p⟩ := x; exact p.lt
  | dK kvs => obtain ⟨_, _, _, _, o, _, _, e, _⟩ := x; exact Heap.lt_size e
  | dT kvs => obtain ⟨_, _, _, _, o, _, _, e, _⟩ := x; exact Heap.lt_size e
  | set S n => obtain ⟨o, _, _, _, e, _⟩ := x; exact Heap.lt_size e
  | ins C dx fs => obtain ⟨_, _, _, e, _⟩ := x; exact Heap.lt_size e
  | own y => obtain ⟨_, e⟩ := x; exact Heap.lt_size e
  | xd fs => obtain ⟨_, ⟨_, _, _, e, _⟩, _⟩ := x; exact Heap.lt_size e
  | rng lo hi => obtain ⟨_, _, _, e⟩ := x; exact Heap.lt_size e
  | frz ob u => obtain ⟨e, _⟩ := x; exact Heap.lt_size e
  | tbl ps => exact Heap.lt_size (show h.get? a = some _ from x)
  | met f y => exact Heap.lt_size (show h.get? a = some _ from x)
  | ext φ => obtain ⟨_, ⟨_, e⟩, _⟩ := x; exact Heap.lt_size e
theorem Paired.mapP {α β : Type} {F G : α → β → Prop} : ∀ {l₁ : List α} {l₂ : List β}, Paired F l₁ l₂ → (∀ a b, F a b → G a b) → Paired G l₁ l₂
  | _, _, .nil, _ => .nil
  | _, _, .cons r t, f => .cons (f _ _ r) (Paired.mapP t f)
theorem ObjOk.stay (x : ObjOk P w H h a o) (k : ∀ b u, (b = a ∨ H b = some (.own a)) → h.get? b = some u → h'.get? b = some u)
    (ho : ∀ b, H b = some (.own a) → H' b = some (.own a)) (ht : ∀ b xs, H b = some (.tup xs) → H' b = some (.tup xs)) : ObjOk P w H' h' a o := by
  induction o with
  | lst xs => obtain ⟨z, its, n, r, e⟩ := x; exact ⟨z, its, n, r, k _ _ (.inl rfl) e⟩
  | tup xs => obtain ⟨z, its, r, ob, e, c⟩ := x; exact ⟨z, its, r, ob, k _ _ (.inl rfl) e, c⟩
  | dK kvs => obtain ⟨z, y, vs, r, ob, es, ep, e, c⟩ := x; exact ⟨z, y, vs, r, ob, es, ep, k _ _ (.inl rfl) e, c⟩
  | dT kvs =>
    obtain ⟨z, y, xs, r, ob, es, ep, e, c⟩ := x
    exact ⟨z, y, xs, Paired.mapP r fun p q z => ⟨z.1, ht _ _ z.2.1, z.2.2⟩, ob, es, ep, k _ _ (.inl rfl) e, c⟩
  | set S n => obtain ⟨ob, es, ep, t, e, c⟩ := x; exact ⟨ob, es, ep, t, k _ _ (.inl rfl) e, c⟩
  | ins C dx fs =>
    obtain ⟨d, z, ne, e, mA, ⟨od, es, ep, e2, c⟩, r⟩ := x
    exact ⟨ho _ d, z, ne, k _ _ (.inl rfl) e, mA, ⟨od, es, ep, k _ _ (.inr d) e2, c⟩, r⟩
  | own y => obtain ⟨ob, e⟩ := x; exact ⟨ob, k _ _ (.inl rfl) e⟩
  | xd fs => obtain ⟨mA, ⟨od, es, ep, e, c⟩, r⟩ := x; exact ⟨mA, ⟨od, es, ep, k _ _ (.inl rfl) e, c⟩, r⟩
  | rng lo hi => obtain ⟨t, u, v, e⟩ := x; exact ⟨t, u, v, k _ _ (.inl rfl) e⟩
  | frz ob u ih => obtain ⟨e, q⟩ := x; exact ⟨k _ _ (.inl rfl) e, ih q⟩
  | tbl ps =>
    have e : h.get? a = some { cls := .none, data := .fields ps } := x
    show h'.get? a = some { cls := .none, data := .fields ps }
    exact k a _ (.inl rfl) e
  | met f y =>
    have e : h.get? a = some (PySem.W.methodObj (.ref f) (.ref y)) := x
    show h'.get? a = some (PySem.W.methodObj (.ref f) (.ref y))
    exact k a _ (.inl rfl) e
  | ext φ => obtain ⟨p, ⟨o, e⟩, st⟩ := x; exact ⟨st _ _ p fun o q => k _ _ (.inl rfl) q, ⟨o, k _ _ (.inl rfl) e⟩, st⟩
theorem HOk.lt (x : HOk P w H h) (e : H a = some o) : a < h.objs.size := (x a o e).lt
theorem HOk.fresh (x : HOk P w H h) (e : h.objs.size ≤ a) : H a = none := by
  cases q : H a with
  | none => rfl
  | some u => exact absurd (Nat.lt_of_lt_of_le (x.lt q) e) (Nat.lt_irrefl _)
theorem HOk.kept (x : HOk P w H h) (k : ∀ b u, h.get? b = some u → h'.get? b = some u) : HOk P w H h' := fun a o e =>
  (x a o e).stay (fun b u _ q => k b u q) (fun _ q => q) fun _ _ q => q
theorem HOk.laid (x : HOk P w H h) (k : ∀ b u, h.get? b = some u → h'.get? b = some u) (hp : h.objs.size ≤ a) (new : ObjOk P w (upd H a o) h' a o) : HOk P w (upd H a o) h' := fun b u e => by
  have hn := x.fresh hp
  by_cases hb : b = a
  · subst hb; rw [upd_same] at e; cases e; exact new
  · rw [upd_ne hb] at e
    exact (x b u e).stay (fun c v _ q => k c v q) (fun c q => by rw [upd_ne (ne_of_none q hn)]; exact q) fun c xs q => by rw [upd_ne (ne_of_none q hn)]; exact q
end
def Rd (H : Hp) (a : Addr) (u : HO) : Prop := H a = some u ∨ ∃ o, H a = some (.frz o u)
theorem Rd.ok {P : Program} {w : World} {H : Hp} {h : Heap} {a : Addr} {u : HO} (r : Rd H a u) (x : HOk P w H h) : ObjOk P w H h a u := by
  rcases r with r | ⟨o, r⟩
  · exact x a u r
  · obtain ⟨_, q⟩ := x a _ r
    exact q
def Mut : Option HO → Prop
  | some (.lst _) => True
  | some (.dK _) => True
  | some (.dT _) => True
  | some (.set _ _) => True
  | some (.ins _ _ _) => True
  | some (.ext _) => True
  | _ => False
section
variable {P : Program} {w : World} {H : Hp} {h h' : Heap} {x e : Addr} {o' : HO}
theorem HOk.write (ok : HOk P w H h) (mu : Mut (H x)) (he : e = x ∨ H e = some (.own x)) (k : ∀ b u, b ≠ e → h.get? b = some u → h'.get? b = some u) (heo : ∃ u, h'.get? e = some u)
    (new : ObjOk P w (upd H x o') h' x o') : HOk P w (upd H x o') h' := fun b u q => by
  have nown : ∀ c y, H c = some (.own y) → c ≠ x := fun c y r z => by subst z; rw [r] at mu; exact mu
  have ntup : ∀ c xs, H c = some (.tup xs) → c ≠ x := fun c xs r z => by subst z; rw [r] at mu; exact mu
  by_cases hb : b = x
  · subst hb; rw [upd_same] at q; cases q; exact new
  · rw [upd_ne hb] at q
    by_cases hbe : b = e
    · have q' : H b = some (.own x) := by
        rcases he with z | z
        · exact absurd (hbe.trans z) hb
        · rw [hbe]; exact z
      rw [q] at q'; cases q'
      obtain ⟨v, hv⟩ := heo
      exact ⟨v, by rw [hbe]; exact hv⟩
    · refine (ok b u q).stay (fun c v hc r => k c v ?_ r) (fun c r => by rw [upd_ne (nown c b r)]; exact r) fun c xs r => by rw [upd_ne (ntup c xs r)]; exact r
      rcases hc with rfl | hc
      · exact hbe
      · rintro rfl
        rcases he with z | z
        · exact nown c b hc z
        · rw [hc] at z; cases z; exact hb rfl
end
structure Un (fs ex : List Addr) (H H' : Hp) (h h' : Heap) : Prop where
  keep : ∀ b o, h.get? b = some o → H b = none → b ∉ fs → b ∉ ex → h'.get? b = some o
  slot : ∀ b o, h.get? b = some o → H b = none → b ∈ fs → b ∉ ex → ∃ sl, h'.get? b = some { o with slots := sl }
  free : ∀ b o, h.get? b = some o → H b = none → b ∉ ex → H' b = none
  there : ∀ b o, h.get? b = some o → b ∉ ex → ∃ o', h'.get? b = some o'
  tups : ∀ b xs, H b = some (.tup xs) → H' b = some (.tup xs)
  frzs : ∀ b o u, H b = some (.frz o u) → H' b = some (.frz o u)
  tbls : ∀ b ps, H b = some (.tbl ps) → ∃ more, H' b = some (.tbl (ps ++ more))
section
variable {fs fs' ex ex' : List Addr} {H H1 H2 : Hp} {h h1 h2 h' : Heap} {a x e : Addr} {o : HO}
theorem Un.any (u : Un fs ex H H1 h h1) {b : Addr} {ob : Obj} (q : h.get? b = some ob) (n : H b = none) (hx : b ∉ ex) : ∃ sl, h1.get? b = some { ob with slots := sl } := by
  by_cases hb : b ∈ fs
  · exact u.slot b ob q n hb hx
  · exact ⟨ob.slots, u.keep b ob q n hb hx⟩
theorem Un.kept (k : ∀ b u, h.get? b = some u → h'.get? b = some u) : Un fs ex H H h h' :=
  ⟨fun b ob q _ _ _ => k b ob q, fun b ob q _ _ _ => ⟨ob.slots, k b ob q⟩, fun _ _ _ n _ => n, fun b ob q _ => ⟨ob, k b ob q⟩, fun _ _ q => q, fun _ _ _ q => q, fun _ ps q => ⟨#[], by rw [q]; simp⟩⟩
theorem Un.refl : Un fs ex H H h h := Un.kept fun _ _ q => q
theorem Un.laid (k : ∀ b u, h.get? b = some u → h'.get? b = some u) (hp : h.objs.size ≤ a) (hn : H a = none) : Un fs ex H (upd H a o) h h' where
  keep := fun b u q _ _ _ => k b u q
  slot := fun b u q _ _ _ => ⟨u.slots, k b u q⟩
  free := fun b u q n _ => by rw [upd_ne (Nat.ne_of_lt (Nat.lt_of_lt_of_le (Heap.lt_size q) hp))]; exact n
  there := fun b u q _ => ⟨u, k b u q⟩
  tups := fun b xs q => by rw [upd_ne (ne_of_none q hn)]; exact q
  frzs := fun b u xs q => by rw [upd_ne (ne_of_none q hn)]; exact q
  tbls := fun b ps q => ⟨#[], by rw [upd_ne (ne_of_none q hn), q]; simp⟩
theorem Un.write (mu : Mut (H x)) (he : e = x ∨ H e = some (.own x)) (k : ∀ b u, b ≠ e → h.get? b = some u → h'.get? b = some u) (heo : ∃ u, h'.get? e = some u) : Un fs ex H (upd H x o) h h' := by
  have hx : ∀ b, H b = none → b ≠ x := fun b n z => by subst z; rw [n] at mu; exact mu
  have hb : ∀ b, H b = none → b ≠ e := fun b n z => by
    subst z
    rcases he with r | r
    · exact hx b n r
    · rw [n] at r; cases r
  have hm : ∀ b u, H b = some u → ¬ Mut (some u) → b ≠ x := fun b u q nm z => by subst z; rw [q] at mu; exact nm mu
  refine ⟨fun b u q n _ _ => k b u (hb b n) q, fun b u q n _ _ => ⟨u.slots, k b u (hb b n) q⟩, fun b u q n _ => by rw [upd_ne (hx b n)]; exact n, fun b u q _ => ?_,
    fun b xs q => by rw [upd_ne (hm b _ q fun z => z)]; exact q, fun b u xs q => by rw [upd_ne (hm b _ q fun z => z)]; exact q, fun b ps q => ⟨#[], by rw [upd_ne (hm b _ q fun z => z), q]; simp⟩⟩
  by_cases hbe : b = e
  · subst hbe; exact heo
  · exact ⟨u, k b u hbe q⟩
end
def trk (h : Heap) (H : Hp) : List Addr := (List.range h.objs.size).filter fun a => (H a).isSome
def hidT (h : Heap) (H : Hp) : Heap := PySem.W.hideAll h (trk h H)
theorem hidT_size (h : Heap) (H : Hp) : (hidT h H).objs.size = h.objs.size := PySem.W.hideAll_size _ _
theorem hidT_get {h : Heap} {H : Hp} {b : Addr} {o : Obj} (e : h.get? b = some o) (n : H b = none) : (hidT h H).get? b = some o :=
  PySem.W.hideAll_get _ e fun hm => by
    have q : (H b).isSome = true := (List.mem_filter.mp hm).2
    rw [n] at q; simp at q
theorem of_hidT {h : Heap} {H : Hp} {b : Addr} {o : Obj} (e : (hidT h H).get? b = some o) : h.get? b = some o ∧ H b = none := by
  have e' : h.get? b = some o := PySem.W.of_hideAll (trk h H) e
  refine ⟨e', ?_⟩
  cases q : H b with
  | none => rfl
  | some x =>
    have hm : b ∈ trk h H := List.mem_filter.mpr ⟨List.mem_range.mpr (Heap.lt_size e'), by simp [q]⟩
    have z : (hidT h H).get? b = none := PySem.W.hideAll_none (trk h H) hm
    rw [z] at e; cases e
def allNews (g h : Heap) (L : Addr) : List (Addr × Obj) := (List.range h.objs.size).filterMap fun a => if a = L ∨ (g.get? a).isSome = true then none else (h.get? a).map fun o => (a, o)
def rest (g h : Heap) (L d : Addr) : List (Addr × Obj) := (allNews g h L).filter fun p => decide (p.1 ≠ d)
end L2
namespace L2
open PySem PySem.Spec PyProof.Rows
structure Mod (K : PySem.W.Frag) (mg : Str → Option Value) (base : Heap) : Prop where
  kin : K.In base
  glob : base.Ns mainGlobals mg
  blt : ∃ mb, base.Ns builtinsNs mb ∧ ∀ x : Str, x ≠ "__name__" → mb x = bootBuiltins x
  nolimit : base.NoLimit
structure Cx where
  prog : Program
  w : World
  K : PySem.W.Frag
  mg : Str → Option Value
  base : Heap
  A : Around
  N : List Str
  s₀ : Shared
  H₀ : Hp
  env : Env
  outer : List Env
  stack : List Env
  ex : List Addr
  fn : Str → Bool
  calm : Bool
  pn : List (Addr × Obj)
  xe : Value → Shared → Prop
def frs (l : List Env) : List Addr := l.filterMap (·.frame)
abbrev Cx.fs (X : Cx) : List Addr := frs X.outer
def Vis (sc : Scope) (x : Str) : Prop := sc.names.lookup x = some .local ∨ sc.names.lookup x = some .cell ∨ sc.names.lookup x = some .free
def Loc (sc : Scope) (x : Str) : Prop := sc.names.lookup x = some .local ∨ sc.names.lookup x = some .cell
def Look (env : Env) (h : Heap) (m : Str → Option Value) (x : Str) (u : Value) : Prop :=
  (env.kindOf x = some .local ∧ m x = some u) ∨ ((env.kindOf x = some .cell ∨ env.kindOf x = some .free) ∧ ∃ c, env.cells.lookup x = some c ∧ h.IsCell c (some u))
structure Cx.Ok (X : Cx) : Prop where
  mod : Mod X.K X.mg X.base
  kind : X.env.scope.kind = .function
  glob : X.env.globals = mainGlobals
  blt : X.env.builtins = builtinsNs
  above : X.s₀.heap.objs.size ≤ X.env.locals
  inj : ∀ x y c, X.env.cells.lookup x = some c → X.env.cells.lookup y = some c → x = y
  has : ∀ x, (X.env.kindOf x = some .cell ∨ X.env.kindOf x = some .free) → ∃ c, X.env.cells.lookup x = some c
  cab : ∀ x c, X.fn x = true → X.env.cells.lookup x = some c → X.s₀.heap.objs.size ≤ c
  hd : X.calm = true → X.A.handled = none
  frames : X.A.frames = some X.stack
  stk : X.stack = X.outer ∨ (X.stack = X.env :: X.outer ∧ X.env.frame = some X.env.locals)
  exf : ∀ b ∈ X.ex, b ≠ X.env.locals ∧ ∀ x c, X.env.cells.lookup x = some c → c ≠ b
  bs : ∀ b o, X.base.get? b = some o → X.s₀.heap.get? b = some o ∧ X.H₀ b = none
  bsz : X.base.objs.size ≤ X.s₀.heap.objs.size
  noex : ∀ b o, X.base.get? b = some o → b ∉ X.ex
  exfs : ∀ b ∈ X.ex, b ∉ X.fs
  funs : X.s₀.heap.FunFrames X.base X.outer
  frf : ∀ b ∈ X.fs, X.H₀ b = none
structure Inv (X : Cx) (pins : List (Addr × Obj)) (σ : List (Option V)) (H : Hp) (s : Shared) : Prop where
  ok : X.Ok
  os : s.os = X.s₀.os
  bare : AllBare s.gens
  base : Un X.fs X.ex X.H₀ H X.s₀.heap s.heap
  loc : ∃ m, s.heap.Ns X.env.locals m ∧ ∀ (i : Nat) (x : Str) (v : V), X.N[i]? = some x → σ[i]? = some (some v) → Vis X.env.scope x → ∃ u, RelV v u ∧ Look X.env s.heap m x u
  cell : ∀ x c, X.env.cells.lookup x = some c → ∃ v, s.heap.IsCell c v
  free : H X.env.locals = none
  freeC : ∀ x c, X.env.cells.lookup x = some c → H c = none
  pin : ∀ p ∈ X.pn ++ pins, s.heap.get? p.1 = some p.2 ∧ H p.1 = none ∧ p.1 ≠ X.env.locals ∧ p.1 ∉ X.fs ∧ ∀ v, p.2.data ≠ .cell v
  hok : HOk X.prog X.w H s.heap
  len : σ.length = X.N.length
section
variable {X : Cx} {pins : List (Addr × Obj)} {σ : List (Option V)} {H H' : Hp} {s : Shared} {h' : Heap}
theorem Cx.Ok.nofr (ok : X.Ok) {b : Addr} {o : Obj} (e : X.base.get? b = some o) : b ∉ X.fs := fun hb => by
  have := (ok.funs.mem hb).1
  rw [e] at this; cases this
theorem Inv.bs (I : Inv X pins σ H s) : ∀ b o, X.base.get? b = some o → s.heap.get? b = some o ∧ H b = none := fun b o e =>
  ⟨I.base.keep b o (I.ok.bs b o e).1 (I.ok.bs b o e).2 (I.ok.nofr e) (I.ok.noex b o e), I.base.free b o (I.ok.bs b o e).1 (I.ok.bs b o e).2 (I.ok.noex b o e)⟩
theorem Inv.bk (I : Inv X pins σ H s) : ∀ b o, X.base.get? b = some o → s.heap.get? b = some o := fun b o e => (I.bs b o e).1
theorem Inv.mod (I : Inv X pins σ H s) : Mod X.K X.mg X.base := I.ok.mod
theorem Inv.kIn (I : Inv X pins σ H s) : X.K.In s.heap := I.ok.mod.kin.keeps I.bk
theorem Inv.lt (I : Inv X pins σ H s) : X.env.locals < s.heap.objs.size := let ⟨_, hn, _⟩ := I.loc; hn.lt
theorem Inv.sz (I : Inv X pins σ H s) : X.s₀.heap.objs.size ≤ s.heap.objs.size := Nat.le_trans I.ok.above (Nat.le_of_lt I.lt)
theorem Inv.nofs (I : Inv X pins σ H s) {a : Addr} (h : s.heap.objs.size ≤ a) : a ∉ X.fs := fun hb => by
  obtain ⟨_, o, ho, _⟩ := I.ok.funs.mem hb
  exact absurd (Nat.lt_of_lt_of_le (Heap.lt_size ho) (Nat.le_trans I.sz h)) (Nat.lt_irrefl _)
theorem Inv.cne (I : Inv X pins σ H s) : ∀ x c, X.env.cells.lookup x = some c → c ≠ X.env.locals := fun x c e z => by
  obtain ⟨v, o, ho, hd⟩ := I.cell x c e
  obtain ⟨m, ⟨o', es, ep, ho', hd', _⟩, _⟩ := I.loc
  rw [z, ho'] at ho; cases ho; rw [hd'] at hd; cases hd
theorem Inv.funs (I : Inv X pins σ H s) : s.heap.FunFrames X.base X.outer := by
  have all : ∀ (l : List Env), (∀ b ∈ frs l, b ∈ X.fs) → X.s₀.heap.FunFrames X.base l → s.heap.FunFrames X.base l := by
    intro l
    induction l with
    | nil => intro _ _; trivial
    | cons env r ih =>
      intro hs hl
      obtain ⟨hk, ⟨L, o, hf, hn, ho, hd⟩, hr⟩ := hl
      have hL : L ∈ X.fs := hs L (by unfold frs; rw [List.filterMap_cons, hf]; exact List.mem_cons_self)
      obtain ⟨sl, e⟩ := I.base.slot L o ho (I.ok.frf L hL) hL fun z => I.ok.exfs L z hL
      exact ⟨hk, ⟨L, _, hf, hn, e, hd⟩, ih (fun b hb => hs b (by unfold frs; rw [List.filterMap_cons, hf]; exact List.mem_cons_of_mem _ hb)) hr⟩
  exact all X.outer (fun _ hb => hb) I.ok.funs
theorem Inv.stack (I : Inv X pins σ H s) : s.heap.FunFrames X.base X.stack := by
  rcases I.ok.stk with e | ⟨e, hf⟩
  · rw [e]; exact I.funs
  · rw [e]
    obtain ⟨m, hn, _⟩ := I.loc
    refine .cons (by rw [I.ok.kind]; decide) hf hn ?_ I.funs
    exact Heap.get?_none_of_le (Nat.le_trans I.ok.bsz I.ok.above)
theorem Inv.stkSub (I : Inv X pins σ H s) : ∀ b ∈ frs X.stack, b ∈ X.env.locals :: X.fs := fun b hb => by
  rcases I.ok.stk with e | ⟨e, hf⟩
  · rw [e] at hb; exact List.mem_cons_of_mem _ hb
  · rw [e] at hb
    unfold frs at hb
    rw [List.filterMap_cons, hf] at hb
    exact hb
theorem Inv.stkFree (I : Inv X pins σ H s) : ∀ b ∈ frs X.stack, H b = none := fun b hb => by
  rcases List.mem_cons.mp (I.stkSub b hb) with e | hb
  · rw [e]; exact I.free
  · obtain ⟨_, o, ho, _⟩ := I.ok.funs.mem hb
    exact I.base.free b o ho (I.ok.frf b hb) fun z => I.ok.exfs b z hb
theorem Inv.step {g' : Array GenState} {t' : Nat} {d' : Drawn} {ch : List Addr} (I : Inv X pins σ H s)
    (hch : ∀ b ∈ ch, (b ∈ X.ex ∨ X.s₀.heap.objs.size ≤ b) ∧ b ≠ X.env.locals ∧ (∀ x c, X.env.cells.lookup x = some c → c ≠ b) ∧ ∀ p ∈ X.pn ++ pins, p.1 ≠ b)
    (keep : ∀ b o, b ≠ X.env.locals → b ∉ X.fs → b ∉ ch → s.heap.get? b = some o → H b = none → h'.get? b = some o)
    (slot : ∀ b o, b ≠ X.env.locals → b ∈ X.fs → b ∉ ch → s.heap.get? b = some o → H b = none → ∃ sl, h'.get? b = some { o with slots := sl }) (free : ∀ b o, b ∉ ch → s.heap.get? b = some o → H b = none → H' b = none)
    (there : ∀ b o, b ∉ ch → s.heap.get? b = some o → ∃ o', h'.get? b = some o')
    (tups : ∀ b xs, H b = some (.tup xs) → H' b = some (.tup xs)) (frzs : ∀ b o u, H b = some (.frz o u) → H' b = some (.frz o u)) (tbls : ∀ b ps, H b = some (.tbl ps) → ∃ more, H' b = some (.tbl (ps ++ more)))
    (ns : ∀ m, s.heap.Ns X.env.locals m → h'.Ns X.env.locals m) (hok : HOk X.prog X.w H' h') (hg : AllBare g') :
    Inv X pins σ H' { s with heap := h', gens := g', drawn := d', toks := t' } := by
  have neL : ∀ b o, X.s₀.heap.get? b = some o → b ≠ X.env.locals := fun b o e => Nat.ne_of_lt (Nat.lt_of_lt_of_le (Heap.lt_size e) I.ok.above)
  have neC : ∀ b o, X.s₀.heap.get? b = some o → b ∉ X.ex → b ∉ ch := fun b o e hx hb => by
    rcases (hch b hb).1 with z | z
    · exact hx z
    · exact absurd (Nat.lt_of_lt_of_le (Heap.lt_size e) z) (Nat.lt_irrefl _)
  have cellK : ∀ x c, X.env.cells.lookup x = some c → ∀ v, s.heap.IsCell c v → h'.IsCell c v := fun x c e v ⟨o, ho, hd⟩ => by
    have nch : c ∉ ch := fun z => (hch c z).2.2.1 x c e rfl
    by_cases hc : c ∈ X.fs
    · obtain ⟨sl, q⟩ := slot c o (I.cne x c e) hc nch ho (I.freeC x c e)
      exact ⟨_, q, hd⟩
    · exact ⟨o, keep c o (I.cne x c e) hc nch ho (I.freeC x c e), hd⟩
  refine ⟨I.ok, I.os, hg, ⟨fun b o e n hb hx => ?_, fun b o e n hb hx => ?_, fun b o e n hx => ?_, fun b o e hx => ?_, fun b xs e => tups b xs (I.base.tups b xs e), fun b o xs e => frzs b o xs (I.base.frzs b o xs e), fun b ps e => ?_⟩, ?_, fun x c e => ?_, ?_, fun x c e => ?_, fun p hp => ?_, hok, I.len⟩
  · exact keep b o (neL b o e) hb (neC b o e hx) (I.base.keep b o e n hb hx) (I.base.free b o e n hx)
  · obtain ⟨sl, e1⟩ := I.base.slot b o e n hb hx
    obtain ⟨sl', e2⟩ := slot b _ (neL b o e) hb (neC b o e hx) e1 (I.base.free b o e n hx)
    exact ⟨sl', e2⟩
  · obtain ⟨o', e1⟩ := I.base.there b o e hx
    exact free b o' (neC b o e hx) e1 (I.base.free b o e n hx)
  · obtain ⟨o', e1⟩ := I.base.there b o e hx
    exact there b o' (neC b o e hx) e1
  · obtain ⟨m1, e1⟩ := I.base.tbls b ps e
    obtain ⟨m2, e2⟩ := tbls b _ e1
    exact ⟨m1 ++ m2, by rw [e2, Array.append_assoc]⟩
  · obtain ⟨m, hn, hl⟩ := I.loc
    refine ⟨m, ns m hn, fun i x v e1 e2 e3 => ?_⟩
    obtain ⟨u, r, l⟩ := hl i x v e1 e2 e3
    refine ⟨u, r, ?_⟩
    rcases l with l | ⟨k, c, e, z⟩
    · exact .inl l
    · exact .inr ⟨k, c, e, cellK x c e _ z⟩
  · obtain ⟨v, z⟩ := I.cell x c e
    exact ⟨v, cellK x c e v z⟩
  · obtain ⟨m, ⟨o, _, _, ho, _⟩, _⟩ := I.loc
    exact free _ o (fun z => (hch _ z).2.1 rfl) ho I.free
  · obtain ⟨v, o, ho, hd⟩ := I.cell x c e
    exact free c o (fun z => (hch c z).2.2.1 x c e rfl) ho (I.freeC x c e)
  · obtain ⟨e, n, ne, nf, d⟩ := I.pin p hp
    have nch : p.1 ∉ ch := fun z => (hch p.1 z).2.2.2 p hp rfl
    exact ⟨keep p.1 p.2 ne nf nch e n, free p.1 p.2 nch e n, ne, nf, d⟩
theorem Inv.un {t' : Nat} (I : Inv X pins σ H s) (u : Un X.fs [] H H' s.heap h') (hok : HOk X.prog X.w H' h') : Inv X pins σ H' { s with heap := h', toks := t' } := by
  obtain ⟨m, ⟨o, es, ep, ho, r⟩, _⟩ := id I.loc
  obtain ⟨sl, hL⟩ := u.any ho I.free (by simp)
  exact I.step (g' := s.gens) (d' := s.drawn) (ch := []) (fun _ z => nomatch z) (fun b o _ hb _ e n => u.keep b o e n hb (by simp)) (fun b o _ hb _ e n => u.slot b o e n hb (by simp)) (fun b o _ e n => u.free b o e n (by simp)) (fun b o _ e => u.there b o e (by simp)) u.tups u.frzs u.tbls (fun m' hm => by
    obtain ⟨o', es', ep', ho', r'⟩ := hm
    rw [ho] at ho'; cases ho'
    exact ⟨_, es', ep', hL, r'⟩) hok I.bare
theorem Inv.call {g' : Array GenState} {t' : Nat} {d' : Drawn} {ch : List Addr} (I : Inv X pins σ H s) (u : Un (frs X.stack) ch H H' s.heap h') (hok : HOk X.prog X.w H' h') (hg : AllBare g')
    (hch : ∀ b ∈ ch, (b ∈ X.ex ∨ X.s₀.heap.objs.size ≤ b) ∧ b ≠ X.env.locals ∧ (∀ x c, X.env.cells.lookup x = some c → c ≠ b) ∧ ∀ p ∈ X.pn ++ pins, p.1 ≠ b) :
    Inv X pins σ H' { s with heap := h', gens := g', drawn := d', toks := t' } := by
  obtain ⟨m, ⟨o, es, ep, ho, r⟩, _⟩ := id I.loc
  obtain ⟨sl, hL⟩ := u.any ho I.free fun z => (hch _ z).2.1 rfl
  exact I.step (ch := ch) hch (fun b o hL hb hc e n => u.keep b o e n (fun z => (List.mem_cons.mp (I.stkSub b z)).elim hL hb) hc) (fun b o _ _ hc e n => u.any e n hc) (fun b o hc e n => u.free b o e n hc) (fun b o hc e => u.there b o e hc) u.tups u.frzs u.tbls (fun m' hm => by
    obtain ⟨o', es', ep', ho', r'⟩ := hm
    rw [ho] at ho'; cases ho'
    exact ⟨_, es', ep', hL, r'⟩) hok hg
theorem Inv.turned {t' : Nat} {it : Addr} (I : Inv X pins σ H s) (k : ∀ b o, b ≠ it → s.heap.get? b = some o → h'.get? b = some o) (hn : H it = none) (hL : it ≠ X.env.locals)
    (h1 : it ∈ X.ex ∨ X.s₀.heap.objs.size ≤ it) (h2 : ∀ x c, X.env.cells.lookup x = some c → c ≠ it) (h3 : ∀ p ∈ X.pn ++ pins, p.1 ≠ it) : Inv X pins σ H { s with heap := h', toks := t' } := by
  have nit : ∀ b u, H b = some u → b ≠ it := fun b u e z => by rw [z, hn] at e; cases e
  refine I.step (g' := s.gens) (d' := s.drawn) (ch := [it]) (fun b hb => ?_) (fun b o _ _ hc e _ => k b o (fun z => hc (by simp [z])) e) (fun b o _ _ hc e _ => ⟨o.slots, k b o (fun z => hc (by simp [z])) e⟩) (fun _ _ _ _ n => n)
    (fun b o hc e => ⟨o, k b o (fun z => hc (by simp [z])) e⟩) (fun _ _ e => e) (fun _ _ _ e => e) (fun b ps e => ⟨#[], by rw [e]; simp⟩) (fun m hm => ?_) (fun b u e => ?_) I.bare
  · have e : b = it := by simpa using hb
    subst e
    exact ⟨h1, hL, h2, h3⟩
  · obtain ⟨o, es, ep, ho, r⟩ := hm
    exact ⟨o, es, ep, k _ o (Ne.symm hL) ho, r⟩
  · refine (I.hok b u e).stay (fun c v hc q => k c v ?_ q) (fun _ q => q) fun _ _ q => q
    rcases hc with z | z
    · rw [z]; exact nit b u e
    · exact nit c _ z
theorem Inv.tok (I : Inv X pins σ H s) (t : Nat) : Inv X pins σ H { s with toks := t } := I.un (h' := s.heap) (t' := t) Un.refl I.hok
theorem Inv.kept {t' : Nat} (I : Inv X pins σ H s) (k : ∀ b u, s.heap.get? b = some u → h'.get? b = some u) : Inv X pins σ H { s with heap := h', toks := t' } := I.un (Un.kept k) (I.hok.kept k)
theorem Inv.laid {a : Addr} {o : HO} {t' : Nat} (I : Inv X pins σ H s) (k : ∀ b u, s.heap.get? b = some u → h'.get? b = some u) (hp : s.heap.objs.size ≤ a) (new : ObjOk X.prog X.w (upd H a o) h' a o) :
    Inv X pins σ (upd H a o) { s with heap := h', toks := t' } := I.un (Un.laid k hp (I.hok.fresh hp)) (I.hok.laid k hp new)
theorem Inv.write {x e : Addr} {o : HO} {t' : Nat} (I : Inv X pins σ H s) (mu : Mut (H x)) (he : e = x ∨ H e = some (.own x)) (k : ∀ b u, b ≠ e → s.heap.get? b = some u → h'.get? b = some u) (heo : ∃ u, h'.get? e = some u)
    (new : ObjOk X.prog X.w (upd H x o) h' x o) : Inv X pins σ (upd H x o) { s with heap := h', toks := t' } := I.un (Un.write mu he k heo) (I.hok.write mu he k heo new)
theorem Inv.weak {σ' : List (Option V)} (I : Inv X pins σ H s) (hl : σ'.length = σ.length) (w : ∀ (i : Nat) v, σ'[i]? = some (some v) → σ[i]? = some (some v)) : Inv X pins σ' H s :=
  ⟨I.ok, I.os, I.bare, I.base, let ⟨m, hn, hl'⟩ := I.loc; ⟨m, hn, fun i x v e1 e2 e3 => hl' i x v e1 (w i v e2) e3⟩, I.cell, I.free, I.freeC, I.pin, I.hok, hl.trans I.len⟩
theorem Inv.pins_of {pins' : List (Addr × Obj)} (I : Inv X pins σ H s) (h : ∀ p ∈ pins', s.heap.get? p.1 = some p.2 ∧ H p.1 = none ∧ p.1 ≠ X.env.locals ∧ p.1 ∉ X.fs ∧ ∀ v, p.2.data ≠ .cell v) : Inv X pins' σ H s :=
  ⟨I.ok, I.os, I.bare, I.base, I.loc, I.cell, I.free, I.freeC, fun p hp => (List.mem_append.mp hp).elim (fun z => I.pin p (List.mem_append_left _ z)) (h p), I.hok, I.len⟩
theorem nodup_ix {N : List Str} (hN : N.Nodup) {i j : Nat} {x : Str} (a : N[i]? = some x) (b : N[j]? = some x) : i = j := by
  obtain ⟨h1, e1⟩ := List.getElem?_eq_some_iff.mp a
  obtain ⟨h2, e2⟩ := List.getElem?_eq_some_iff.mp b
  exact (List.getElem_inj hN).mp (e1.trans e2.symm)
theorem store_ok2 {M : Model} {A : Around} {E : Value → Shared → Prop} {i : Nat} {x : Str} {v : V} {u : Value} {Q : Unit → Shared → Prop} (I : Inv X pins σ H s) (hN : X.N.Nodup) (hi : X.N[i]? = some x) (hx : Loc X.env.scope x) (r : RelV v u)
    (h : ∀ s', Inv X pins (σ.set i (some v)) H s' → (∃ a, Heap.SameBut a s.heap s'.heap ∧ (a = X.env.locals ∨ X.env.cells.lookup x = some a)) → Q () s') (hf : X.fn x = true ∨ X.env.scope.names.lookup x = some .local := by first | exact .inl rfl | exact .inr rfl | assumption) : wpAny M A (storeName X.env x u) Q E s := by
  obtain ⟨m, hn, hl⟩ := id I.loc
  have hcls : (X.env.scope.kind == .class || (X.env.scope.kind == .module && X.env.locals != X.env.globals)) = false := by rw [I.ok.kind]; rfl
  have hiσ : i < σ.length := by rw [I.len]; exact (List.getElem?_eq_some_iff.mp hi).1
  have cne := I.cne
  have tracked : ∀ {a : Addr} {h' : Heap}, (∃ o, s.heap.get? a = some o ∧ H a = none) → Heap.SameBut a s.heap h' → HOk X.prog X.w H h' := fun {a h'} ha hs b ob e => by
    obtain ⟨_, _, hfree⟩ := ha
    refine (I.hok b ob e).stay (fun c w' hc q => (hs.2 c ?_).trans q) (fun _ q => q) fun _ _ q => q
    rintro rfl
    rcases hc with rfl | hc
    · rw [hfree] at e; cases e
    · rw [hfree] at hc; cases hc
  rcases hx with hk | hk
  · refine wpAny_storeName_local hk hn (fun h' hn' hs => ?_) hcls
    obtain ⟨oL, _, _, hoL, _⟩ := id hn
    refine h _ ⟨I.ok, I.os, I.bare, ⟨fun b o e n hb hx => ?_, fun b o e n hb hx => ?_, I.base.free, fun b o e hx => ?_, I.base.tups, I.base.frzs, I.base.tbls⟩, ⟨_, hn', fun j y v' e1 e2 e3 => ?_⟩, fun y c e => ?_, I.free, I.freeC, fun p hp => ?_, tracked ⟨oL, hoL, I.free⟩ hs, by simpa using I.len⟩ ⟨_, hs, .inl rfl⟩
    · exact (hs.2 b (Nat.ne_of_lt (Nat.lt_of_lt_of_le (Heap.lt_size e) I.ok.above))).trans (I.base.keep b o e n hb hx)
    · obtain ⟨sl, e1⟩ := I.base.slot b o e n hb hx
      exact ⟨sl, (hs.2 b (Nat.ne_of_lt (Nat.lt_of_lt_of_le (Heap.lt_size e) I.ok.above))).trans e1⟩
    · obtain ⟨o', e1⟩ := I.base.there b o e hx
      exact ⟨o', (hs.2 b (Nat.ne_of_lt (Nat.lt_of_lt_of_le (Heap.lt_size e) I.ok.above))).trans e1⟩
    · by_cases hj : j = i
      · subst hj
        rw [hi] at e1; cases e1
        rw [List.getElem?_set_self hiσ] at e2
        cases e2
        exact ⟨u, r, .inl ⟨hk, by simp⟩⟩
      · rw [List.getElem?_set_ne (Ne.symm hj)] at e2
        obtain ⟨u', r', q⟩ := hl j y v' e1 e2 e3
        refine ⟨u', r', ?_⟩
        rcases q with ⟨k, e⟩ | ⟨k, c, e, z⟩
        · refine .inl ⟨k, ?_⟩
          have : y ≠ x := fun e => hj (nodup_ix hN e1 (e ▸ hi))
          simp [this, e]
        · exact .inr ⟨k, c, e, z.sameBut hs (cne y c e)⟩
    · obtain ⟨w', z⟩ := I.cell y c e
      exact ⟨w', z.sameBut hs (cne y c e)⟩
    · obtain ⟨e, n, ne, nf, d⟩ := I.pin p hp
      exact ⟨(hs.2 p.1 ne).trans e, n, ne, nf, d⟩
  · have hfn : X.fn x = true := by
      rcases hf with z | z
      · exact z
      · rw [z] at hk; cases hk
    obtain ⟨c, hc⟩ := I.ok.has x (.inl hk)
    obtain ⟨w', z⟩ := I.cell x c hc
    refine wpAny_storeName_cell I.ok.kind hk hc z (fun h' hc' hs => ?_)
    obtain ⟨oc, hoc, hocd⟩ := id z
    refine h { s with heap := h' } ⟨I.ok, I.os, I.bare, ⟨fun b o e n hb hx => ?_, fun b o e n hb hx => ?_, I.base.free, fun b o e hx => ?_, I.base.tups, I.base.frzs, I.base.tbls⟩, ⟨m, hn.sameBut hs (Ne.symm (cne x c hc)), fun j y v' e1 e2 e3 => ?_⟩, fun y c' e => ?_, I.free, I.freeC, fun p hp => ?_, tracked ⟨oc, hoc, I.freeC x c hc⟩ hs, by simpa using I.len⟩ ⟨c, hs, .inr hc⟩
    · exact (hs.2 b (Nat.ne_of_lt (Nat.lt_of_lt_of_le (Heap.lt_size e) (I.ok.cab x c hfn hc)))).trans (I.base.keep b o e n hb hx)
    · obtain ⟨sl, e1⟩ := I.base.slot b o e n hb hx
      exact ⟨sl, (hs.2 b (Nat.ne_of_lt (Nat.lt_of_lt_of_le (Heap.lt_size e) (I.ok.cab x c hfn hc)))).trans e1⟩
    · obtain ⟨o', e1⟩ := I.base.there b o e hx
      exact ⟨o', (hs.2 b (Nat.ne_of_lt (Nat.lt_of_lt_of_le (Heap.lt_size e) (I.ok.cab x c hfn hc)))).trans e1⟩
    · by_cases hj : j = i
      · subst hj
        rw [hi] at e1; cases e1
        rw [List.getElem?_set_self hiσ] at e2
        cases e2
        exact ⟨u, r, .inr ⟨.inl hk, c, hc, hc'⟩⟩
      · rw [List.getElem?_set_ne (Ne.symm hj)] at e2
        obtain ⟨u', r', q⟩ := hl j y v' e1 e2 e3
        refine ⟨u', r', ?_⟩
        rcases q with q | ⟨k, c', e, z'⟩
        · exact .inl q
        · refine .inr ⟨k, c', e, z'.sameBut hs ?_⟩
          rintro rfl
          exact hj (nodup_ix hN e1 (I.ok.inj _ _ _ e hc ▸ hi))
    · by_cases hcc : c' = c
      · subst hcc; exact ⟨_, hc'⟩
      · obtain ⟨w2, z2⟩ := I.cell y c' e
        exact ⟨w2, z2.sameBut hs hcc⟩
    · obtain ⟨e, n, ne, nf, d⟩ := I.pin p hp
      refine ⟨(hs.2 p.1 ?_).trans e, n, ne, nf, d⟩
      intro q
      rw [q, hoc] at e
      have q' : oc = p.2 := Option.some.inj e
      exact d w' (by rw [← q']; exact hocd)
theorem store_ok {M : Model} {A : Around} {E : Value → Shared → Prop} {i : Nat} {x : Str} {v : V} {u : Value} {Q : Unit → Shared → Prop} (I : Inv X pins σ H s) (hN : X.N.Nodup) (hi : X.N[i]? = some x) (hx : Loc X.env.scope x) (r : RelV v u)
    (h : ∀ s', Inv X pins (σ.set i (some v)) H s' → Q () s') (hf : X.fn x = true ∨ X.env.scope.names.lookup x = some .local := by first | exact .inl rfl | exact .inr rfl | assumption) : wpAny M A (storeName X.env x u) Q E s :=
  store_ok2 I hN hi hx r (fun s' I' _ => h s' I') hf
theorem Inv.call' {s' : Shared} {ch : List Addr} (I : Inv X pins σ H s) (ho : s'.os = s.os) (u : Un (frs X.stack) ch H H' s.heap s'.heap) (hok : HOk X.prog X.w H' s'.heap) (hg : AllBare s'.gens)
    (hch : ∀ b ∈ ch, (b ∈ X.ex ∨ X.s₀.heap.objs.size ≤ b) ∧ b ≠ X.env.locals ∧ (∀ x c, X.env.cells.lookup x = some c → c ≠ b) ∧ ∀ p ∈ X.pn ++ pins, p.1 ≠ b) : Inv X pins σ H' s' := by
  obtain ⟨h', g', d', t', o'⟩ := s'
  have e : o' = s.os := ho
  subst e
  exact I.call (g' := g') (t' := t') (d' := d') u hok hg hch
end
abbrev XK := Value → Option Addr → Hp → Prop
abbrev St := List (Option V)
abbrev VK := V → Hp → Prop
abbrev TE := St → Hp → VK → Prop
abbrev TT := St → Hp → (Bool → Hp → Prop) → Prop
abbrev TA := St → Hp → (List V → Hp → Prop) → Prop
structure Ends where
  nx : St → Hp → Prop
  rt : VK
  bk : St → Hp → Prop := fun _ _ => False
  ct : St → Hp → Prop := fun _ _ => False
abbrev TS := Ends → St → Hp → Prop
def EP (X : Cx) (pins : List (Addr × Obj)) (σ : St) (Q : VK) (u : Value) (s' : Shared) : Prop := ∃ v H', Inv X pins σ H' s' ∧ RelV v u ∧ Q v H'
def TP (X : Cx) (pins : List (Addr × Obj)) (σ : St) (Q : Bool → Hp → Prop) (b : Bool) (s' : Shared) : Prop := ∃ H', Inv X pins σ H' s' ∧ Q b H'
def AP (X : Cx) (pins : List (Addr × Obj)) (σ : St) (Q : List V → Hp → Prop) (us : List Value) (s' : Shared) : Prop := ∃ vs H', Inv X pins σ H' s' ∧ Vals vs us ∧ Q vs H'
def SP (X : Cx) (pins : List (Addr × Obj)) (D : Ends) (f : Flow) (s' : Shared) : Prop :=
  match f with
  | .next => ∃ σ' H', Inv X pins σ' H' s' ∧ D.nx σ' H'
  | .brk => ∃ σ' H', Inv X pins σ' H' s' ∧ D.bk σ' H'
  | .cont => ∃ σ' H', Inv X pins σ' H' s' ∧ D.ct σ' H'
  | .ret u => ∃ v σ' H', Inv X pins σ' H' s' ∧ RelV v u ∧ D.rt v H'
def PE (X : Cx) (e : Expr) (t : TE) : Prop :=
  ∀ (pins : List (Addr × Obj)) (s : Shared) (σ : St) (H : Hp) (Q : VK), Inv X pins σ H s → t σ H Q → wpAny (model X.prog X.w) X.A (eval e X.env) (EP X pins σ Q) X.xe s
def PT (X : Cx) (e : Expr) (t : TT) : Prop :=
  ∀ (pins : List (Addr × Obj)) (s : Shared) (σ : St) (H : Hp) (Q : Bool → Hp → Prop), Inv X pins σ H s → t σ H Q → wpAny (model X.prog X.w) X.A (isTrue e X.env (eval e X.env)) (TP X pins σ Q) X.xe s
def PW (X : Cx) (e : Expr) (t : TT) : Prop :=
  ∀ (whole : Sem Value) (pins : List (Addr × Obj)) (s : Shared) (σ : St) (H : Hp) (Q : Bool → Hp → Prop), Inv X pins σ H s → t σ H Q → wpAny (model X.prog X.w) X.A (isTrue e X.env whole) (TP X pins σ Q) X.xe s
theorem PW.pt {X : Cx} {e : Expr} {t : TT} (h : PW X e t) : PT X e t := h _
def PA (X : Cx) (es : List Expr) (t : TA) : Prop :=
  ∀ (pos : Pos) (pins : List (Addr × Obj)) (s : Shared) (σ : St) (H : Hp) (Q : List V → Hp → Prop), Inv X pins σ H s → t σ H Q → wpAny (model X.prog X.w) X.A (spliced (backTo pos (starEach es X.env))) (AP X pins σ Q) X.xe s
def PS (X : Cx) (st : Stmt) (t : TS) : Prop :=
  ∀ (pins : List (Addr × Obj)) (s : Shared) (σ : St) (H : Hp) (D : Ends), Inv X pins σ H s → t D σ H → wpAny (model X.prog X.w) X.A (exec st X.env) (SP X pins D) X.xe s
def PSs (X : Cx) (st : List Stmt) (t : TS) : Prop :=
  ∀ (pins : List (Addr × Obj)) (s : Shared) (σ : St) (H : Hp) (D : Ends), Inv X pins σ H s → t D σ H → wpAny (model X.prog X.w) X.A (execs st X.env) (SP X pins D) X.xe s
theorem thn {α : Type} {t : Sem α} {Q Q' : α → Shared → Prop} {M : Model} {A : Around} {E : Value → Shared → Prop} {s : Shared} (h : wpAny M A t Q E s) (hQ : ∀ a s, Q a s → Q' a s) : wpAny M A t Q' E s := wpAny_mono h hQ fun _ _ x => x
end L2
namespace L2
open PySem PySem.Spec PyProof.Rows
section
variable {X : Cx}
def tVar (i : Nat) : TE := fun σ H Q => ∃ v, σ[i]? = some (some v) ∧ Q v H
def tC (v : V) : TE := fun _ H Q => Q v H
theorem pe_var {i : Nat} {x : Str} {pos : Pos} (hN : X.N[i]? = some x) (hv : Vis X.env.scope x) (hd : (x == ("__debug__" : Str)) = false := by decide) (hcd : (x == ("__classdict__" : Str)) = false := by decide) : PE X (.Name x pos) (tVar i) := by
  intro pins s σ H Q I h
  obtain ⟨v, e, h⟩ := h
  obtain ⟨m, hn, hl⟩ := I.loc
  obtain ⟨u, r, l⟩ := hl i x v hN e hv
  have fin : EP X pins σ Q u s := ⟨v, H, I, r, h⟩
  rcases l with ⟨hk, hm⟩ | ⟨hk, c, hc, hcell⟩
  · exact wpAny_Name (wpAny_loadName_local I.ok.kind hk hn hm fin) hd
  · rcases hk with hk | hk
    · exact wpAny_Name (wpAny_loadName_cell I.ok.kind hk hc hcell fin) hd
    · exact wpAny_Name (wpAny_loadName_free I.ok.kind hk hc hcell fin hcd) hd
theorem pe_int {i j pos} : PE X (.Constant (.int i) j pos) (tC (.int i)) := fun _ _ _ H _ I h => wpAny_Constant_int ⟨.int i, H, I.tok _, ⟨_, rfl⟩, h⟩
theorem pe_bl {b j pos} : PE X (.Constant (.bool b) j pos) (tC (.bl b)) := fun _ _ _ H _ I h => Constant_bool ⟨.bl b, H, I, rfl, h⟩
theorem pe_str {x j pos} : PE X (.Constant (.str x) j pos) (tC (.str x)) := fun _ _ _ H _ I h => Calls.Constant_str ⟨.str x, H, I.tok _, ⟨_, rfl⟩, h⟩
def Gl (X : Cx) (x : Str) : Prop := X.env.kindOf x = some .globalImplicit
theorem ld_glob {E : Value → Shared → Prop} {pins : List (Addr × Obj)} {s : Shared} {σ : St} {H : Hp} {x : Str} {u : Value} {pos : Pos} {Q : Value → Shared → Prop} (I : Inv X pins σ H s) (hg : Gl X x) (hm : X.mg x = some u) (h : Q u s)
    (hd : (x == ("__debug__" : Str)) = false := by decide) : wpAny (model X.prog X.w) X.A (eval (.Name x pos) X.env) Q E s :=
  Calls.Name_function_global I.ok.kind hg (Calls.loadGlobal_global (by rw [I.ok.glob]; exact I.mod.glob.keeps I.bk) hm h) hd
theorem ld_blt {E : Value → Shared → Prop} {pins : List (Addr × Obj)} {s : Shared} {σ : St} {H : Hp} {x : Str} {u : Value} {pos : Pos} {Q : Value → Shared → Prop} (I : Inv X pins σ H s) (hg : Gl X x) (hm : X.mg x = none) (hv : bootBuiltins x = some u) (h : Q u s)
    (hn : x ≠ "__name__" := by decide) (hd : (x == ("__debug__" : Str)) = false := by decide) : wpAny (model X.prog X.w) X.A (eval (.Name x pos) X.env) Q E s := by
  obtain ⟨mb, h1, h2⟩ := I.mod.blt
  exact Calls.Name_function_global I.ok.kind hg (Calls.loadGlobal_builtin (by rw [I.ok.glob]; exact I.mod.glob.keeps I.bk) hm (by rw [I.ok.blt]; exact h1.keeps I.bk) ((h2 x hn).trans hv) h) hd
theorem pe_glob {x : Str} {v : V} {u : Value} {pos : Pos} (hg : Gl X x) (hm : X.mg x = some u) (r : RelV v u) (hd : (x == ("__debug__" : Str)) = false := by decide) : PE X (.Name x pos) (tC v) :=
  fun _ _ _ H _ I h => ld_glob I hg hm ⟨v, H, I, r, h⟩ hd
theorem pe_bltn {x : Str} {v : V} {u : Value} {pos : Pos} (hg : Gl X x) (hm : X.mg x = none) (hv : bootBuiltins x = some u) (r : RelV v u) (hn : x ≠ "__name__" := by decide) (hd : (x == ("__debug__" : Str)) = false := by decide) : PE X (.Name x pos) (tC v) :=
  fun _ _ _ H _ I h => ld_blt I hg hm hv ⟨v, H, I, r, h⟩ hn hd
variable {a b : Expr} {ta tb : TE} {pos : Pos}
def tB (t : TE) : TT := fun σ H Q => t σ H fun x H1 => ∃ c, x = .bl c ∧ Q c H1
theorem pt_val {e : Expr} {t : TE} (h : PE X e t) (he : ∀ whole, isTrue e X.env whole = (do let v ← whole; standAt e.pos; holding [v] (truthy v)) := by intro _; rfl) : PT X e (tB t) := by
  intro pins s σ H Q I hw
  refine isTrue_plain (thn (h pins s σ H _ I hw) fun v s1 ⟨x, H1, I1, r1, q1⟩ => ?_) (he _)
  obtain ⟨d, rfl, q⟩ := q1
  cases r1
  exact wpAny_truthy_bool ⟨H1, I1, q⟩
variable {tA tB' : TT} {rest : List Expr}
def tAnd (t u : TT) : TT := fun σ H Q => t σ H fun c H1 => if c = true then u σ H1 Q else Q false H1
def tOr (t u : TT) : TT := fun σ H Q => t σ H fun c H1 => if c = true then Q true H1 else u σ H1 Q
def tNot (t : TT) : TT := fun σ H Q => t σ H fun c H1 => Q (!c) H1
theorem pw_and1 (ha : PT X a tA) : PW X (.BoolOp .And [a] pos) tA := by
  intro wh pins s σ H Q I h
  refine isTrue_and (thn (ha pins s σ H Q I h) fun c s1 e => ?_)
  cases c with
  | true => exact isTrue_and_nil e
  | false => exact e
theorem pw_or1 (ha : PT X a tA) : PW X (.BoolOp .Or [a] pos) tA := by
  intro wh pins s σ H Q I h
  refine isTrue_or (thn (ha pins s σ H Q I h) fun c s1 e => ?_)
  cases c with
  | false => exact isTrue_or_nil e
  | true => exact e
theorem pw_and (ha : PT X a tA) (hb : PW X (.BoolOp .And (b :: rest) pos) tB') : PW X (.BoolOp .And (a :: b :: rest) pos) (tAnd tA tB') := by
  intro wh pins s σ H Q I h
  refine isTrue_and (thn (ha pins s σ H _ I h) fun c s1 ⟨H1, I1, q1⟩ => ?_)
  cases c with
  | true => exact hb wh pins s1 σ H1 Q I1 q1
  | false => exact ⟨H1, I1, q1⟩
theorem pw_or (ha : PT X a tA) (hb : PW X (.BoolOp .Or (b :: rest) pos) tB') : PW X (.BoolOp .Or (a :: b :: rest) pos) (tOr tA tB') := by
  intro wh pins s σ H Q I h
  refine isTrue_or (thn (ha pins s σ H _ I h) fun c s1 ⟨H1, I1, q1⟩ => ?_)
  cases c with
  | true => exact ⟨H1, I1, q1⟩
  | false => exact hb wh pins s1 σ H1 Q I1 q1
theorem pt_not (ha : PT X a tA) : PT X (.UnaryOp .Not a pos) (tNot tA) := by
  intro pins s σ H Q I h
  exact isTrue_not (ha pins s σ H (fun c H1 => Q (!c) H1) I h)
def tAndV (ta tb : TE) : TE := fun σ H Q => ta σ H fun x H1 => ∃ c, x = .bl c ∧ if c = true then tb σ H1 Q else Q (.bl false) H1
def tNotV (ta : TE) : TE := fun σ H Q => ta σ H fun x H1 => ∃ c, x = .bl c ∧ Q (.bl (!c)) H1
theorem pe_one {op} {t : TE} (h : PE X a t) : PE X (.BoolOp op [a] pos) t := fun pins s σ H Q I hw => BoolOp_one (h pins s σ H Q I hw)
theorem pe_and (ha : PE X a ta) (hb : PE X (.BoolOp .And (b :: rest) pos) tb) : PE X (.BoolOp .And (a :: b :: rest) pos) (tAndV ta tb) := by
  intro pins s σ H Q I h
  refine BoolOp_and (thn (ha pins s σ H _ I h) fun v s1 ⟨x, H1, I1, r1, q1⟩ => ?_)
  obtain ⟨c, rfl, q1⟩ := q1
  cases r1
  refine wpAny_truthy_bool ?_
  cases c with
  | true => exact hb pins s1 σ H1 Q I1 q1
  | false => exact ⟨.bl false, H1, I1, rfl, q1⟩
theorem pe_not (ha : PE X a ta) : PE X (.UnaryOp .Not a pos) (tNotV ta) := by
  intro pins s σ H Q I h
  refine UnaryOp_ (thn (ha pins s σ H _ I h) fun v s1 ⟨x, H1, I1, r1, q1⟩ => ?_)
  obtain ⟨c, rfl, q1⟩ := q1
  cases r1
  exact not_of (wpAny_truthy_bool ⟨.bl (!c), H1, I1, rfl, q1⟩)
end
end L2
namespace L2
open PySem PySem.Spec PyProof.Rows
def SqL (K : PySem.W.Frag) (H : Hp) (a : Addr) (xs : List V) : Prop :=
  Rd H a (.lst xs) ∨
    ∃ (o : Obj) (its : Array Value) (n : Nat), K.lookup a = some o ∧ o.cls = .type "list" ∧ o.dict = none ∧ o.data = .seq its n ∧ its.size ≤ sizeLine ∧ Vals xs its.toList
def SqT (K : PySem.W.Frag) (H : Hp) (a : Addr) (xs : List V) : Prop :=
  Rd H a (.tup xs) ∨
    ∃ (o : Obj) (its : Array Value) (n : Nat), K.lookup a = some o ∧ o.cls = .type "tuple" ∧ o.data = .seq its n ∧ its.size ≤ sizeLine ∧ Vals xs its.toList
def absV : Value → Option V
  | .none => some .non
  | .bool b => some (.bl b)
  | .int i _ => some (.int i)
  | .str x _ => some (.str x)
  | .bytes b _ => some (.byt b)
  | .float b _ => some (.flt b)
  | .ref a => some (.ref a)
  | .type n => some (.ty n)
  | _ => none
theorem RelV.abs {x : V} {u : Value} (r : RelV x u) : absV u = some x := by
  cases x with
  | non => cases r; rfl
  | bl _ => cases r; rfl
  | int _ => obtain ⟨t, rfl⟩ := r; rfl
  | str _ => obtain ⟨t, rfl⟩ := r; rfl
  | byt _ => obtain ⟨t, rfl⟩ := r; rfl
  | flt _ => obtain ⟨t, rfl⟩ := r; rfl
  | ref _ => cases r; rfl
  | ty _ => cases r; rfl
theorem RelV.inj {x y : V} {u : Value} (r : RelV x u) (q : RelV y u) : x = y := Option.some.inj (r.abs.symm.trans q.abs)
theorem Vals.inj : ∀ {xs ys : List V} {us : List Value}, Vals xs us → Vals ys us → xs = ys
  | _, _, _, .nil, .nil => rfl
  | _, _, _, .cons r t, .cons r' t' => by rw [r.inj r', Vals.inj t t']
section
variable {X : Cx} {pins : List (Addr × Obj)} {σ : St} {H : Hp} {s : Shared} {a : Addr} {xs ys : List V}
theorem SqL.of {K : PySem.W.Frag} (h : H a = some (.lst xs)) : SqL K H a xs := .inl (.inl h)
theorem SqT.of {K : PySem.W.Frag} (h : H a = some (.tup xs)) : SqT K H a xs := .inl (.inl h)
theorem Inv.list (I : Inv X pins σ H s) (h : SqL X.K H a xs) : ∃ its : List Value, Vals xs its ∧ PlainL s.heap a its.toArray ∧ xs.length ≤ sizeLine := by
  rcases h with h | ⟨o, its, n, hk, hc, hd, hs, hz, r⟩
  · obtain ⟨z, its, n, r, e⟩ := h.ok I.hok
    exact ⟨its, r, ⟨_, n, e, rfl, rfl, rfl⟩, z⟩
  · refine ⟨its.toList, r, ⟨o, n, I.kIn a o hk, hc, hd, by simpa using hs⟩, ?_⟩
    have e := r.length
    simp only [Array.length_toList] at e
    omega
theorem Inv.tuple (I : Inv X pins σ H s) (h : SqT X.K H a xs) : ∃ its : List Value, Vals xs its ∧ IsTup s.heap a its.toArray ∧ xs.length ≤ sizeLine := by
  rcases h with h | ⟨o, its, n, hk, hc, hs, hz, r⟩
  · obtain ⟨z, its, r, p⟩ := h.ok I.hok
    exact ⟨its, r, p, z⟩
  · refine ⟨its.toList, r, ⟨o, I.kIn a o hk, hc, n, by simpa using hs⟩, ?_⟩
    have e := r.length
    simp only [Array.length_toList] at e
    omega
theorem Inv.list_inj (I : Inv X pins σ H s) (h : SqL X.K H a xs) (h' : SqL X.K H a ys) : xs = ys := by
  obtain ⟨its, r, ⟨o, n, e, _, _, d⟩, _⟩ := I.list h
  obtain ⟨its', r', ⟨o', n', e', _, _, d'⟩, _⟩ := I.list h'
  rw [e] at e'; cases e'
  rw [d] at d'
  injection d' with d1 _
  have : its = its' := by simpa using congrArg Array.toList d1
  subst this
  exact r.inj r'
theorem Inv.tuple_inj (I : Inv X pins σ H s) (h : SqT X.K H a xs) (h' : SqT X.K H a ys) : xs = ys := by
  obtain ⟨its, r, ⟨o, e, _, n, d⟩, _⟩ := I.tuple h
  obtain ⟨its', r', ⟨o', e', _, n', d'⟩, _⟩ := I.tuple h'
  rw [e] at e'; cases e'
  rw [d] at d'
  injection d' with d1 _
  have : its = its' := by simpa using congrArg Array.toList d1
  subst this
  exact r.inj r'
end
abbrev Cx.wish (X : Cx) (E : Value → Shared → Prop) : Cx := { X with xe := E }
abbrev Cx.nox (X : Cx) : Cx := X.wish fun _ _ => False
theorem Cx.Ok.wish {X : Cx} (ok : X.Ok) (E : Value → Shared → Prop) : (X.wish E).Ok :=
  ⟨ok.mod, ok.kind, ok.glob, ok.blt, ok.above, ok.inj, ok.has, ok.cab, ok.hd, ok.frames, ok.stk, ok.exf, ok.bs, ok.bsz, ok.noex, ok.exfs, ok.funs, ok.frf⟩
theorem Cx.Ok.unwish {X : Cx} {E : Value → Shared → Prop} (ok : (X.wish E).Ok) : X.Ok :=
  ⟨ok.mod, ok.kind, ok.glob, ok.blt, ok.above, ok.inj, ok.has, ok.cab, ok.hd, ok.frames, ok.stk, ok.exf, ok.bs, ok.bsz, ok.noex, ok.exfs, ok.funs, ok.frf⟩
section
variable {X : Cx} {pins : List (Addr × Obj)} {σ : St} {H : Hp} {s : Shared} {E : Value → Shared → Prop}
theorem Inv.wish (I : Inv X pins σ H s) (E : Value → Shared → Prop) : Inv (X.wish E) pins σ H s := ⟨I.ok.wish E, I.os, I.bare, I.base, I.loc, I.cell, I.free, I.freeC, I.pin, I.hok, I.len⟩
theorem Inv.unwish (I : Inv (X.wish E) pins σ H s) : Inv X pins σ H s := ⟨I.ok.unwish, I.os, I.bare, I.base, I.loc, I.cell, I.free, I.freeC, I.pin, I.hok, I.len⟩
theorem SP.unwish {D : Ends} {f : Flow} {s' : Shared} (h : SP (X.wish E) pins D f s') : SP X pins D f s' := by
  cases f with
  | next => obtain ⟨σ', H', I, q⟩ := h; exact ⟨σ', H', I.unwish, q⟩
  | brk => obtain ⟨σ', H', I, q⟩ := h; exact ⟨σ', H', I.unwish, q⟩
  | cont => obtain ⟨σ', H', I, q⟩ := h; exact ⟨σ', H', I.unwish, q⟩
  | ret u => obtain ⟨v, σ', H', I, r, q⟩ := h; exact ⟨v, σ', H', I.unwish, r, q⟩
theorem PSs.nox {st : List Stmt} {t : TS} (h : PSs X.nox st t) : PSs X st t := fun pins s σ H D I hw =>
  wpAny_mono (h pins s σ H D (I.wish _) hw) (fun _ _ q => q.unwish) fun _ _ z => False.elim z
end
section
variable {X : Cx} {st : Stmt} {rest : List Stmt} {t u : TS} {e : Expr} {te : TE} {pos : Pos}
def tNext : TS := fun D σ H => D.nx σ H
def tSeq (t u : TS) : TS := fun D σ H => t { D with nx := u D } σ H
theorem pss_nil : PSs X [] tNext := fun _ _ σ H _ I h => wpAny_execs_nil ⟨σ, H, I, h⟩
theorem pss_cons (h1 : PS X st t) (h2 : PSs X rest u) : PSs X (st :: rest) (tSeq t u) := by
  intro pins s σ H D I h
  refine wpAny_execs_cons (thn (h1 pins s σ H { D with nx := u D } I h) fun f s1 q => ?_)
  cases f with
  | next =>
    obtain ⟨σ', H', I', q⟩ := q
    exact h2 pins s1 σ' H' D I' q
  | ret v => exact q
  | brk => exact q
  | cont => exact q
theorem pss_one (h1 : PS X st t) : PSs X [st] t := by
  intro pins s σ H D I h
  refine wpAny_execs_cons (thn (h1 pins s σ H D I h) fun f s1 q => ?_)
  cases f with
  | next => exact wpAny_execs_nil q
  | ret v => exact q
  | brk => exact q
  | cont => exact q
theorem Inv.quiet {pins : List (Addr × Obj)} {σ : St} {H : Hp} {s : Shared} (I : Inv X pins σ H s) : interactive X.env = false := by simp [interactive, I.ok.kind]
def tDrop (te : TE) : TS := fun D σ H => te σ H fun _ H1 => D.nx σ H1
theorem ps_expr (he : PE X e te) (hs : swapsWith e none pos.line X.env = pure false := by rfl) : PS X (.Expr e pos) (tDrop te) := by
  intro pins s σ H D I h
  exact wpAny_Expr_any (thn (he pins s σ H _ I h) fun v s1 ⟨x, H1, I1, r1, q1⟩ => ⟨σ, H1, I1, q1⟩) I.quiet hs
def tRet (te : TE) : TS := fun D σ H => te σ H D.rt
theorem ps_ret (he : PE X e te) : PS X (.Return (some e) pos) (tRet te) := by
  intro pins s σ H D I h
  exact wpAny_Return_some (thn (he pins s σ H _ I h) fun v s1 ⟨x, H1, I1, r1, q1⟩ => ⟨x, σ, H1, I1, r1, q1⟩)
def tIfS (c : TT) (t u : TS) : TS := fun D σ H => c σ H fun b H1 => if b = true then t D σ H1 else u D σ H1
theorem ps_if {c : Expr} {a b : List Stmt} {tc : TT} (hc : PT X c tc) (ha : PSs X a t) (hb : PSs X b u) : PS X (.If c a b pos) (tIfS tc t u) := by
  intro pins s σ H D I h
  refine wpAny_If (thn (hc pins s σ H _ I h) fun d s1 ⟨H1, I1, q1⟩ => ?_)
  cases d with
  | true => exact ha pins s1 σ H1 D I1 q1
  | false => exact hb pins s1 σ H1 D I1 q1
def tNever : TS := fun _ _ _ => False
theorem ps_never : PS X st tNever := fun _ _ _ _ _ _ h => h.elim
end
abbrev TG := V → St → Hp → (St → Hp → Prop) → Prop
abbrev TGs := List V → St → Hp → (St → Hp → Prop) → Prop
def PG (X : Cx) (target : Expr) (t : TG) : Prop :=
  ∀ (pins : List (Addr × Obj)) (s : Shared) (σ : St) (H : Hp) (v : V) (u : Value) (Q : St → Hp → Prop), Inv X pins σ H s → RelV v u → t v σ H Q →
    wpAny (model X.prog X.w) X.A (assign target X.env u) (fun _ s' => ∃ σ' H', Inv X pins σ' H' s' ∧ Q σ' H') X.xe s
def PGs (X : Cx) (ts : List Expr) (t : TGs) : Prop :=
  ∀ (pins : List (Addr × Obj)) (s : Shared) (σ : St) (H : Hp) (vs : List V) (us : List Value) (Q : St → Hp → Prop), Inv X pins σ H s → Vals vs us → t vs σ H Q →
    wpAny (model X.prog X.w) X.A (assignInOrder ((assignEach ts X.env).map (·.2)) us) (fun _ s' => ∃ σ' H', Inv X pins σ' H' s' ∧ Q σ' H') X.xe s
abbrev TIp := V → V → Hp → VK → Prop
def PIp (X : Cx) (op : Operator) (t : TIp) : Prop :=
  ∀ (pins : List (Addr × Obj)) (s : Shared) (σ : St) (H : Hp) (x y : V) (v u : Value) (Q : VK), Inv X pins σ H s → RelV x v → RelV y u → t x y H Q →
    wpAny (model X.prog X.w) X.A (inplaceOp op v u) (EP X pins σ Q) X.xe s
section
variable {X : Cx} {pos : Pos}
def gName (i : Nat) : TG := fun v σ H Q => Q (σ.set i (some v)) H
theorem pg_name {i : Nat} {x : Str} (hN : X.N.Nodup) (hi : X.N[i]? = some x) (hx : Loc X.env.scope x) (hf : X.fn x = true ∨ X.env.scope.names.lookup x = some .local := by first | exact .inl rfl | exact .inr rfl | assumption) : PG X (.Name x pos) (gName i) := by
  intro pins s σ H v u Q I r h
  exact wpAny_assign_Name (store_ok I hN hi hx r (fun s' I' => ⟨_, H, I', h⟩) hf)
def gNil : TGs := fun vs σ H Q => vs = [] ∧ Q σ H
def gCons (t : TG) (u : TGs) : TGs := fun vs σ H Q => ∃ v r, vs = v :: r ∧ t v σ H fun σ' H' => u r σ' H' Q
theorem pgs_nil : PGs X [] gNil := by
  intro pins s σ H vs us Q I r h
  obtain ⟨e, h⟩ := h
  subst e
  cases r
  exact assignInOrder_nil ⟨σ, H, I, h⟩
theorem pgs_cons {e : Expr} {es : List Expr} {t : TG} {u : TGs} (h1 : PG X e t) (h2 : PGs X es u)
    (hs : (assignEach (e :: es) X.env).map (·.2) = assign e X.env :: (assignEach es X.env).map (·.2) := by rfl) : PGs X (e :: es) (gCons t u) := by
  intro pins s σ H vs us Q I r h
  obtain ⟨v, vr, e1, h⟩ := h
  subst e1
  cases r with
  | cons r rr =>
    rw [hs]
    refine assignInOrder_cons (thn (h1 pins s σ H _ _ _ I r h) fun _ s1 ⟨σ1, H1, I1, q1⟩ => ?_)
    exact h2 pins s1 σ1 H1 _ _ Q I1 rr q1
def gTup (K : PySem.W.Frag) (n : Nat) (t : TGs) : TG := fun v σ H Q => ∃ a xs, v = .ref a ∧ SqT K H a xs ∧ xs.length = n ∧ t xs σ H Q
theorem pg_tup {es : List Expr} {k : Nat} {t : TGs} {n : Nat} (hc : X.calm = true) (h : PGs X es t)
    (hn : (assignEach es X.env).length = n := by rfl) (hst : (assignEach es X.env).findIdx? (·.1) = none := by rfl) : PG X (.Tuple es k pos) (gTup X.K n t) := by
  intro pins s σ H v u Q I r hw
  obtain ⟨a, xs, e1, hq, hl, hw⟩ := hw
  subst e1
  cases r
  obtain ⟨its, rv, ht, hz⟩ := I.tuple hq
  refine assign_Tuple_tuple (I.ok.hd hc) ht (by simp [hn, ← hl, rv.length]) hst fun h' hx => ?_
  have I1 : Inv X pins σ H { s with heap := h' } := I.kept (t' := s.toks) fun b o e => hx b o (Nat.ne_of_lt (Heap.lt_size e)) e
  exact h pins _ σ H xs _ Q I1 (by simpa using rv) hw
def tAsg (te : TE) (g : TG) : TS := fun D σ H => te σ H fun x H1 => g x σ H1 D.nx
theorem ps_set {i : Nat} {x : Str} {e : Expr} {te : TE} {pos' : Pos} (hN : X.N.Nodup) (hi : X.N[i]? = some x) (hx : Loc X.env.scope x) (he : PE X e te) (hs : swapsWith e (some (.Name x pos')) pos.line X.env = pure false := by rfl) (hf : X.fn x = true ∨ X.env.scope.names.lookup x = some .local := by first | exact .inl rfl | exact .inr rfl | assumption) :
    PS X (.Assign [.Name x pos'] e pos) (tAsg te (gName i)) := by
  intro pins s σ H D I h
  refine wpAny_Assign_Name (thn (he pins s σ H _ I h) fun v s1 ⟨y, H1, I1, r1, q1⟩ => ?_) hs
  exact store_ok I1 hN hi hx r1 (fun s2 I2 => ⟨_, H1, I2, q1⟩) hf
def tAug (i : Nat) (te : TE) (ti : TIp) : TS := fun D σ H => ∃ x, σ[i]? = some (some x) ∧ te σ H fun y H1 => ti x y H1 fun z H2 => D.nx (σ.set i (some z)) H2
theorem ps_aug {i : Nat} {x : Str} {e : Expr} {te : TE} {op : Operator} {ti : TIp} {pos' : Pos} (hN : X.N.Nodup) (hi : X.N[i]? = some x) (hx : Loc X.env.scope x) (he : PE X e te) (ho : PIp X op ti) (hf : X.fn x = true ∨ X.env.scope.names.lookup x = some .local := by first | exact .inl rfl | exact .inr rfl | assumption) :
    PS X (.AugAssign (.Name x pos') op e pos) (tAug i te ti) := by
  intro pins s σ H D I h
  obtain ⟨v, e1, h⟩ := h
  obtain ⟨m, hn, hl⟩ := I.loc
  have vis : Vis X.env.scope x := by rcases hx with k | k; exact .inl k; exact .inr (.inl k)
  obtain ⟨u, r, l⟩ := hl i x v hi e1 vis
  refine wpAny_AugAssign_Name ?_
  have go : wpAny (model X.prog X.w) X.A (eval e X.env) (fun w s₂ => wpAny (model X.prog X.w) X.A (inplaceOp op u w) (fun r s₃ => wpAny (model X.prog X.w) X.A (storeName X.env x r) (fun _ => SP X pins D .next) X.xe s₃) X.xe s₂) X.xe s := by
    refine thn (he pins s σ H _ I h) fun w s1 ⟨y, H1, I1, r1, q1⟩ => ?_
    refine thn (ho pins s1 σ H1 v y u w _ I1 r r1 q1) fun z s2 ⟨zv, H2, I2, r2, q2⟩ => ?_
    exact store_ok I2 hN hi hx r2 (fun s3 I3 => ⟨_, H2, I3, q2⟩) hf
  rcases l with ⟨hk, hm⟩ | ⟨hk, c, hc, hcell⟩
  · exact wpAny_loadName_local I.ok.kind hk hn hm go
  · rcases hk with hk | hk
    · exact wpAny_loadName_cell I.ok.kind hk hc hcell go
    · rcases hx with k | k
      · have : X.env.scope.names.lookup x = some .free := hk
        rw [k] at this; cases this
      · have : X.env.scope.names.lookup x = some .free := hk
        rw [k] at this; cases this
def ipI (f : Int → Int → Int) : TIp := fun x y H Q => ∃ i j, x = .int i ∧ y = .int j ∧ Q (.int (f i j)) H
theorem ip_add : PIp X .Add (ipI fun i j => i + j) := by
  intro pins s σ H x y v u Q I r1 r2 h
  obtain ⟨i, j, e1, e2, q⟩ := h
  subst e1; subst e2
  obtain ⟨t, rfl⟩ := r1
  obtain ⟨t', rfl⟩ := r2
  exact iadd_int ⟨.int _, H, I.tok _, ⟨_, rfl⟩, q⟩
end
section
variable {X : Cx} {pos : Pos}
def tWhile (c : TT) (tb : TS) : TS := fun D σ H => ∃ W : Nat → St → Hp → Prop, (∃ m, W m σ H) ∧ ∀ m σ H, W m σ H →
  c σ H fun b H1 => if b = true then ∃ N : St → Hp → Prop, (∀ σ' H', N σ' H' → ∃ m', m' < m ∧ W m' σ' H') ∧ tb { D with nx := N, ct := N, bk := D.nx } σ H1 else D.nx σ H1
theorem ps_while {c : Expr} {body : List Stmt} {tc : TT} {tb : TS} (hp : PassesOwn (model X.prog X.w) X.A X.env X.xe) (hc : PT X c tc) (hb : PSs X body tb) : PS X (.While c body [] pos) (tWhile tc tb) := by
  intro pins s σ H D I h
  obtain ⟨W, ⟨m0, w0⟩, turn⟩ := h
  refine wpAny_While (codeAny_whileLoop (fun n s' => ∃ σ' H', Inv X pins σ' H' s' ∧ W n σ' H') ?_ m0 ⟨σ, H, I, w0⟩)
  rintro n s1 ⟨σ1, H1, I1, w1⟩
  refine wpAny_passesOwn hp (thn (hc pins s1 σ1 H1 _ I1 (turn n σ1 H1 w1)) fun b s2 ⟨H2, I2, q2⟩ => ?_)
  cases b with
  | true =>
    obtain ⟨N, hN, q2⟩ := q2
    rw [if_pos rfl]
    refine wpAny_passesOwn hp (thn (hb pins s2 σ1 H2 _ I2 q2) fun f s3 q3 => ?_)
    cases f with
    | next =>
      obtain ⟨σ3, H3, I3, n3⟩ := q3
      obtain ⟨m', hm, w3⟩ := hN σ3 H3 n3
      exact ⟨m', hm, σ3, H3, I3, w3⟩
    | cont =>
      obtain ⟨σ3, H3, I3, n3⟩ := q3
      obtain ⟨m', hm, w3⟩ := hN σ3 H3 n3
      exact ⟨m', hm, σ3, H3, I3, w3⟩
    | brk => exact q3
    | ret v => exact q3
  | false =>
    rw [if_neg Bool.false_ne_true]
    exact wpAny_execs_nil ⟨σ1, H2, I2, q2⟩
end
structure It where
  go : Nat → Hp → Prop
  yld : Nat → Hp → V → Hp → Prop
  stop : Nat → Hp → Prop
def FpOk (X : Cx) (pins : List (Addr × Obj)) (H : Hp) (b : Addr) : Prop :=
  H b = none ∧ b ≠ X.env.locals ∧ b ∉ X.fs ∧ (b ∈ X.ex ∨ X.s₀.heap.objs.size ≤ b) ∧ (∀ x c, X.env.cells.lookup x = some c → c ≠ b) ∧ ∀ p ∈ X.pn ++ pins, p.1 ≠ b
theorem Inv.fpOk {X : Cx} {pins : List (Addr × Obj)} {σ : St} {H H' : Hp} {s : Shared} {b : Addr} (I : Inv X pins σ H s) (hb : s.heap.objs.size ≤ b) (hn : H' b = none) : FpOk X pins H' b := by
  refine ⟨hn, Nat.ne_of_gt (Nat.lt_of_lt_of_le I.lt hb), I.nofs hb, .inr (Nat.le_trans I.sz hb), fun x c e z => ?_, fun p hp z => ?_⟩
  · obtain ⟨v, q⟩ := I.cell x c e
    exact absurd (Nat.lt_of_lt_of_le q.lt (by rw [z]; exact hb)) (Nat.lt_irrefl _)
  · exact absurd (Nat.lt_of_lt_of_le (Heap.lt_size (I.pin p hp).1) (by rw [z]; exact hb)) (Nat.lt_irrefl _)
structure Turn (P : Program) (w : World) (K : PySem.W.Frag) (tg : Expr) (J : It) (fp : List Addr) (it : Addr) (tn : Nat → Heap → Prop) : Prop where
  mem : it ∈ fp
  obj : ∀ i h, tn i h → ∀ b ∈ fp, ∃ o, h.get? b = some o ∧ ∀ v, o.data ≠ .cell v
  keep : ∀ i h h', tn i h → (∀ b ∈ fp, ∀ o, h.get? b = some o → h'.get? b = some o) → tn i h'
  item : ∀ (X : Cx), X.prog = P → X.w = w → X.K = K → X.calm = true → ∀ (i : Nat) (pins : List (Addr × Obj)) (s : Shared) (σ : St) (H : Hp) (E : Value → Shared → Prop), Inv X pins σ H s → (∀ b ∈ fp, FpOk X pins H b) → tn i s.heap → J.go i H →
    wpAny (model P w) X.A (pyNext (.ref it)) (fun r s1 => ∃ u, r = some u ∧
      wpAny (model P w) X.A (letOwnedTupleGo tg (.ref it) u) (fun _ s2 => ∃ x H', Inv X pins σ H' s2 ∧ RelV x u ∧ J.yld i H x H' ∧ tn (i + 1) s2.heap ∧ ∀ b ∈ fp, H' b = none) E s1) E s
  done : ∀ (X : Cx), X.prog = P → X.w = w → X.K = K → X.calm = true → ∀ (i : Nat) (pins : List (Addr × Obj)) (s : Shared) (σ : St) (H : Hp) (E : Value → Shared → Prop), Inv X pins σ H s → (∀ b ∈ fp, FpOk X pins H b) → tn i s.heap → J.stop i H →
    wpAny (model P w) X.A (pyNext (.ref it)) (fun r s1 => r = none ∧ Inv X pins σ H s1) E s
  self : ∀ (A : Around) (i : Nat) (s : Shared) (Q : Value → Shared → Prop) (E : Value → Shared → Prop), tn i s.heap → Q (.ref it) s → wpAny (model P w) A (pyIter (.ref it)) Q E s
abbrev TI := St → Hp → (It → Hp → Prop) → Prop
def PIE (X : Cx) (pins : List (Addr × Obj)) (σ : St) (tg : Expr) (R : It → Hp → Prop) (itv : Value) (s2 : Shared) : Prop :=
  ∃ (it : Addr) (fp : List Addr) (tn : Nat → Heap → Prop) (J : It) (H' : Hp), itv = .ref it ∧ Inv X pins σ H' s2 ∧ Turn X.prog X.w X.K tg J fp it tn ∧ tn 0 s2.heap ∧ (∀ b ∈ fp, FpOk X pins H' b) ∧ R J H'
def PI (X : Cx) (tg iter : Expr) (wi : TI) : Prop :=
  ∀ (pins : List (Addr × Obj)) (s : Shared) (σ : St) (H : Hp) (R : It → Hp → Prop), Inv X pins σ H s → wi σ H R →
    wpAny (model X.prog X.w) X.A (eval iter X.env) (fun v s1 => wpAny (model X.prog X.w) X.A (pyIter v) (PIE X pins σ tg R) X.xe s1) X.xe s
theorem go_of {M : Model} {A : Around} {E : Value → Shared → Prop} {s : Shared} {tg : Expr} {it : Addr} {u : Value} {o : Obj} {n : String} {vs : Array Value} {Q : Unit → Shared → Prop} (ho : s.heap.get? it = some o) (hc : o.cls = .type n) (hd : o.data = .fields vs)
    (hn : ["enumerate", "zip", "dict_itemiterator", "dict_reverseitemiterator", "odict_iterator", "itertools.zip_longest", "itertools.pairwise"].contains n = false) (hQ : Q () s) : wpAny M A (letOwnedTupleGo tg (.ref it) u) Q E s := by
  unfold letOwnedTupleGo
  cases tg <;> first
    | exact wpAny_pure hQ
    | (cases u <;> first
        | exact wpAny_pure hQ
        | (refine wpAny_bind (wpAny_load ho ?_)
           rw [hc, hd]
           show wpAny M A (if (["enumerate", "zip", "dict_itemiterator", "dict_reverseitemiterator", "odict_iterator", "itertools.zip_longest", "itertools.pairwise"].contains n && vs[0]? == some (rawInt _)) = true then _ else _) Q E s
           rw [if_neg (by intro h; rw [hn, Bool.false_and] at h; cases h)]
           exact wpAny_pure hQ))
def Itl (K : PySem.W.Frag) (a : Addr) : It :=
  ⟨fun i H => ∃ xs x, SqL K H a xs ∧ xs[i]? = some x, fun i H x H' => H' = H ∧ ∀ xs, SqL K H a xs → xs[i]? = some x, fun i H => ∃ xs, SqL K H a xs ∧ xs.length ≤ i⟩
def Itt (K : PySem.W.Frag) (a : Addr) : It :=
  ⟨fun i H => ∃ xs x, SqT K H a xs ∧ xs[i]? = some x, fun i H x H' => H' = H ∧ ∀ xs, SqT K H a xs → xs[i]? = some x, fun i H => ∃ xs, SqT K H a xs ∧ xs.length ≤ i⟩
def Itr (lo : Int) (n : Nat) : It := ⟨fun i _ => i < n, fun i H x H' => H' = H ∧ x = .int (lo + i), fun i _ => n ≤ i⟩
theorem turn_list {P : Program} {w : World} {K : PySem.W.Frag} {tg : Expr} (a it : Addr) : Turn P w K tg (Itl K a) [it] it (fun i h => h.IsListIter it a i) where
  mem := by simp
  obj := fun i h st b hb => by
    have e : b = it := by simpa using hb
    subst e
    obtain ⟨o, e, c, d⟩ := st
    exact ⟨o, e, fun v z => by rw [d] at z; cases z⟩
  keep := fun i h h' st k => st.at fun o e => k it (by simp) o e
  item := by
    intro X hP hw hK hc i pins s σ H E I hf st hg
    subst hP hw hK
    obtain ⟨xs, x, hq, hx⟩ := hg
    obtain ⟨its, rv, p, hz⟩ := I.list hq
    obtain ⟨u, hu, ru⟩ := rv.get hx
    obtain ⟨f0, f1, f2, f3, f4, f5⟩ := hf it (by simp)
    refine wpAny_pyNext_list_item st p.isList (x := u) (by simpa using hu) fun h' st' sb => ?_
    have I1 : Inv X pins σ H { s with heap := h' } := I.turned (t' := s.toks) (fun b o hb e => (sb.2 b hb).trans e) f0 f1 f3 f4 f5
    obtain ⟨o, e, c, d⟩ := id st'
    exact ⟨u, rfl, go_of (s := { s with heap := h' }) e c d (by decide) ⟨x, H, I1, ru, ⟨rfl, fun ys hy => by rw [I.list_inj hy hq]; exact hx⟩, st', fun b hb => (hf b hb).1⟩⟩
  done := by
    intro X hP hw hK hc i pins s σ H E I hf st hg
    subst hP hw hK
    obtain ⟨xs, hq, hx⟩ := hg
    obtain ⟨its, rv, p, hz⟩ := I.list hq
    obtain ⟨f0, f1, f2, f3, f4, f5⟩ := hf it (by simp)
    have hl := rv.length
    exact wpAny_pyNext_list_end (I.ok.hd hc) st p.isList (by simp; omega) fun h' eb => ⟨rfl, I.turned (t' := s.toks) (fun b o hb e => eb b o hb e) f0 f1 f3 f4 f5⟩
  self := fun _ _ _ _ _ st h => wpAny_pyIter_listiter st h
theorem turn_tuple {P : Program} {w : World} {K : PySem.W.Frag} {tg : Expr} (a it : Addr) : Turn P w K tg (Itt K a) [it] it (fun i h => h.IsTupleIter it a i) where
  mem := by simp
  obj := fun i h st b hb => by
    have e : b = it := by simpa using hb
    subst e
    obtain ⟨o, e, c, d⟩ := st
    exact ⟨o, e, fun v z => by rw [d] at z; cases z⟩
  keep := fun i h h' st k => st.at fun o e => k it (by simp) o e
  item := by
    intro X hP hw hK hc i pins s σ H E I hf st hg
    subst hP hw hK
    obtain ⟨xs, x, hq, hx⟩ := hg
    obtain ⟨its, rv, p, hz⟩ := I.tuple hq
    obtain ⟨u, hu, ru⟩ := rv.get hx
    obtain ⟨f0, f1, f2, f3, f4, f5⟩ := hf it (by simp)
    refine wpAny_pyNext_tuple_item st (show s.heap.IsTuple a its.toArray from p) (x := u) (by simpa using hu) fun h' st' sb => ?_
    have I1 : Inv X pins σ H { s with heap := h' } := I.turned (t' := s.toks) (fun b o hb e => (sb.2 b hb).trans e) f0 f1 f3 f4 f5
    obtain ⟨o, e, c, d⟩ := id st'
    exact ⟨u, rfl, go_of (s := { s with heap := h' }) e c d (by decide) ⟨x, H, I1, ru, ⟨rfl, fun ys hy => by rw [I.tuple_inj hy hq]; exact hx⟩, st', fun b hb => (hf b hb).1⟩⟩
  done := by
    intro X hP hw hK hc i pins s σ H E I hf st hg
    subst hP hw hK
    obtain ⟨xs, hq, hx⟩ := hg
    obtain ⟨its, rv, p, hz⟩ := I.tuple hq
    obtain ⟨f0, f1, f2, f3, f4, f5⟩ := hf it (by simp)
    have hl := rv.length
    exact wpAny_pyNext_tuple_end (I.ok.hd hc) st (show s.heap.IsTuple a its.toArray from p) (by simp; omega) fun h' eb => ⟨rfl, I.turned (t' := s.toks) (fun b o hb e => eb b o hb e) f0 f1 f3 f4 f5⟩
  self := fun _ _ _ _ _ st h => wpAny_pyIter_tupleiter st h
theorem turn_range {P : Program} {w : World} {K : PySem.W.Frag} {tg : Expr} (it : Addr) (lo : Int) (n : Nat) : Turn P w K tg (Itr lo n) [it] it (fun i h => IsRangeIter h it (lo + (i : Nat) * 1) ((n : Int) - (i : Nat)) 1) where
  mem := by simp
  obj := fun i h st b hb => by
    have e : b = it := by simpa using hb
    subst e
    exact ⟨_, st, fun v z => by
      have z' : Data.fields _ = Data.cell v := z
      cases z'⟩
  keep := fun i h h' st k => k it (by simp) _ st
  item := by
    intro X hP hw hK hc i pins s σ H E I hf st hg
    subst hP hw hK
    obtain ⟨f0, f1, f2, f3, f4, f5⟩ := hf it (by simp)
    have W := Walks.range (prog := X.prog) (w := X.w) (I.ok.hd hc) it lo 1 n
    refine W.item i s _ _ hg st fun v h' tk hv st' kk => ?_
    obtain ⟨t, rfl⟩ := hv
    have I1 : Inv X pins σ H { s with heap := h', toks := tk } := I.turned (fun b o hb e => kk b o (by simpa using hb) e) f0 f1 f3 f4 f5
    refine ⟨_, rfl, go_of (s := { s with heap := h', toks := tk }) (n := "range_iterator") st' rfl rfl (by decide) ⟨.int (lo + i), H, I1, ⟨t, ?_⟩, ⟨rfl, rfl⟩, st', fun b hb => (hf b hb).1⟩⟩
    rw [Int.mul_one]
  done := by
    intro X hP hw hK hc i pins s σ H E I hf st hg
    subst hP hw hK
    obtain ⟨f0, f1, f2, f3, f4, f5⟩ := hf it (by simp)
    exact wpAny_pyNext_range_end (I.ok.hd hc) st (by have : n ≤ i := hg; omega) fun h' eb => ⟨rfl, I.turned (t' := s.toks) (fun b o hb e => eb b o hb e) f0 f1 f3 f4 f5⟩
  self := fun _ _ _ _ _ st h => wpAny_pyIter_rangeiter st h
end L2
namespace L2
open PySem PySem.Spec PyProof.Rows
section
variable {X : Cx} {tg : Expr}
def iList (K : PySem.W.Frag) (tl : TE) : TI := fun σ H R => tl σ H fun x H1 => ∃ a, x = .ref a ∧ (∃ xs, SqL K H1 a xs) ∧ R (Itl K a) H1
def iTup (K : PySem.W.Frag) (tl : TE) : TI := fun σ H R => tl σ H fun x H1 => ∃ a, x = .ref a ∧ (∃ xs, SqT K H1 a xs) ∧ R (Itt K a) H1
theorem pi_list {l : Expr} {tl : TE} (hl : PE X l tl) : PI X tg l (iList X.K tl) := by
  intro pins s σ H R I h
  refine thn (hl pins s σ H _ I h) fun v s1 ⟨x, H1, I1, r1, q1⟩ => ?_
  obtain ⟨a, e, ⟨xs, hq⟩, q⟩ := q1
  subst e
  cases r1
  obtain ⟨its, rv, p, hz⟩ := I1.list hq
  refine wpAny_pyIter_list p.isList ?_
  refine ⟨s1.heap.objs.size, [s1.heap.objs.size], _, _, H1, rfl, I1.kept (t' := s1.toks) fun b o e => Heap.get?_push_of_some _ e, turn_list a _, ⟨_, Heap.get?_push_size _ rfl, rfl, rfl⟩, fun b hb => ?_, q⟩
  have e : b = s1.heap.objs.size := by simpa using hb
  subst e
  exact I1.fpOk (Nat.le_refl _) (I1.hok.fresh (Nat.le_refl _))
theorem pi_tup {l : Expr} {tl : TE} (hl : PE X l tl) : PI X tg l (iTup X.K tl) := by
  intro pins s σ H R I h
  refine thn (hl pins s σ H _ I h) fun v s1 ⟨x, H1, I1, r1, q1⟩ => ?_
  obtain ⟨a, e, ⟨xs, hq⟩, q⟩ := q1
  subst e
  cases r1
  obtain ⟨its, rv, p, hz⟩ := I1.tuple hq
  refine wpAny_pyIter_tuple (show s1.heap.IsTuple a its.toArray from p) ?_
  refine ⟨s1.heap.objs.size, [s1.heap.objs.size], _, _, H1, rfl, I1.kept (t' := s1.toks) fun b o e => Heap.get?_push_of_some _ e, turn_tuple a _, ⟨_, Heap.get?_push_size _ rfl, rfl, rfl⟩, fun b hb => ?_, q⟩
  have e : b = s1.heap.objs.size := by simpa using hb
  subst e
  exact I1.fpOk (Nat.le_refl _) (I1.hok.fresh (Nat.le_refl _))
theorem range_it {pins : List (Addr × Obj)} {σ : St} {H : Hp} {s : Shared} {R : It → Hp → Prop} {E : Value → Shared → Prop} {lo hi : Int} {t u v : Tok} {tk : Nat} (I : Inv X pins σ H s) (h1 : -(2 ^ 62) ≤ lo) (h2 : lo < 2 ^ 62) (h3 : -(2 ^ 62) ≤ hi) (h4 : hi < 2 ^ 62)
    (q : R (Itr lo (hi - lo).toNat) H) : wpAny (model X.prog X.w) X.A (pyIter (.ref s.heap.objs.size)) (PIE X pins σ tg R) E { s with heap := s.heap.push { cls := .type "range", data := .fields #[.int lo t, .int hi u, .int 1 v] }, toks := tk } := by
  refine wpAny_pyIter_range (IsRange.new ..) (small_one h1 h2 h3 h4) ?_
  have I1 : Inv X pins σ H { s with heap := s.heap.push { cls := .type "range", data := .fields #[.int lo t, .int hi u, .int 1 v] }, toks := tk } := I.kept fun b o e => Heap.get?_push_of_some _ e
  refine ⟨(s.heap.push { cls := .type "range", data := .fields #[.int lo t, .int hi u, .int 1 v] }).objs.size, [(s.heap.push { cls := .type "range", data := .fields #[.int lo t, .int hi u, .int 1 v] }).objs.size], _, _, H, rfl,
    I1.kept (t' := tk) fun b o e => Heap.get?_push_of_some _ e, turn_range _ lo (hi - lo).toNat, ?_, fun b hb => ?_, q⟩
  · have e1 : lo + ((0 : Nat) : Int) * 1 = lo := by simp
    have e2 : (((hi - lo).toNat : Nat) : Int) - ((0 : Nat) : Int) = Builtin.Range.rangeSize lo hi 1 := by rw [rangeSize_one]; split <;> omega
    show IsRangeIter _ _ (lo + ((0 : Nat) : Int) * 1) ((((hi - lo).toNat : Nat) : Int) - ((0 : Nat) : Int)) 1
    rw [e1, e2]
    exact Heap.get?_push_size _ rfl
  · have e : b = (s.heap.push { cls := .type "range", data := .fields #[.int lo t, .int hi u, .int 1 v] }).objs.size := by simpa using hb
    subst e
    exact I1.fpOk (Nat.le_refl _) (I1.hok.fresh (Nat.le_refl _))
def iRng1 (ta : TA) : TI := fun σ H R => ta σ H fun vs H1 => ∃ j : Int, vs = [.int j] ∧ -(2 ^ 62) ≤ j ∧ j < 2 ^ 62 ∧ R (Itr 0 j.toNat) H1
theorem pi_range1 {a : Expr} {ta : TA} {p pos : Pos} (hg : Gl X "range") (hm : X.mg "range" = none) (ha : PA X [a] ta) (hs : starEach [a] X.env = [(false, eval a X.env)] := by rfl) : PI X tg (.Call (.Name "range" p) [a] [] pos) (iRng1 ta) := by
  intro pins s σ H R I h
  refine Call_ (ld_blt I hg hm boot_range (PyProof.Rows.callWith_type1 (thn (ha pos pins s σ H _ I h) fun us s1 ⟨vs, H1, I1, r1, q1⟩ => ?_) hs rfl))
  obtain ⟨j, e, q1, q2, q⟩ := q1
  subst e
  cases r1 with
  | cons r rr =>
    cases rr
    obtain ⟨t, rfl⟩ := r
    exact call_range_1 (range_it I1 (by omega) (by omega) q1 q2 (by simpa using q))
def tFor (wi : TI) (g : TG) (tb : TS) : TS := fun D σ H => wi σ H fun J H1 => ∃ W : Nat → Nat → St → Hp → Prop, (∃ m, W 0 m σ H1) ∧ ∀ i m σ H, W i m σ H →
  (J.stop i H ∧ D.nx σ H) ∨ (J.go i H ∧ ∃ N : St → Hp → Prop, (∀ σ' H', N σ' H' → ∃ m', m' < m ∧ W (i + 1) m' σ' H') ∧ ∀ x H', J.yld i H x H' → g x σ H' fun σ2 H2 => tb { D with nx := N, ct := N, bk := D.nx } σ2 H2)
def pinsAt (fp : List Addr) (h : Heap) : List (Addr × Obj) := fp.filterMap fun b => (h.get? b).map fun o => (b, o)
theorem mem_pinsAt {fp : List Addr} {h : Heap} {b : Addr} {o : Obj} (hb : b ∈ fp) (e : h.get? b = some o) : (b, o) ∈ pinsAt fp h := List.mem_filterMap.mpr ⟨b, hb, by rw [e]; rfl⟩
theorem of_pinsAt {fp : List Addr} {h : Heap} {p : Addr × Obj} (hp : p ∈ pinsAt fp h) : p.1 ∈ fp ∧ h.get? p.1 = some p.2 := by
  obtain ⟨b, hb, e⟩ := List.mem_filterMap.mp hp
  cases q : h.get? b with
  | none => rw [q] at e; cases e
  | some o =>
    rw [q] at e
    have e' : (b, o) = p := Option.some.inj e
    subst e'
    exact ⟨hb, q⟩
theorem Inv.pinned {pins : List (Addr × Obj)} {σ : St} {H : Hp} {s : Shared} {fp : List Addr} (I : Inv X pins σ H s) (hf : ∀ b ∈ fp, FpOk X pins H b) (ho : ∀ b ∈ fp, ∃ o, s.heap.get? b = some o ∧ ∀ v, o.data ≠ .cell v) : Inv X (pins ++ pinsAt fp s.heap) σ H s :=
  I.pins_of fun p hp => (List.mem_append.mp hp).elim (fun z => I.pin p (List.mem_append_right _ z)) fun z => by
    obtain ⟨hb, e⟩ := of_pinsAt z
    obtain ⟨f0, f1, f2, _⟩ := hf p.1 hb
    obtain ⟨o, e', d⟩ := ho p.1 hb
    rw [e] at e'; cases e'
    exact ⟨e, f0, f1, f2, d⟩
theorem Inv.unpinned {pins pl : List (Addr × Obj)} {σ : St} {H : Hp} {s : Shared} (I : Inv X (pins ++ pl) σ H s) : Inv X pins σ H s := I.pins_of fun p hp => I.pin p (List.mem_append_right _ (List.mem_append_left _ hp))
theorem ps_for {iter : Expr} {body : List Stmt} {wi : TI} {g : TG} {tb : TS} {pos : Pos} (hp : PassesOwn (model X.prog X.w) X.A X.env X.xe) (hc : X.calm = true) (hi : PI X tg iter wi) (hg : PG X tg g) (hb : PSs X body tb)
    (hs : ∀ x, foldedSetIterable iter X.env x = pure x := by intro _; rfl) : PS X (.For tg iter body [] pos) (tFor wi g tb) := by
  intro pins s σ H D I h
  refine wpAny_For (thn (hi pins s σ H _ I h) fun v s1 h1 => thn h1 fun itv s2 h2 => ?_) hs
  obtain ⟨it, fp, tn, J, H2, e, I2, T, st2, f2, W, ⟨m0, w0⟩, turn⟩ := h2
  subst e
  have stat : ∀ {H' : Hp}, (∀ b ∈ fp, H' b = none) → ∀ b ∈ fp, FpOk X pins H' b := fun hn b hb => ⟨hn b hb, (f2 b hb).2⟩
  refine codeAny_forLoop_any (fun n s' => ∃ i σ' H', Inv X pins σ' H' s' ∧ tn i s'.heap ∧ (∀ b ∈ fp, H' b = none) ∧ W i n σ' H') ?_ m0 ⟨0, σ, H2, I2, st2, fun b hb => (f2 b hb).1, w0⟩
  rintro n s3 ⟨i, σ3, H3, I3, st3, fr3, w3⟩
  rcases turn i n σ3 H3 w3 with ⟨stop, qn⟩ | ⟨go, N, hN, step⟩
  · refine wpAny_passesOwn hp (thn (T.done X rfl rfl rfl hc i pins s3 σ3 H3 X.xe I3 (stat fr3) st3 stop) fun r s4 ⟨hr, I4⟩ => ?_)
    subst hr
    exact wpAny_execs_nil ⟨σ3, H3, I4, qn⟩
  · refine wpAny_passesOwn hp (thn (T.item X rfl rfl rfl hc i pins s3 σ3 H3 X.xe I3 (stat fr3) st3 go) fun r s4 ⟨u, hr, h4⟩ => ?_)
    subst hr
    refine wpAny_passesOwn hp (thn h4 fun _ s5 ⟨x, H5, I5, r5, y5, st5, fr5⟩ => ?_)
    have I5' := I5.pinned (stat fr5) (T.obj _ _ st5)
    refine wpAny_passesOwn hp (thn (hg _ s5 σ3 H5 x u _ I5' r5 (step x H5 y5)) fun _ s6 ⟨σ6, H6, I6, q6⟩ => ?_)
    refine wpAny_passesOwn hp (thn (hb _ s6 σ6 H6 _ I6 q6) fun f s7 q7 => ?_)
    have again : ∀ {σ7 : St} {H7 : Hp}, Inv X (pins ++ pinsAt fp s5.heap) σ7 H7 s7 → N σ7 H7 → ∃ m, m < n ∧ ∃ i σ' H', Inv X pins σ' H' s7 ∧ tn i s7.heap ∧ (∀ b ∈ fp, H' b = none) ∧ W i m σ' H' := fun {σ7 H7} I7 n7 => by
      obtain ⟨m', hm, w7⟩ := hN σ7 H7 n7
      refine ⟨m', hm, i + 1, σ7, H7, I7.unpinned, T.keep _ _ _ st5 fun b hb o e => (I7.pin (b, o) (List.mem_append_right _ (List.mem_append_right _ (mem_pinsAt hb e)))).1, fun b hb => ?_, w7⟩
      obtain ⟨o, e, d⟩ := T.obj _ _ st5 b hb
      exact (I7.pin (b, o) (List.mem_append_right _ (List.mem_append_right _ (mem_pinsAt hb e)))).2.1
    cases f with
    | next => obtain ⟨σ7, H7, I7, n7⟩ := q7; exact again I7 n7
    | cont => obtain ⟨σ7, H7, I7, n7⟩ := q7; exact again I7 n7
    | brk => obtain ⟨σ7, H7, I7, q7⟩ := q7; exact ⟨σ7, H7, I7.unpinned, q7⟩
    | ret v => obtain ⟨x7, σ7, H7, I7, r7, q7⟩ := q7; exact ⟨x7, σ7, H7, I7.unpinned, r7, q7⟩
end
theorem for_list {K : PySem.W.Frag} {a : Addr} {xs : List V} {g : TG} {tb : TS} {D : Ends} {σ : St} {H : Hp} (Pv : Nat → St → Hp → Prop) (h0 : Pv 0 σ H) (hl : ∀ i σ H, i ≤ xs.length → Pv i σ H → SqL K H a xs)
    (hs : ∀ i x σ H, xs[i]? = some x → Pv i σ H → g x σ H fun σ2 H2 => tb { D with nx := Pv (i + 1), ct := Pv (i + 1), bk := D.nx } σ2 H2) (hd : ∀ σ H, Pv xs.length σ H → D.nx σ H) :
    ∃ W : Nat → Nat → St → Hp → Prop, (∃ m, W 0 m σ H) ∧ ∀ i m σ H, W i m σ H →
      ((Itl K a).stop i H ∧ D.nx σ H) ∨ ((Itl K a).go i H ∧ ∃ N : St → Hp → Prop, (∀ σ' H', N σ' H' → ∃ m', m' < m ∧ W (i + 1) m' σ' H') ∧ ∀ x H', (Itl K a).yld i H x H' → g x σ H' fun σ2 H2 => tb { D with nx := N, ct := N, bk := D.nx } σ2 H2) := by
  refine ⟨fun i m σ H => m = xs.length - i ∧ i ≤ xs.length ∧ Pv i σ H, ⟨xs.length, by simp, Nat.zero_le _, h0⟩, ?_⟩
  rintro i m σ H ⟨rfl, hi, p⟩
  have q := hl i σ H hi p
  by_cases hlt : i < xs.length
  · refine .inr ⟨⟨xs, xs[i], q, by simp [hlt]⟩, Pv (i + 1), fun σ' H' p' => ⟨xs.length - (i + 1), by omega, rfl, hlt, p'⟩, fun x H' y => ?_⟩
    obtain ⟨e, y⟩ := y
    subst e
    exact hs i x σ _ (y xs q) p
  · have e : i = xs.length := by omega
    subst e
    exact .inl ⟨⟨xs, q, Nat.le_refl _⟩, hd σ H p⟩
theorem for_tup {K : PySem.W.Frag} {a : Addr} {xs : List V} {g : TG} {tb : TS} {D : Ends} {σ : St} {H : Hp} (Pv : Nat → St → Hp → Prop) (h0 : Pv 0 σ H) (hl : ∀ i σ H, i ≤ xs.length → Pv i σ H → SqT K H a xs)
    (hs : ∀ i x σ H, xs[i]? = some x → Pv i σ H → g x σ H fun σ2 H2 => tb { D with nx := Pv (i + 1), ct := Pv (i + 1), bk := D.nx } σ2 H2) (hd : ∀ σ H, Pv xs.length σ H → D.nx σ H) :
    ∃ W : Nat → Nat → St → Hp → Prop, (∃ m, W 0 m σ H) ∧ ∀ i m σ H, W i m σ H →
      ((Itt K a).stop i H ∧ D.nx σ H) ∨ ((Itt K a).go i H ∧ ∃ N : St → Hp → Prop, (∀ σ' H', N σ' H' → ∃ m', m' < m ∧ W (i + 1) m' σ' H') ∧ ∀ x H', (Itt K a).yld i H x H' → g x σ H' fun σ2 H2 => tb { D with nx := N, ct := N, bk := D.nx } σ2 H2) := by
  refine ⟨fun i m σ H => m = xs.length - i ∧ i ≤ xs.length ∧ Pv i σ H, ⟨xs.length, by simp, Nat.zero_le _, h0⟩, ?_⟩
  rintro i m σ H ⟨rfl, hi, p⟩
  have q := hl i σ H hi p
  by_cases hlt : i < xs.length
  · refine .inr ⟨⟨xs, xs[i], q, by simp [hlt]⟩, Pv (i + 1), fun σ' H' p' => ⟨xs.length - (i + 1), by omega, rfl, hlt, p'⟩, fun x H' y => ?_⟩
    obtain ⟨e, y⟩ := y
    subst e
    exact hs i x σ _ (y xs q) p
  · have e : i = xs.length := by omega
    subst e
    exact .inl ⟨⟨xs, q, Nat.le_refl _⟩, hd σ H p⟩
theorem for_range {lo : Int} {n : Nat} {g : TG} {tb : TS} {D : Ends} {σ : St} {H : Hp} (Pv : Nat → St → Hp → Prop) (h0 : Pv 0 σ H)
    (hs : ∀ i σ H, i < n → Pv i σ H → g (.int (lo + i)) σ H fun σ2 H2 => tb { D with nx := Pv (i + 1), ct := Pv (i + 1), bk := D.nx } σ2 H2) (hd : ∀ σ H, Pv n σ H → D.nx σ H) :
    ∃ W : Nat → Nat → St → Hp → Prop, (∃ m, W 0 m σ H) ∧ ∀ i m σ H, W i m σ H →
      ((Itr lo n).stop i H ∧ D.nx σ H) ∨ ((Itr lo n).go i H ∧ ∃ N : St → Hp → Prop, (∀ σ' H', N σ' H' → ∃ m', m' < m ∧ W (i + 1) m' σ' H') ∧ ∀ x H', (Itr lo n).yld i H x H' → g x σ H' fun σ2 H2 => tb { D with nx := N, ct := N, bk := D.nx } σ2 H2) := by
  refine ⟨fun i m σ H => m = n - i ∧ i ≤ n ∧ Pv i σ H, ⟨n, by simp, Nat.zero_le _, h0⟩, ?_⟩
  rintro i m σ H ⟨rfl, hi, p⟩
  by_cases hlt : i < n
  · refine .inr ⟨hlt, Pv (i + 1), fun σ' H' p' => ⟨n - (i + 1), by omega, rfl, hlt, p'⟩, fun x H' y => ?_⟩
    obtain ⟨e, y⟩ := y
    subst e y
    exact hs i σ _ hlt p
  · have e : i = n := by omega
    subst e
    exact .inl ⟨Nat.le_refl _, hd σ H p⟩
end L2
namespace L2
open PySem PySem.Spec PyProof.Rows
abbrev R2 := V → V → Hp → VK → Prop
def OpR (X : Cx) (f : Value → Value → Sem Value) (r : R2) : Prop :=
  ∀ (pins : List (Addr × Obj)) (s : Shared) (σ : St) (H : Hp) (x y : V) (v u : Value) (Q : VK), Inv X pins σ H s → RelV x v → RelV y u → r x y H Q →
    wpAny (model X.prog X.w) X.A (f v u) (EP X pins σ Q) X.xe s
def UnR (X : Cx) (f : Value → Sem Value) (r : V → Hp → VK → Prop) : Prop :=
  ∀ (pins : List (Addr × Obj)) (s : Shared) (σ : St) (H : Hp) (x : V) (v : Value) (Q : VK), Inv X pins σ H s → RelV x v → r x H Q →
    wpAny (model X.prog X.w) X.A (f v) (EP X pins σ Q) X.xe s
def CallR (X : Cx) (f : Value) (r : List V → Hp → VK → Prop) : Prop :=
  ∀ (pins : List (Addr × Obj)) (s : Shared) (σ : St) (H : Hp) (xs : List V) (us : List Value) (Q : VK), Inv X pins σ H s → Vals xs us → r xs H Q →
    wpAny (model X.prog X.w) X.A (call f us) (EP X pins σ Q) X.xe s
def TruR (X : Cx) (r : V → Hp → (Bool → Hp → Prop) → Prop) : Prop :=
  ∀ (pins : List (Addr × Obj)) (s : Shared) (σ : St) (H : Hp) (x : V) (v : Value) (Q : Bool → Hp → Prop), Inv X pins σ H s → RelV x v → r x H Q →
    wpAny (model X.prog X.w) X.A (truthy v) (TP X pins σ Q) X.xe s
def tOp (r : R2) (ta tb : TE) : TE := fun σ H Q => ta σ H fun x H1 => tb σ H1 fun y H2 => r x y H2 Q
def tUn (r : V → Hp → VK → Prop) (ta : TE) : TE := fun σ H Q => ta σ H fun x H1 => r x H1 Q
def rI (C : Int → Int → Prop) (g : Int → Int → V) : R2 := fun x y H Q => ∃ i j, x = .int i ∧ y = .int j ∧ C i j ∧ Q (g i j) H
def rI0 (g : Int → Int → V) : R2 := fun x y H Q => ∃ i j, x = .int i ∧ y = .int j ∧ Q (g i j) H
def rU (g : Int → V) : V → Hp → VK → Prop := fun x H Q => ∃ i, x = .int i ∧ Q (g i) H
section
variable {X : Cx} {a b c : Expr} {ta tb tc : TE} {pos : Pos}
theorem binT (ha : PE X a ta) (hb : PE X b tb) {pins : List (Addr × Obj)} {s : Shared} {σ : St} {H : Hp} {R : V → V → Hp → Prop} (I : Inv X pins σ H s)
    (h : ta σ H fun x H1 => tb σ H1 fun y H2 => R x y H2) {Q : Value → Shared → Prop} {f : Value → Value → Sem Value}
    (hf : ∀ v u s2 x y H2, Inv X pins σ H2 s2 → RelV x v → RelV y u → R x y H2 → wpAny (model X.prog X.w) X.A (f v u) Q X.xe s2) :
    wpAny (model X.prog X.w) X.A (eval a X.env) (fun v s₁ => wpAny (model X.prog X.w) X.A (eval b X.env) (fun u s₂ => wpAny (model X.prog X.w) X.A (f v u) Q X.xe s₂) X.xe s₁) X.xe s := by
  refine thn (ha pins s σ H _ I h) fun v s1 ⟨x, H1, I1, r1, q1⟩ => ?_
  refine thn (hb pins s1 σ H1 _ I1 q1) fun u s2 ⟨y, H2, I2, r2, q2⟩ => ?_
  exact hf v u s2 x y H2 I2 r1 r2 q2
theorem pe_op {op : Operator} {r : R2} (ho : OpR X (binaryOp op) r) (ha : PE X a ta) (hb : PE X b tb) : PE X (.BinOp a op b pos) (tOp r ta tb) := by
  intro pins s σ H Q I h
  exact wpAny_BinOp (binT ha hb I h fun v u s2 x y H2 I2 rx ry q => ho pins s2 σ H2 x y v u Q I2 rx ry q)
theorem pe_un {op : UnaryOp} {r : V → Hp → VK → Prop} (ho : UnR X (unaryOp op) r) (ha : PE X a ta) : PE X (.UnaryOp op a pos) (tUn r ta) := by
  intro pins s σ H Q I h
  exact UnaryOp_ (thn (ha pins s σ H _ I h) fun v s1 ⟨x, H1, I1, r1, q1⟩ => ho pins s1 σ H1 x v Q I1 r1 q1)
theorem opI {f : Value → Value → Sem Value} {C : Int → Int → Prop} {g : Int → Int → Int}
    (rule : ∀ (i j : Int) (t u : Tok) (s : Shared) (Q : Value → Shared → Prop) (E : Value → Shared → Prop), C i j → Q (.int (g i j) s.toks) { s with toks := s.toks + 1 } → wpAny (model X.prog X.w) X.A (f (.int i t) (.int j u)) Q E s) :
    OpR X f (rI C fun i j => .int (g i j)) := by
  intro pins s σ H x y v u Q I rx ry h
  obtain ⟨i, j, rfl, rfl, hc, q⟩ := h
  obtain ⟨t, rfl⟩ := rx
  obtain ⟨t', rfl⟩ := ry
  exact rule i j t t' s _ _ hc ⟨.int (g i j), H, I.tok _, ⟨_, rfl⟩, q⟩
theorem opI0 {f : Value → Value → Sem Value} {g : Int → Int → Int}
    (rule : ∀ (i j : Int) (t u : Tok) (s : Shared) (Q : Value → Shared → Prop) (E : Value → Shared → Prop), Q (.int (g i j) s.toks) { s with toks := s.toks + 1 } → wpAny (model X.prog X.w) X.A (f (.int i t) (.int j u)) Q E s) :
    OpR X f (rI0 fun i j => .int (g i j)) := by
  intro pins s σ H x y v u Q I rx ry h
  obtain ⟨i, j, rfl, rfl, q⟩ := h
  obtain ⟨t, rfl⟩ := rx
  obtain ⟨t', rfl⟩ := ry
  exact rule i j t t' s _ _ ⟨.int (g i j), H, I.tok _, ⟨_, rfl⟩, q⟩
theorem opB0 {f : Value → Value → Sem Value} {g : Int → Int → Bool}
    (rule : ∀ (i j : Int) (t u : Tok) (s : Shared) (Q : Value → Shared → Prop) (E : Value → Shared → Prop), Q (.bool (g i j)) s → wpAny (model X.prog X.w) X.A (f (.int i t) (.int j u)) Q E s) :
    OpR X f (rI0 fun i j => .bl (g i j)) := by
  intro pins s σ H x y v u Q I rx ry h
  obtain ⟨i, j, rfl, rfl, q⟩ := h
  obtain ⟨t, rfl⟩ := rx
  obtain ⟨t', rfl⟩ := ry
  exact rule i j t t' s _ _ ⟨.bl (g i j), H, I, rfl, q⟩
def CDiv (i j : Int) : Prop := 0 < j ∧ j < 1073741824
def CPow (i j : Int) : Prop := 0 ≤ j ∧ j ≤ 1000000 ∧ i.natAbs < 2 ^ 64
def CMul (i j : Int) : Prop := (-(2 ^ 64) < i ∧ i < 2 ^ 64) ∨ (-(2 ^ 64) < j ∧ j < 2 ^ 64)
theorem CMul.ok {i j : Int} (h : CMul i j) : IntMulOk i j := by
  rcases h with ⟨h1, h2⟩ | ⟨h1, h2⟩
  · exact .of_left (intBits_le_64 h1 h2)
  · exact .of_right (intBits_le_64 h1 h2)
theorem op_add : OpR X (binaryOp .Add) (rI0 fun i j => .int (i + j)) := opI0 fun _ _ _ _ _ _ _ q => add_int q
theorem op_sub : OpR X (binaryOp .Sub) (rI0 fun i j => .int (i - j)) := opI0 fun _ _ _ _ _ _ _ q => sub_int q
theorem op_mul : OpR X (binaryOp .Mult) (rI CMul fun i j => .int (i * j)) := opI fun _ _ _ _ _ _ _ hc q => mul_int q hc.ok
theorem op_fdiv : OpR X (binaryOp .FloorDiv) (rI CDiv fun i j => .int (i / j)) := opI fun i j _ _ _ _ _ hc q => by
  have h1 : (0 : Int) < j := hc.1
  have h2 : j < 1073741824 := hc.2
  exact floordiv_int (by omega) (by rw [Int.fdiv_eq_ediv_of_nonneg i (by omega)]; exact q) (.inl (PyProof.noPylong_small (by omega)))
theorem op_mod : OpR X (binaryOp .Mod) (rI (fun _ j => 0 < j) fun i j => .int (i % j)) := opI fun i j _ _ _ _ _ hc q => by
  have h1 : (0 : Int) < j := hc
  exact mod_int' (by omega) (by rw [Int.fmod_eq_emod_of_nonneg i (by omega)]; exact q)
theorem op_pow : OpR X (binaryOp .Pow) (rI CPow fun i j => .int (i ^ j.toNat)) := opI fun _ _ _ _ _ _ _ hc q => pow_int_small hc.1 hc.2.1 hc.2.2 q
theorem unI {f : Value → Sem Value} {g : Int → Int}
    (rule : ∀ (i : Int) (t : Tok) (s : Shared) (Q : Value → Shared → Prop) (E : Value → Shared → Prop), Q (.int (g i) s.toks) { s with toks := s.toks + 1 } → wpAny (model X.prog X.w) X.A (f (.int i t)) Q E s) :
    UnR X f (rU fun i => .int (g i)) := by
  intro pins s σ H x v Q I rx h
  obtain ⟨i, rfl, q⟩ := h
  obtain ⟨t, rfl⟩ := rx
  exact rule i t s _ _ ⟨.int (g i), H, I.tok _, ⟨_, rfl⟩, q⟩
theorem un_neg : UnR X (unaryOp .USub) (rU fun i => .int (-i)) := unI fun _ _ _ _ _ q => neg_int q
end
def scal : V → V → Bool
  | .non, .non => true | .non, .int _ => true | .int _, .non => true | .non, .bl _ => true | .bl _, .non => true | .non, .str _ => true | .str _, .non => true
  | .int _, .int _ => true | .bl _, .bl _ => true | .str _, .str _ => true | .byt _, .byt _ => true
  | .int _, .str _ => true | .str _, .int _ => true | .bl _, .str _ => true | .str _, .bl _ => true
  | _, _ => false
def rEq : R2 := fun x y H Q => scal x y = true ∧ Q (.bl (decide (x = y))) H
def rNe : R2 := fun x y H Q => scal x y = true ∧ Q (.bl (!decide (x = y))) H
theorem dec_int {i j : Int} : decide (V.int i = V.int j) = (i == j) := by
  rw [Bool.eq_iff_iff]
  simp
theorem dec_bl {i j : Bool} : decide (V.bl i = V.bl j) = (i == j) := by
  rw [Bool.eq_iff_iff]
  simp
theorem dec_str {i j : Str} : decide (V.str i = V.str j) = (i == j) := by
  rw [Bool.eq_iff_iff]
  simp
theorem dec_byt {i j : Array UInt8} : decide (V.byt i = V.byt j) = (i.toList == j.toList) := by
  rw [Bool.eq_iff_iff]
  cases i
  cases j
  simp
section
variable {X : Cx} {a b c : Expr} {ta tb tc : TE} {pos : Pos}
theorem fin_bl {pins : List (Addr × Obj)} {σ : St} {H : Hp} {s : Shared} {Q : VK} {k k' : Bool} (I : Inv X pins σ H s) (q : Q (.bl k) H) (e : k = k') : EP X pins σ Q (.bool k') s := by
  subst e
  exact ⟨.bl k, H, I, rfl, q⟩
theorem op_eq : OpR X (compareOp .Eq) rEq := by
  intro pins s σ H x y v u Q I rx ry h
  obtain ⟨hs, q⟩ := h
  cases x with
  | non =>
    cases rx
    cases y with
    | non => cases ry; exact PySem.EqNone.eq_none_none (fin_bl I q (by simp))
    | bl j => cases ry; exact PySem.EqNone.eq_none_bool (fin_bl I q (by simp))
    | int j => obtain ⟨t', rfl⟩ := ry; exact PySem.EqNone.eq_none_int (fin_bl I q (by simp))
    | str j => obtain ⟨t', rfl⟩ := ry; exact PySem.EqNone.eq_none_str (fin_bl I q (by simp))
    | _ => exact absurd (show false = true from hs) Bool.false_ne_true
  | bl i =>
    cases rx
    cases y with
    | non => cases ry; exact PySem.EqNone.eq_bool_none (fin_bl I q (by simp))
    | bl j => cases ry; exact eq_bool (fin_bl I q dec_bl)
    | str j => obtain ⟨t', rfl⟩ := ry; exact PySem.EqMixed.eq_bool_str (fin_bl I q (by simp))
    | _ => exact absurd (show false = true from hs) Bool.false_ne_true
  | int i =>
    obtain ⟨t, rfl⟩ := rx
    cases y with
    | non => cases ry; exact PySem.EqNone.eq_int_none (fin_bl I q (by simp))
    | int j => obtain ⟨t', rfl⟩ := ry; exact eq_int (fin_bl I q dec_int)
    | str j => obtain ⟨t', rfl⟩ := ry; exact PySem.EqMixed.eq_int_str (fin_bl I q (by simp))
    | _ => exact absurd (show false = true from hs) Bool.false_ne_true
  | str i =>
    obtain ⟨t, rfl⟩ := rx
    cases y with
    | non => cases ry; exact PySem.EqNone.eq_str_none (fin_bl I q (by simp))
    | bl j => cases ry; exact PySem.EqMixed.eq_str_bool (fin_bl I q (by simp))
    | int j => obtain ⟨t', rfl⟩ := ry; exact PySem.EqMixed.eq_str_int (fin_bl I q (by simp))
    | str j => obtain ⟨t', rfl⟩ := ry; exact eq_str (fin_bl I q dec_str)
    | _ => exact absurd (show false = true from hs) Bool.false_ne_true
  | byt i =>
    obtain ⟨t, rfl⟩ := rx
    cases y with
    | byt j => obtain ⟨t', rfl⟩ := ry; exact PySem.W.eq_bytes (fin_bl I q dec_byt)
    | _ => exact absurd (show false = true from hs) Bool.false_ne_true
  | _ => cases y <;> exact absurd (show false = true from hs) Bool.false_ne_true
theorem op_ne : OpR X (compareOp .NotEq) rNe := by
  intro pins s σ H x y v u Q I rx ry h
  obtain ⟨hs, q⟩ := h
  cases x with
  | non =>
    cases rx
    cases y with
    | non => cases ry; exact PySem.EqNone.ne_none_none (fin_bl I q (by simp))
    | bl j => cases ry; exact PySem.EqNone.ne_none_bool (fin_bl I q (by simp))
    | int j => obtain ⟨t', rfl⟩ := ry; exact PySem.EqNone.ne_none_int (fin_bl I q (by simp))
    | str j => obtain ⟨t', rfl⟩ := ry; exact PySem.EqNone.ne_none_str (fin_bl I q (by simp))
    | _ => exact absurd (show false = true from hs) Bool.false_ne_true
  | bl i =>
    cases rx
    cases y with
    | non => cases ry; exact PySem.EqNone.ne_bool_none (fin_bl I q (by simp))
    | bl j => cases ry; exact ne_bool (fin_bl I q (congrArg not dec_bl))
    | str j => obtain ⟨t', rfl⟩ := ry; exact PySem.EqMixed.ne_bool_str (fin_bl I q (by simp))
    | _ => exact absurd (show false = true from hs) Bool.false_ne_true
  | int i =>
    obtain ⟨t, rfl⟩ := rx
    cases y with
    | non => cases ry; exact PySem.EqNone.ne_int_none (fin_bl I q (by simp))
    | int j => obtain ⟨t', rfl⟩ := ry; exact ne_int (fin_bl I q (congrArg not dec_int))
    | str j => obtain ⟨t', rfl⟩ := ry; exact PySem.EqMixed.ne_int_str (fin_bl I q (by simp))
    | _ => exact absurd (show false = true from hs) Bool.false_ne_true
  | str i =>
    obtain ⟨t, rfl⟩ := rx
    cases y with
    | non => cases ry; exact PySem.EqNone.ne_str_none (fin_bl I q (by simp))
    | bl j => cases ry; exact PySem.EqMixed.ne_str_bool (fin_bl I q (by simp))
    | int j => obtain ⟨t', rfl⟩ := ry; exact PySem.EqMixed.ne_str_int (fin_bl I q (by simp))
    | str j => obtain ⟨t', rfl⟩ := ry; exact ne_str (fin_bl I q (congrArg not dec_str))
    | _ => exact absurd (show false = true from hs) Bool.false_ne_true
  | byt i =>
    obtain ⟨t, rfl⟩ := rx
    cases y with
    | byt j => obtain ⟨t', rfl⟩ := ry; exact PySem.W.ne_bytes (fin_bl I q (congrArg not dec_byt))
    | _ => exact absurd (show false = true from hs) Bool.false_ne_true
  | _ => cases y <;> exact absurd (show false = true from hs) Bool.false_ne_true
theorem op_lt : OpR X (compareOp .Lt) (rI0 fun i j => .bl (decide (i < j))) := opB0 fun _ _ _ _ _ _ _ q => lt_int q
theorem op_le : OpR X (compareOp .LtE) (rI0 fun i j => .bl (decide (i ≤ j))) := opB0 fun _ _ _ _ _ _ _ q => le_int q
theorem op_gt : OpR X (compareOp .Gt) (rI0 fun i j => .bl (decide (j < i))) := opB0 fun _ _ _ _ _ _ _ q => gt_int q
theorem op_in_str : OpR X (compareOp .In) (fun x y H Q => ∃ i j, x = .str i ∧ y = .str j ∧ Q (.bl (!(Builtin.Str.occurrences j i 0 j.length 1).isEmpty)) H) := by
  intro pins s σ H x y v u Q I rx ry h
  obtain ⟨i, j, rfl, rfl, q⟩ := h
  obtain ⟨t, rfl⟩ := rx
  obtain ⟨t', rfl⟩ := ry
  exact in_str (fin_bl I q rfl)
theorem nomark (b : Expr) {op : CmpOp} (h : op ≠ .In := by decide) (h2 : op ≠ .NotIn := by decide) : behindInMarks op b = false := by
  have e1 : (op == CmpOp.In) = false := by cases op <;> first | rfl | exact absurd rfl h
  have e2 : (op == CmpOp.NotIn) = false := by cases op <;> first | rfl | exact absurd rfl h2
  cases b <;> simp [behindInMarks, e1, e2]
theorem pe_cmpR {op : CmpOp} {r : R2} (ho : OpR X (compareOp op) r) (ha : PE X a ta) (hb : PE X b tb) (hm : behindInMarks op b = false) : PE X (.Compare a [op] [b] pos) (tOp r ta tb) := by
  intro pins s σ H Q I h
  exact wpAny_Compare1 (binT ha hb I h fun v u s2 x y H2 I2 rx ry q => ho pins s2 σ H2 x y v u Q I2 rx ry q) hm
def tTest (t : TE) : TT := fun σ H Q => t σ H fun x H' => ∃ k, x = .bl k ∧ Q k H'
theorem pt_cmpR {op : CmpOp} {r : R2} (ho : OpR X (compareOp op) r) (ha : PE X a ta) (hb : PE X b tb) (hm : behindInMarks op b = false) : PT X (.Compare a [op] [b] pos) (tTest (tOp r ta tb)) := by
  intro pins s σ H Q I h
  refine wpAny_isTrue_Compare1 (thn (ha pins s σ H _ I h) fun v s1 ⟨x, H1, I1, r1, q1⟩ => thn (hb pins s1 σ H1 _ I1 q1) fun u s2 ⟨y, H2, I2, r2, q2⟩ =>
    thn (ho pins s2 σ H2 x y v u _ I2 r1 r2 q2) fun c s3 ⟨z, H3, I3, r3, k, e, q3⟩ => ?_) hm
  subst e
  cases r3
  exact wpAny_truthy_bool ⟨H3, I3, q3⟩
def tChain (r r' : R2) (ta tb tc : TE) : TE := fun σ H Q => ta σ H fun x H1 => tb σ H1 fun y H2 => r x y H2 fun z H3 => ∃ k, z = .bl k ∧
  (if k = true then tc σ H3 fun w' H4 => r' y w' H4 Q else Q (.bl false) H3)
theorem pt_chain {op op' : CmpOp} {r r' : R2} (ho : OpR X (compareOp op) r) (ho' : OpR X (compareOp op') r') (ha : PE X a ta) (hb : PE X b tb) (hc : PE X c tc)
    (hm : lastMarks [op, op'] [b, c] = false := by with_unfolding_all rfl) : PT X (.Compare a [op, op'] [b, c] pos) (tTest (tChain r r' ta tb tc)) := by
  intro pins s σ H Q I h
  refine isTrue_chain (thn (ha pins s σ H _ I h) fun v s1 ⟨x, H1, I1, r1, q1⟩ => test_link (thn (hb pins s1 σ H1 _ I1 q1) fun u s2 ⟨y, H2, I2, r2, q2⟩ =>
    thn (ho pins s2 σ H2 x y v u _ I2 r1 r2 q2) fun d s3 ⟨z, H3, I3, r3, k, e, q3⟩ => ?_)) hm
  subst e
  cases r3
  refine wpAny_truthy_bool ?_
  cases k with
  | false =>
    obtain ⟨k', e', q'⟩ := q3
    cases e'
    exact ite_ff ⟨H3, I3, q'⟩
  | true =>
    refine ite_tt (test_last (thn (hc pins s3 σ H3 _ I3 q3) fun w' s4 ⟨z', H4, I4, r4, q4⟩ => thn (ho' pins s4 σ H4 y z' u w' _ I4 r2 r4 q4) fun d' s5 ⟨z2, H5, I5, r5, k2, e2, q5⟩ => ?_))
    subst e2
    cases r5
    exact wpAny_truthy_bool ⟨H5, I5, q5⟩
def TruV (K : PySem.W.Frag) (x : V) (H : Hp) (k : Bool) : Prop :=
  match x with
  | .non => k = false
  | .bl b => k = b
  | .int i => k = (i != 0)
  | .str y => y.length ≤ sizeLine ∧ k = ((y.length : Int) != 0)
  | .byt y => y.size ≤ sizeLine ∧ k = ((y.size : Int) != 0)
  | .ref p => (∃ xs, SqL K H p xs ∧ k = !xs.isEmpty) ∨ (∃ xs, SqT K H p xs ∧ k = !xs.isEmpty) ∨ ∃ kvs, H p = some (.dK kvs) ∧ k = !kvs.isEmpty
  | _ => False
theorem isEmpty_kv {κ : Type} {kvs : List (κ × V)} {vs : List (κ × Value)} (r : KV kvs vs) : (!vs.isEmpty) = !kvs.isEmpty := by
  cases r <;> rfl
theorem isEmpty_of {xs : List V} {its : List Value} (r : Vals xs its) : (!its.toArray.isEmpty) = !xs.isEmpty := by
  cases r <;> simp
theorem line63 : (sizeLine : Nat) < 2 ^ 63 := by rw [sizeLine_eq]; decide
theorem tru_ok : TruR X (fun x H Q => ∃ k, TruV X.K x H k ∧ Q k H) := by
  intro pins s σ H x v Q I rx h
  obtain ⟨k, e, q⟩ := h
  have hl := line63
  have hs : sizeLine = 16777216 := sizeLine_eq
  cases x with
  | non =>
    cases rx
    have e' : k = false := e
    subst e'
    exact truthy_none ⟨H, I, q⟩
  | bl b =>
    cases rx
    have e' : k = b := e
    subst e'
    exact wpAny_truthy_bool ⟨H, I, q⟩
  | int i =>
    obtain ⟨t, rfl⟩ := rx
    have e' : k = (i != 0) := e
    subst e'
    exact PySem.P.truthy_int ⟨H, I, q⟩
  | str y =>
    obtain ⟨t, rfl⟩ := rx
    obtain ⟨hy, e'⟩ : y.length ≤ sizeLine ∧ k = ((y.length : Int) != 0) := e
    subst e'
    exact PySem.P.truthy_str (by omega) ⟨H, I.tok _, q⟩
  | byt y =>
    obtain ⟨t, rfl⟩ := rx
    obtain ⟨hy, e'⟩ : y.size ≤ sizeLine ∧ k = ((y.size : Int) != 0) := e
    subst e'
    exact PySem.W.truthy_bytes (by omega) ⟨H, I.tok _, q⟩
  | ref p =>
    cases rx
    have e' : (∃ xs, SqL X.K H p xs ∧ k = !xs.isEmpty) ∨ (∃ xs, SqT X.K H p xs ∧ k = !xs.isEmpty) ∨ ∃ kvs, H p = some (.dK kvs) ∧ k = !kvs.isEmpty := e
    rcases e' with ⟨xs, hx, e'⟩ | ⟨xs, hx, e'⟩ | ⟨kvs, hx, e'⟩
    · subst e'
      obtain ⟨its, r, pl, hz⟩ := I.list hx
      have hlen := r.length
      exact wpAny_truthy_list pl.isList (by simp only [List.size_toArray]; omega) ⟨H, I.tok _, by rw [isEmpty_of r]; exact q⟩
    · subst e'
      obtain ⟨its, r, pl, hz⟩ := I.tuple hx
      have hlen := r.length
      exact truthy_tuple pl (by simp only [List.size_toArray]; omega) ⟨H, I.tok _, by rw [isEmpty_of r]; exact q⟩
    · subst e'
      obtain ⟨hz, hS, vs, r, m⟩ : kvs.length ≤ sizeLine ∧ (p == sysModules) = false ∧ ∃ vs, KV kvs vs ∧ s.heap.DictOf (mixKind X.prog X.w) p vs := I.hok p _ hx
      have hlen : kvs.length = vs.length := Paired.length r
      exact wpAny_truthy_dict hS m (by omega) ⟨H, I.tok _, by rw [isEmpty_kv r]; exact q⟩
  | _ => exact (show False from e).elim
theorem pt_truth (ha : PE X a ta) (he : ∀ whole, isTrue a X.env whole = (do let v ← whole; standAt a.pos; holding [v] (truthy v))) :
    PT X a (fun σ H Q => ta σ H fun x H' => ∃ k, TruV X.K x H' k ∧ Q k H') := by
  intro pins s σ H Q I h
  exact isTrue_plain (thn (ha pins s σ H _ I h) fun v s1 ⟨x, H1, I1, r1, q1⟩ => tru_ok pins s1 σ H1 x v Q I1 r1 q1) (he _)
theorem op_add_str : OpR X (binaryOp .Add) (fun x y H Q => ∃ i j, x = .str i ∧ y = .str j ∧ i.length + j.length ≤ sizeLine ∧ Q (.str (i ++ j)) H) := by
  intro pins s σ H x y v u Q I rx ry h
  obtain ⟨i, j, rfl, rfl, hz, q⟩ := h
  obtain ⟨t, rfl⟩ := rx
  obtain ⟨t', rfl⟩ := ry
  exact add_str (fun t' tk => ⟨.str (i ++ j), H, I.tok _, ⟨_, rfl⟩, q⟩) hz
theorem iop_add_str : OpR X (inplaceOp .Add) (fun x y H Q => ∃ i j, x = .str i ∧ y = .str j ∧ i.length + j.length ≤ sizeLine ∧ Q (.str (i ++ j)) H) := by
  intro pins s σ H x y v u Q I rx ry h
  obtain ⟨i, j, rfl, rfl, hz, q⟩ := h
  obtain ⟨t, rfl⟩ := rx
  obtain ⟨t', rfl⟩ := ry
  exact iadd_str (fun t' tk => ⟨.str (i ++ j), H, I.tok _, ⟨_, rfl⟩, q⟩) hz
theorem vals1 {x : V} {us : List Value} (r : Vals [x] us) : ∃ u, us = [u] ∧ RelV x u := by
  cases r with
  | cons r1 r2 => cases r2; exact ⟨_, rfl, r1⟩
theorem vals2 {x y : V} {us : List Value} (r : Vals [x, y] us) : ∃ u w', us = [u, w'] ∧ RelV x u ∧ RelV y w' := by
  cases r with
  | cons r1 r2 =>
    cases r2 with
    | cons r3 r4 => cases r4; exact ⟨_, _, rfl, r1, r3⟩
theorem call_max2 (hc : X.calm = true) : CallR X (.builtin "max") (fun xs H Q => ∃ i j, xs = [.int i, .int j] ∧ Q (.int (if j > i then j else i)) H) := by
  intro pins s σ H xs us Q I r h
  obtain ⟨i, j, rfl, q⟩ := h
  obtain ⟨u, w', rfl, ⟨t, rfl⟩, ⟨t', rfl⟩⟩ := vals2 r
  refine max_two_ints (I.ok.hd hc) fun h' tk k => ⟨_, H, I.kept k, ?_, q⟩
  by_cases hj : j > i
  · rw [if_pos hj, if_pos hj]; exact ⟨_, rfl⟩
  · rw [if_neg hj, if_neg hj]; exact ⟨_, rfl⟩
theorem call_min2 (hc : X.calm = true) : CallR X (.builtin "min") (fun xs H Q => ∃ i j, xs = [.int i, .int j] ∧ Q (.int (if j < i then j else i)) H) := by
  intro pins s σ H xs us Q I r h
  obtain ⟨i, j, rfl, q⟩ := h
  obtain ⟨u, w', rfl, ⟨t, rfl⟩, ⟨t', rfl⟩⟩ := vals2 r
  refine min_two_ints (I.ok.hd hc) fun h' tk k => ⟨_, H, I.kept k, ?_, q⟩
  by_cases hj : j < i
  · rw [if_pos hj, if_pos hj]; exact ⟨_, rfl⟩
  · rw [if_neg hj, if_neg hj]; exact ⟨_, rfl⟩
end
end L2
namespace L2
open PySem PySem.Spec PyProof.Rows
structure ObjM (h : Heap) (x dx C : Addr) (mA : Str → Option Value) : Prop where
  obj : h.get? x = some (PySem.W.instObj C dx)
  ns : h.Ns1 dx mA
  ne : dx ≠ x
theorem lookIn_ns {h : Heap} {dx : Addr} {mA : Str → Option Value} (n : h.Ns1 dx mA) : ∃ od, h.get? dx = some od ∧ ∀ name, PySem.W.lookIn name od = some (mA name) := by
  obtain ⟨o, es, ep, ho, hd, hk, _, hm⟩ := n
  refine ⟨o, ho, fun name => ?_⟩
  have e := hm name
  unfold nsFind findBy at e
  rw [← Array.find?_toList] at e
  unfold PySem.W.lookIn
  rw [hd]
  dsimp only
  split
  · rename_i y q
    rw [q] at e
    exact congrArg some e
  · rename_i q
    rw [q] at e
    have a : es.toList.any (·.refKey) = false := by
      rw [List.any_eq_false]
      intro y hy
      obtain ⟨z, t, hkey⟩ := hk y (Array.mem_toList_iff.mp hy)
      simp [DictEntry.refKey, hkey]
    have a' : ¬ es.toList.any (·.refKey) = true := by rw [a]; exact Bool.false_ne_true
    rw [if_neg a']
    exact congrArg some e
theorem ObjM.look {h : Heap} {x dx C : Addr} {mA : Str → Option Value} (I : ObjM h x dx C mA) : ∃ od, PySem.W.InstAt h x (PySem.W.instObj C dx) C (some od) ∧ ∀ name, PySem.W.lookIn name od = some (mA name) :=
  let ⟨od, ho, hl⟩ := lookIn_ns I.ns
  ⟨od, ⟨I.obj, rfl, rfl, ho⟩, hl⟩
section
variable {prog : Program} {w : World} {A : Around} {E : Value → Shared → Prop} {s : Shared} {K : PySem.W.Frag} {x dx C f : Addr} {mA : Str → Option Value} {name : Str} {v : Value}
theorem get_map {expr : Bool} {Q : Value → Shared → Prop} (X : K.In s.heap) (I : ObjM s.heap x dx C mA) (hg : PySem.W.plainGet K C name = true) (hh : PySem.W.hasDictIn K C = true)
    (ha : PySem.W.findIn K (.ref C) name = some none) (hv : mA name = some v) (hv' : PySem.W.handedIn v = true) (h : Q v { s with toks := s.toks + 1 }) :
    wpAny (model prog w) A (getAttr (.ref x) name expr) Q E s := by
  obtain ⟨od, J, hl⟩ := I.look
  exact PySem.W.get_value X J (PySem.W.plainGet_of hg).1 (PySem.W.findObj_own hh ha rfl (by rw [hl, hv])) hv' h
theorem get_meth {pl : Sem Bool} {Q : Value × List Value → Shared → Prop} (X : K.In s.heap) (I : ObjM s.heap x dx C mA) (hg : PySem.W.plainGet K C name = true)
    (hf : PySem.W.findIn K (.ref C) name = some (some (.ref f))) (ht : PySem.W.isFn K (.ref f) = true) (hv : mA name = none) (h : Q (.ref f, [.ref x]) s) :
    wpAny (model prog w) A (getMethod (.ref x) name pl) Q E s := by
  obtain ⟨od, J, hl⟩ := I.look
  exact PySem.W.method_fn X J (PySem.W.plainGet_of hg).1 (PySem.W.plainGet_of hg).2 hf (beq_iff_eq.mp ht) (by show (PySem.W.lookIn name od).map (·.isSome) = some false; rw [hl, hv]; rfl) h
theorem set_map {ns : List Str} {Q : Unit → Shared → Prop} (X : K.In s.heap) (I : ObjM s.heap x dx C mA)
    (hs : PySem.W.findIn K (.ref C) "__setattr__" = some (some (.builtin "object.__setattr__"))) (hp : PySem.W.plainOver K C = true) (ht : PySem.W.takerIn K C name = some none) (hh : PySem.W.hasDictIn K C = true)
    (hw : PySem.Within mA ns) (hsz : ns.length ≤ sizeLine)
    (h : ∀ h', ObjM h' x dx C (fun y => if y = name then some v else mA y) → Heap.SameBut dx s.heap h' → Q () { s with heap := h', toks := s.toks + 2 }) :
    wpAny (model prog w) A (setAttr (.ref x) name v) Q E s := by
  obtain ⟨od, J, hl⟩ := I.look
  refine PySem.W.set_plain X J hs (PySem.W.osa_open (s := { s with toks := s.toks + 1 }) (r := none) X J hp ht fun b => ?_)
  obtain ⟨cd, hc, hd'⟩ := PySem.W.any_some hh
  have hx : s.heap.get? x = some ⟨.ref C, some dx, .plain, #[]⟩ := I.obj
  refine wpAny_bind (wpAny_pure (wpAny_bind (wpAny_bind (wpAny_loadPart hx (wpAny_bind (PySem.W.Looks.here (s := { s with toks := s.toks + 1 }) (PySem.W.looks_clsIn X hc) ?_))))))
  rw [hd']
  refine wpAny_pure (a := some dx) (wpAny_bind (wpAny_pure (wpAny_bind ?_)))
  refine wpAny_nsSet1 (s := { s with toks := s.toks + 1 }) I.ns fun h' hn2 hs2 => ?_
  obtain ⟨oD, esD, epD, hoD, hdD, hcD⟩ := hn2.count (PySem.Within.cons name v hw)
  refine wpAny_bind (wpAny_lookBehind hoD (by rw [hdD]; exact pastItsLine_dict (Nat.le_trans hcD (by rw [List.length_cons]; omega))) ?_)
  exact wpAny_pure (h _ ⟨(hs2.2 _ (Ne.symm I.ne)).trans I.obj, hn2, I.ne⟩ hs2)
theorem make_map {R : Result → Shared → Prop} {vs : List Value} {kw : List (Str × Value)} (X : K.In s.heap) (hm : PySem.W.makesIn K C = true)
    (hi : PySem.W.findIn K (.ref C) "__init__" = some (some (.ref f))) (hf : PySem.W.typeIn K (.ref f) = some (.type "function"))
    (h : codeAny (model prog w) (A.under (.builtin "type.__call__" ⟨.ref C :: vs, kw⟩)) (.call (.ref f) ⟨.ref (s.heap.objs.size + 1) :: vs, kw⟩) (PySem.W.InitBack (s.heap.objs.size + 1) R)
      { s with heap := (s.heap.push PySem.W.emptyDict).push (PySem.W.instObj C s.heap.objs.size) }) :
    codeAny (model prog w) A (.call (.ref C) ⟨vs, kw⟩) R s := by
  obtain ⟨hh, g, d, t, os⟩ := s
  exact PySem.W.make_core (PySem.W.makes_of X hm) (PySem.W.looks_findIn X hi) (fun self => PySem.W.bind_fn X self hf) (.inl rfl) h
end
def putF (f : Str) (v : V) : List (Str × V) → List (Str × V)
  | [] => [(f, v)]
  | (g, x) :: r => if g = f then (g, v) :: r else (g, x) :: putF f v r
theorem lookup_putF (f g : Str) (v : V) : ∀ fs : List (Str × V), (putF f v fs).lookup g = if g = f then some v else fs.lookup g
  | [] => by
    show List.lookup g [(f, v)] = _
    by_cases h : g = f
    · have hb : (g == f) = true := beq_iff_eq.mpr h
      simp only [List.lookup, hb, if_pos h]
    · have hb : (g == f) = false := beq_eq_false_iff_ne.mpr h
      simp only [List.lookup, hb, if_neg h]
  | (k, x) :: r => by
    have ih := lookup_putF f g v r
    rw [show putF f v ((k, x) :: r) = (if k = f then (k, v) :: r else (k, x) :: putF f v r) from rfl]
    by_cases hk : k = f
    · rw [if_pos hk]
      by_cases h : g = k
      · have hb : (g == k) = true := beq_iff_eq.mpr h
        simp only [List.lookup, hb, if_pos (h.trans hk)]
      · have hb : (g == k) = false := beq_eq_false_iff_ne.mpr h
        simp only [List.lookup, hb, if_neg (fun e : g = f => h (e.trans hk.symm))]
    · rw [if_neg hk]
      by_cases h : g = k
      · have hb : (g == k) = true := beq_iff_eq.mpr h
        simp only [List.lookup, hb, if_neg (fun e : g = f => hk (h.symm.trans e))]
      · have hb : (g == k) = false := beq_eq_false_iff_ne.mpr h
        simp only [List.lookup, hb]
        exact ih
theorem keys_putF (f : Str) (v : V) : ∀ fs : List (Str × V), f ∈ (putF f v fs).map (·.1) ∧ ∀ g, g ∈ fs.map (·.1) → g ∈ (putF f v fs).map (·.1)
  | [] => ⟨by simp [putF], fun g h => by simp at h⟩
  | (k, x) :: r => by
    obtain ⟨i1, i2⟩ := keys_putF f v r
    rw [show putF f v ((k, x) :: r) = (if k = f then (k, v) :: r else (k, x) :: putF f v r) from rfl]
    by_cases hk : k = f
    · rw [if_pos hk]
      subst hk
      exact ⟨by simp, fun g h => by simpa using h⟩
    · rw [if_neg hk]
      refine ⟨?_, fun g h => ?_⟩
      · rw [List.map_cons]
        exact List.mem_cons_of_mem _ i1
      · rw [List.map_cons] at h ⊢
        rcases List.mem_cons.mp h with e | e
        · exact List.mem_cons.mpr (.inl e)
        · exact List.mem_cons_of_mem _ (i2 g e)
theorem length_putF (f : Str) (v : V) : ∀ fs : List (Str × V), (putF f v fs).length ≤ fs.length + 1
  | [] => by simp [putF]
  | (k, x) :: r => by
    have ih := length_putF f v r
    rw [show putF f v ((k, x) :: r) = (if k = f then (k, v) :: r else (k, x) :: putF f v r) from rfl]
    by_cases hk : k = f
    · rw [if_pos hk, List.length_cons, List.length_cons]; omega
    · rw [if_neg hk, List.length_cons, List.length_cons]; omega
theorem RelO.some_of {v : V} {o : Option Value} (r : RelO (some v) o) : ∃ u, o = some u ∧ RelV v u := by
  cases o with
  | none => exact (show False from r).elim
  | some u => exact ⟨u, rfl, r⟩
theorem RelO.none_of {o : Option Value} (r : RelO none o) : o = none := by
  cases o with
  | none => rfl
  | some u => exact (show False from r).elim
theorem handed_of {v : V} {u : Value} (r : RelV v u) : PySem.W.handedIn u = true := by
  cases v with
  | non => cases (show u = Value.none from r); rfl
  | bl b => cases (show u = Value.bool b from r); rfl
  | int i => obtain ⟨t, e⟩ := (show ∃ t, u = Value.int i t from r); cases e; rfl
  | str x => obtain ⟨t, e⟩ := (show ∃ t, u = Value.str x t from r); cases e; rfl
  | byt b => obtain ⟨t, e⟩ := (show ∃ t, u = Value.bytes b t from r); cases e; rfl
  | flt b => obtain ⟨t, e⟩ := (show ∃ t, u = Value.float b t from r); cases e; rfl
  | ref a => cases (show u = Value.ref a from r); rfl
  | ty n => cases (show u = Value.type n from r); rfl
section
variable {P : Program} {w : World} {H H' : Hp} {h h' : Heap} {a C dx : Addr} {fs fs' : List (Str × V)}
theorem ins_get (hok : HOk P w H h) (e : H a = some (.ins C dx fs)) : ∃ mA, ObjM h a dx C mA ∧ (∀ f, RelO (fs.lookup f) (mA f)) ∧ PySem.Within mA (fs.map (·.1)) ∧ fs.length ≤ 1000 ∧ H dx = some (.own a) := by
  obtain ⟨d, z, ne, ob, mA, n, r, q⟩ := (show ObjOk P w H h a (.ins C dx fs) from hok a _ e)
  exact ⟨mA, ⟨ob, n, ne⟩, r, q, z, d⟩
end
structure Cls (K : PySem.W.Frag) (C : Addr) : Prop where
  pg : PySem.W.plainGet K C Str.empty = true
  hd : PySem.W.hasDictIn K C = true
  po : PySem.W.plainOver K C = true
  sa : PySem.W.findIn K (.ref C) "__setattr__" = some (some (.builtin "object.__setattr__"))
theorem Cls.get {K : PySem.W.Frag} {C : Addr} (c : Cls K C) (f : Str) : PySem.W.plainGet K C f = true := c.pg
def NoAttr (K : PySem.W.Frag) (C : Addr) (f : Str) : Prop := PySem.W.findIn K (.ref C) f = some none
theorem NoAttr.taker {K : PySem.W.Frag} {C : Addr} {f : Str} (n : NoAttr K C f) : PySem.W.takerIn K C f = some none := by
  unfold PySem.W.takerIn
  rw [show PySem.W.findIn K (.ref C) f = some none from n]
  rfl
structure Meth (K : PySem.W.Frag) (C : Addr) (m : Str) (f : Addr) : Prop where
  at_ : PySem.W.findIn K (.ref C) m = some (some (.ref f))
  fn : PySem.W.isFn K (.ref f) = true
  kp : PySem.W.keepIn K (.ref f) = true
section
variable {X : Cx} {pins : List (Addr × Obj)} {σ : St} {H : Hp} {s : Shared} {a C dx : Addr} {fs : List (Str × V)} {f : Str} {v : V} {A : Around} {E : Value → Shared → Prop}
theorem getattr_ok {b : Bool} {Q : Value → Shared → Prop} (I : Inv X pins σ H s) (e : H a = some (.ins C dx fs)) (c : Cls X.K C) (n : NoAttr X.K C f) (l : fs.lookup f = some v)
    (h : ∀ u s', Inv X pins σ H s' → RelV v u → Q u s') : wpAny (model X.prog X.w) A (getAttr (.ref a) f b) Q E s := by
  obtain ⟨mA, O, r, _, _, _⟩ := ins_get I.hok e
  obtain ⟨u, hu, ru⟩ := RelO.some_of (v := v) (o := mA f) (by rw [← l]; exact r f)
  exact get_map I.kIn O (c.get f) c.hd n hu (handed_of ru) (h u _ (I.tok _) ru)
theorem getmeth_ok {m : Str} {g : Addr} {pl : Sem Bool} {Q : Value × List Value → Shared → Prop} (I : Inv X pins σ H s) (e : H a = some (.ins C dx fs)) (c : Cls X.K C) (k : Meth X.K C m g) (l : fs.lookup m = none)
    (h : Q (.ref g, [.ref a]) s) : wpAny (model X.prog X.w) A (getMethod (.ref a) m pl) Q E s := by
  obtain ⟨mA, O, r, _, _, _⟩ := ins_get I.hok e
  have hn : mA m = none := RelO.none_of (by rw [← l]; exact r m)
  exact get_meth I.kIn O (c.get m) k.at_ k.fn hn h
theorem setattr_ok {y : V} {u : Value} {Q : Unit → Shared → Prop} (I : Inv X pins σ H s) (e : H a = some (.ins C dx fs)) (c : Cls X.K C) (n : NoAttr X.K C f) (hl : fs.length < 1000) (ry : RelV y u)
    (h : ∀ s', Inv X pins σ (upd H a (.ins C dx (putF f y fs))) s' → Q () s') : wpAny (model X.prog X.w) A (setAttr (.ref a) f u) Q E s := by
  obtain ⟨mA, O, r, wi, _, ho⟩ := ins_get I.hok e
  have hz : (fs.map (·.1)).length ≤ sizeLine := by rw [List.length_map, sizeLine_eq]; omega
  refine set_map I.kIn O c.sa c.po n.taker c.hd wi hz fun h' O' sb => h _ ?_
  have hd : ∃ o, h'.get? dx = some o := let ⟨o, _, _, e', _⟩ := O'.ns; ⟨o, e'⟩
  refine I.write (x := a) (e := dx) (by rw [e]; exact True.intro) (.inr ho) (fun b q hb z => (sb.2 b hb).trans z) hd ?_
  refine ⟨by rw [upd_ne O.ne]; exact ho, ?_, O.ne, O'.obj, _, O'.ns, fun g => ?_, fun g hg => ?_⟩
  · have := length_putF f y fs; omega
  · show RelO ((putF f y fs).lookup g) (if g = f then some u else mA g)
    rw [lookup_putF]
    by_cases q : g = f
    · rw [if_pos q, if_pos q]; exact ry
    · rw [if_neg q, if_neg q]; exact r g
  · by_cases q : g = f
    · rw [q]; exact (keys_putF f y fs).1
    · refine (keys_putF f y fs).2 g (wi g fun z => hg ?_)
      show (if g = f then some u else mA g) = none
      rw [if_neg q]; exact z
theorem Inv.made (I : Inv X pins σ H s) : Inv X pins σ (upd (upd H s.heap.objs.size (.own (s.heap.objs.size + 1))) (s.heap.objs.size + 1) (.ins C s.heap.objs.size []))
    { s with heap := (s.heap.push PySem.W.emptyDict).push (PySem.W.instObj C s.heap.objs.size) } := by
  have e1 : (s.heap.push PySem.W.emptyDict).get? s.heap.objs.size = some PySem.W.emptyDict := Heap.get?_push_size s.heap rfl
  have e2 : ((s.heap.push PySem.W.emptyDict).push (PySem.W.instObj C s.heap.objs.size)).get? (s.heap.objs.size + 1) = some (PySem.W.instObj C s.heap.objs.size) := by
    have := Heap.get?_push_size (s.heap.push PySem.W.emptyDict) (o := PySem.W.instObj C s.heap.objs.size) rfl
    rwa [Heap.size_push] at this
  have e3 : (s.heap.push PySem.W.emptyDict).Ns s.heap.objs.size (fun _ => none) := ⟨PySem.W.emptyDict, #[], _, e1, rfl, (fun e he => absurd he (by simp)), fun _ => rfl⟩
  have I1 := I.laid (a := s.heap.objs.size) (o := .own (s.heap.objs.size + 1)) (h' := s.heap.push PySem.W.emptyDict) (t' := s.toks) (fun b u q => Heap.get?_push_of_some _ q) (Nat.le_refl _) ⟨_, e1⟩
  refine I1.laid (a := s.heap.objs.size + 1) (o := .ins C s.heap.objs.size []) (t' := s.toks) (fun b u q => Heap.get?_push_of_some _ q) (Nat.le_of_eq (Heap.size_push _ _)) ?_
  have ne : s.heap.objs.size ≠ s.heap.objs.size + 1 := Nat.ne_of_lt (Nat.lt_succ_self _)
  refine ⟨by rw [upd_ne ne, upd_same], Nat.zero_le _, ne, e2, fun _ => none, (Heap.Ns1.of_empty e3).at fun o q => Heap.get?_push_of_some _ q, fun _ => True.intro, fun y hy => absurd rfl hy⟩
theorem attr_of {prog : Program} {w : World} {env : Env} {e : Expr} {f : Str} {pos : Pos} {s : Shared} {Q : Value → Shared → Prop} (hb : attributeBase e f env (eval e env) = eval e env)
    (h : wpAny (model prog w) A (eval e env) (fun o s₁ => wpAny (model prog w) A (getAttr o f true) Q E s₁) E s) : wpAny (model prog w) A (eval (.Attribute e f pos) env) Q E s :=
  Attribute_any_ h (by rw [arm_eval_Attribute, hb])
end
def tFld (K : PySem.W.Frag) (ta : TE) (f : Str) : TE := fun σ H Q => ta σ H fun x H1 => ∃ a C dx fs v, x = .ref a ∧ H1 a = some (.ins C dx fs) ∧ Cls K C ∧ NoAttr K C f ∧ fs.lookup f = some v ∧ Q v H1
def sFld (K : PySem.W.Frag) (ta tv : TE) (f : Str) : TS := fun D σ H => tv σ H fun y H1 => ta σ H1 fun x H2 => ∃ a C dx fs, x = .ref a ∧ H2 a = some (.ins C dx fs) ∧ Cls K C ∧ NoAttr K C f ∧ fs.length < 1000 ∧
  D.nx σ (upd H2 a (.ins C dx (putF f y fs)))
def InOp (X : Cx) (op : Operator) (rd : V → V → Hp → VK → Prop) : Prop :=
  ∀ (pins : List (Addr × Obj)) (s : Shared) (σ : St) (H : Hp) (x y : V) (u v : Value) (Q : VK), Inv X pins σ H s → RelV x u → RelV y v → rd x y H Q → wpAny (model X.prog X.w) X.A (inplaceOp op u v) (EP X pins σ Q) X.xe s
def sFldAug (K : PySem.W.Frag) (ta tv : TE) (rd : V → V → Hp → VK → Prop) (f : Str) : TS := fun D σ H => ta σ H fun x H1 => ∃ a C dx fs v, x = .ref a ∧ H1 a = some (.ins C dx fs) ∧ Cls K C ∧ NoAttr K C f ∧ fs.lookup f = some v ∧
  tv σ H1 fun y H2 => rd v y H2 fun z H3 => ∃ dx' fs', H3 a = some (.ins C dx' fs') ∧ fs'.length < 1000 ∧ D.nx σ (upd H3 a (.ins C dx' (putF f z fs')))
section
variable {X : Cx} {o e value : Expr} {f : Str} {pos pos' tpos : Pos} {ta tv : TE}
theorem pe_fld (he : PE X e ta) (hb : attributeBase e f X.env (eval e X.env) = eval e X.env) : PE X (.Attribute e f pos) (tFld X.K ta f) := by
  intro pins s σ H Q I h
  refine attr_of hb (thn (he pins s σ H _ I h) fun u s1 ⟨x, H1, I1, rx, a, C, dx, fs, v, ex, ea, c, n, l, q⟩ => ?_)
  subst ex
  obtain rfl : u = Value.ref a := rx
  exact getattr_ok I1 ea c n l fun u' s2 I2 ru => ⟨v, H1, I2, ru, q⟩
theorem ps_fld (ha : PE X o ta) (hv : PE X value tv) (hs : swapsWith value (some (.Attribute o f pos')) pos.line X.env = pure false) : PS X (.Assign [.Attribute o f pos'] value pos) (sFld X.K ta tv f) := by
  intro pins s σ H D I h
  refine plainObj_wpAny_Assign_Attribute (thn (hv pins s σ H _ I h) fun u s1 ⟨y, H1, I1, ry, q⟩ => thn (ha pins s1 σ H1 _ I1 q) fun ov s2 ⟨x, H2, I2, rx, a, C, dx, fs, ex, ea, c, n, l, q2⟩ => ?_) hs
  subst ex
  obtain rfl : ov = Value.ref a := rx
  exact setattr_ok I2 ea c n l ry fun s3 I3 => ⟨σ, _, I3, q2⟩
theorem ps_fldaug {op : Operator} {rd : V → V → Hp → VK → Prop} (ha : PE X o ta) (hv : PE X value tv) (hop : InOp X op rd) : PS X (.AugAssign (.Attribute o f tpos) op value pos) (sFldAug X.K ta tv rd f) := by
  intro pins s σ H D I h
  refine wpAny_AugAssign_AttributeAny (thn (ha pins s σ H _ I h) fun ov s1 ⟨x, H1, I1, rx, a, C, dx, fs, v, ex, ea, c, n, l, q⟩ => ?_)
  subst ex
  obtain rfl : ov = Value.ref a := rx
  refine getattr_ok I1 ea c n l fun u s2 I2 ru => thn (hv pins s2 σ H1 _ I2 q) fun w3 s3 ⟨y, H2, I3, ry, q3⟩ => thn (hop pins s3 σ H2 v y u w3 _ I3 ru ry q3) fun w4 s4 ⟨z, H3, I4, rz, dx', fs', ea', l', q4⟩ => ?_
  exact setattr_ok I4 ea' c n l' rz fun s5 I5 => ⟨σ, _, I5, q4⟩
def rAdd : V → V → Hp → VK → Prop := fun x y H Q => ∃ i j, x = .int i ∧ y = .int j ∧ Q (.int (i + j)) H
theorem in_add : InOp X .Add rAdd := by
  rintro pins s σ H x y u v Q I rx ry ⟨i, j, rfl, rfl, q⟩
  obtain ⟨t, rfl⟩ := (show ∃ t, u = Value.int i t from rx)
  obtain ⟨t', rfl⟩ := (show ∃ t', v = Value.int j t' from ry)
  exact PyProof.Rows.iadd_int ⟨.int (i + j), H, I.tok _, ⟨_, rfl⟩, q⟩
end
section
variable {X : Cx} {pins : List (Addr × Obj)} {σ : St} {H : Hp} {s : Shared} {A : Around} {E : Value → Shared → Prop} {Q : Value → Shared → Prop} {c : Value} {b : Bool}
inductive TyOf (K : PySem.W.Frag) (H : Hp) : V → Value → Prop where
  | non : TyOf K H .non (.type "NoneType")
  | bl (x : Bool) : TyOf K H (.bl x) (.type "bool")
  | int (i : Int) : TyOf K H (.int i) (.type "int")
  | str (x : Str) : TyOf K H (.str x) (.type "str")
  | flt (x : UInt64) : TyOf K H (.flt x) (.type "float")
  | lst {a : Addr} {xs : List V} (e : H a = some (.lst xs)) : TyOf K H (.ref a) (.type "list")
  | frz {a : Addr} {o : Obj} {xs : List V} (e : H a = some (.frz o (.lst xs))) : TyOf K H (.ref a) (.type "list")
  | tup {a : Addr} {xs : List V} (e : H a = some (.tup xs)) : TyOf K H (.ref a) (.type "tuple")
  | dK {a : Addr} {kvs : List (Key × V)} (e : H a = some (.dK kvs)) : TyOf K H (.ref a) (.type "dict")
  | dT {a : Addr} {kvs : List (List Key × V)} (e : H a = some (.dT kvs)) : TyOf K H (.ref a) (.type "dict")
  | ins {a C dx : Addr} {fs : List (Str × V)} (e : H a = some (.ins C dx fs)) (cl : Cls K C) (ha : PySem.W.findIn K (.ref C) "__class__" = some (some (.builtin "object.__class__")))
      (hn : PySem.W.specialIn K (.builtin "object.__class__") "__get__" = some (some (.builtin "getset_descriptor.__get__"))) (htk : PySem.W.takesIn K (.builtin "object.__class__") = some true)
      (hm : PySem.W.mroIn K C (.type "object") = some true) : TyOf K H (.ref a) (.ref C)
theorem isinst_ok {x : V} {u t : Value} (I : Inv X pins σ H s) (rx : RelV x u) (ty : TyOf X.K H x t) (e : PySem.W.kitOne X.K t c = some b) (h : ∀ tk, Q (.bool b) { s with toks := tk }) :
    wpAny (model X.prog X.w) A (call (.builtin "isinstance") [u, c]) Q E s := by
  cases ty with
  | non => cases (show u = Value.none from rx); exact PySem.W.kia_one PySem.W.kitx_none I.kIn True.intro e (fun z => nomatch z) h
  | bl y => cases (show u = Value.bool y from rx); exact PySem.W.kia_one PySem.W.kitx_bool I.kIn True.intro e (fun z => nomatch z) h
  | int i => obtain ⟨t, q⟩ := (show ∃ t, u = Value.int i t from rx); cases q; exact PySem.W.kia_one PySem.W.kitx_int I.kIn True.intro e (fun z => nomatch z) h
  | str y => obtain ⟨t, q⟩ := (show ∃ t, u = Value.str y t from rx); cases q; exact PySem.W.kia_one PySem.W.kitx_str I.kIn True.intro e (fun z => nomatch z) h
  | flt y => obtain ⟨t, q⟩ := (show ∃ t, u = Value.float y t from rx); cases q; exact PySem.W.kia_one PySem.W.kitx_float I.kIn True.intro e (fun z => nomatch z) h
  | @lst a xs ea =>
    cases (show u = Value.ref a from rx)
    obtain ⟨_, _, n, _, h1⟩ := (show ObjOk X.prog X.w H s.heap a (.lst xs) from I.hok a _ ea)
    exact PySem.W.kia_one PySem.W.kitx_list I.kIn ⟨_, h1, rfl⟩ e (fun z => nomatch z) h
  | @frz a ob xs ea =>
    cases (show u = Value.ref a from rx)
    obtain ⟨_, _, _, n, _, h1⟩ := (show ObjOk X.prog X.w H s.heap a (.frz ob (.lst xs)) from I.hok a _ ea)
    exact PySem.W.kia_one PySem.W.kitx_list I.kIn ⟨_, h1, rfl⟩ e (fun z => nomatch z) h
  | @tup a xs ea =>
    cases (show u = Value.ref a from rx)
    obtain ⟨_, _, _, p⟩ := (show ObjOk X.prog X.w H s.heap a (.tup xs) from I.hok a _ ea)
    obtain ⟨o, h1, h2, _⟩ := p
    exact PySem.W.kia_one PySem.W.kitx_tuple I.kIn ⟨o, h1, h2⟩ e (fun z => nomatch z) h
  | @dK a kvs ea =>
    cases (show u = Value.ref a from rx)
    obtain ⟨_, _, vs, _, p⟩ := (show ObjOk X.prog X.w H s.heap a (.dK kvs) from I.hok a _ ea)
    obtain ⟨o, es, ep, h1, h2, _⟩ := p
    exact PySem.W.kia_one PySem.W.kitx_dict I.kIn ⟨o, h1, h2.1⟩ e (fun z => nomatch z) h
  | @dT a kvs ea =>
    cases (show u = Value.ref a from rx)
    obtain ⟨_, _, xs, _, o, es, ep, h1, h2, _⟩ := (show ObjOk X.prog X.w H s.heap a (.dT kvs) from I.hok a _ ea)
    exact PySem.W.kia_one PySem.W.kitx_dict I.kIn ⟨o, h1, h2.1⟩ e (fun z => nomatch z) h
  | @ins a C dx fs ea cl ha hn htk hm =>
    cases (show u = Value.ref a from rx)
    obtain ⟨mA, O, _⟩ := ins_get I.hok ea
    obtain ⟨od, J, _⟩ := O.look
    exact PySem.W.kia_one (PySem.W.kitx_own (cl.get _) cl.hd ha hn htk hm) I.kIn J e (fun z => nomatch z) h
end
end L2
namespace L2
open PySem PySem.Spec PyProof.Rows
structure Room (k : Nat) (A : Around) : Prop where
  hd : A.handled = none
  dp : A.depth + 3 * k + 5 < recursionLimit
  un : A.units + 16 * k + 200 < cLine
theorem Room.mono {j k : Nat} {A : Around} (r : Room k A) (h : j ≤ k) : Room j A := ⟨r.hd, by have := r.dp; omega, by have := r.un; omega⟩
theorem Room.deeper {k : Nat} {A : Around} (r : Room (k + 1) A) (env : Env) : Room k (A.deeper env) :=
  ⟨r.hd, by have := r.dp; show A.depth + 1 + 3 * k + 5 < _; omega, by have := r.un; show A.units + 3 + 16 * k + 200 < _; omega⟩
theorem make_depth {A : Around} {C : Addr} {us : List Value} {kw : List (Str × Value)} : (A.under (.builtin "type.__call__" ⟨.ref C :: us, kw⟩)).depth = A.depth + 1 := by
  first | rfl | simp [Around.under, Code.weight, Code.isCreation, Code.isGuard, Code.isCaller, Code.frames, Code.isFrame, guardIds]
theorem make_units {A : Around} {C : Addr} {us : List Value} {kw : List (Str × Value)} : (A.under (.builtin "type.__call__" ⟨.ref C :: us, kw⟩)).units = A.units + 1 := by
  first | rfl | simp [Around.under, Code.cUnits, Code.frames, Code.isFrame]
theorem Room.make {k : Nat} {A : Around} (r : Room (k + 1) A) (C : Addr) (us : List Value) (kw : List (Str × Value)) : Room k (A.under (.builtin "type.__call__" ⟨.ref C :: us, kw⟩)) :=
  ⟨r.hd, by have := r.dp; rw [make_depth]; omega, by have := r.un; rw [make_units]; omega⟩
theorem Room.depth {k : Nat} {A : Around} (r : Room k A) : A.depth < recursionLimit := by have := r.dp; omega
theorem Room.units {k : Nat} {A : Around} (r : Room k A) : A.units + 64 < cLine := by have := r.un; omega
def tNil : TA := fun _ H Q => Q [] H
def tCons (ta : TE) (tr : TA) : TA := fun σ H Q => ta σ H fun x H1 => tr σ H1 fun xs H2 => Q (x :: xs) H2
section
variable {X : Cx} {e : Expr} {es : List Expr} {te : TE} {t : TA} {pos : Pos}
theorem pa_nil : PA X [] tNil := fun _ _ _ _ H Q I h => Calls.spliced_nil ⟨[], H, I, .nil, h⟩
theorem pa_cons (ha : PE X e te) (hr : PA X es t) (hs : starEach (e :: es) X.env = (false, eval e X.env) :: starEach es X.env := by rfl) : PA X (e :: es) (tCons te t) := by
  intro pos pins s σ H Q I h
  rw [hs]
  show wpAny _ _ (spliced ((false, eval e X.env) :: backTo pos (starEach es X.env))) _ _ s
  refine Calls.spliced_cons (thn (ha pins s σ H _ I h) fun u s1 ⟨x, H1, I1, r1, q1⟩ => ?_)
  exact thn (hr pos pins s1 σ H1 _ I1 q1) fun us s2 ⟨xs, H2, I2, r2, q2⟩ => ⟨x :: xs, H2, I2, .cons r1 r2, q2⟩
def tTup (t : TA) : TE := fun σ H Q => t σ H fun xs H1 => xs.length ≤ sizeLine ∧ ∀ p, H1 p = none → Q (.ref p) (upd H1 p (.tup xs))
def tLst (t : TA) : TE := fun σ H Q => t σ H fun xs H1 => xs.length ≤ sizeLine ∧ ∀ p, H1 p = none → Q (.ref p) (upd H1 p (.lst xs))
theorem pe_tup {x1} (h : PA X es t) : PE X (.Tuple es x1 pos) (tTup t) := by
  intro pins s σ H Q I hq
  refine wpAny_Tuple_spliced (thn (h pos pins s σ H _ I hq) fun us s1 ⟨xs, H1, I1, r, z, q⟩ => ⟨by rw [← r.length]; exact z, ?_⟩)
  have hf : H1 s1.heap.objs.size = none := I1.hok.fresh (Nat.le_refl _)
  refine ⟨.ref s1.heap.objs.size, upd H1 s1.heap.objs.size (.tup xs), I1.laid (t' := s1.toks) (fun b u e => Heap.get?_push_of_some _ e) (Nat.le_refl _) ?_, rfl, q _ hf⟩
  exact ⟨z, us, r, ⟨_, Heap.get?_push_size _ rfl, rfl, _, rfl⟩⟩
theorem pe_lst (h : PA X es t) : PE X (.List es pos) (tLst t) := by
  intro pins s σ H Q I hq
  refine wpAny_List_spliced (thn (h pos pins s σ H _ I hq) fun us s1 ⟨xs, H1, I1, r, z, q⟩ => ⟨by rw [← r.length]; exact z, ?_⟩)
  have hf : H1 s1.heap.objs.size = none := I1.hok.fresh (Nat.le_refl _)
  refine ⟨.ref s1.heap.objs.size, upd H1 s1.heap.objs.size (.lst xs), I1.laid (t' := s1.toks) (fun b u e => Heap.get?_push_of_some _ e) (Nat.le_refl _) ?_, rfl, q _ hf⟩
  exact ⟨z, us, 0, r, Heap.get?_push_size _ rfl⟩
end
abbrev Sp := List V → Hp → VK → XK → Prop
abbrev CXT := List Env → Hp → Shared → XK → Value → Shared → Prop
structure Env0 (P : Program) (w : World) (K : PySem.W.Frag) (mg : Str → Option Value) (base : Heap) (A : Around) (outer : List Env) (s : Shared) (H : Hp) : Prop where
  frames : A.frames = some outer
  mod : Mod K mg base
  bs : ∀ b o, base.get? b = some o → s.heap.get? b = some o ∧ H b = none
  bsz : base.objs.size ≤ s.heap.objs.size
  funs : s.heap.FunFrames base outer
  frf : ∀ b ∈ frs outer, H b = none
  hok : HOk P w H s.heap
  bare : AllBare s.gens
def CE (outer : List Env) (P : Program) (w : World) (H : Hp) (s : Shared) (Q : VK) (u : Value) (s' : Shared) : Prop :=
  ∃ v H', s'.os = s.os ∧ AllBare s'.gens ∧ Un (frs outer) [] H H' s.heap s'.heap ∧ HOk P w H' s'.heap ∧ RelV v u ∧ Q v H'
def CR (CX : CXT) (outer : List Env) (P : Program) (w : World) (H : Hp) (s : Shared) (Q : VK) (E : XK) (r : Result) (s' : Shared) : Prop :=
  match r with
  | .ok (.ret u) => CE outer P w H s Q u s'
  | .ok _ => False
  | .error e => CX outer H s E e s'
structure FnOk (P : Program) (w : World) (K : PySem.W.Frag) (mg : Str → Option Value) (base : Heap) (CX : CXT) (k : Nat) (f : Addr) (fd : FuncData) (ps : List Str) (sp : Sp) : Prop where
  len : ∀ vs H Q E, sp vs H Q E → vs.length = ps.length
  run : ∀ (A : Around) (outer : List Env) (s : Shared) (H : Hp) (args : Args) (us : List Value) (vs : List V) (Q : VK) (E : XK), Room k A → Env0 P w K mg base A outer s H → BindsTo s fd args (ps.zip us) → Vals vs us → sp vs H Q E →
    codeAny (model P w) A (.call (.ref f) args) (CR CX outer P w H s Q E) s
theorem FnOk.mono {P : Program} {w : World} {K : PySem.W.Frag} {mg : Str → Option Value} {base : Heap} {CX : CXT} {j k : Nat} {f : Addr} {fd : FuncData} {ps : List Str} {sp : Sp} (F : FnOk P w K mg base CX j f fd ps sp) (h : j ≤ k) :
    FnOk P w K mg base CX k f fd ps sp := ⟨F.len, fun A outer s H args us vs Q E hr => F.run A outer s H args us vs Q E (hr.mono h)⟩
theorem Env0.make {P : Program} {w : World} {K : PySem.W.Frag} {mg : Str → Option Value} {base : Heap} {A : Around} {outer : List Env} {s : Shared} {H : Hp} (e : Env0 P w K mg base A outer s H) (C : Addr) (us : List Value) (kw : List (Str × Value)) :
    Env0 P w K mg base (A.under (.builtin "type.__call__" ⟨.ref C :: us, kw⟩)) outer s H := ⟨by first | exact e.frames | (simpa [Around.under, Code.envs, Code.isFrame, pushEnvs] using e.frames), e.mod, e.bs, e.bsz, e.funs, e.frf, e.hok, e.bare⟩
section
variable {X : Cx} {pins : List (Addr × Obj)} {σ : St} {H : Hp} {s s' : Shared}
theorem Inv.env0 (I : Inv X pins σ H s) : Env0 X.prog X.w X.K X.mg X.base X.A X.stack s H :=
  ⟨I.ok.frames, I.ok.mod, I.bs, Nat.le_trans I.ok.bsz I.sz, I.stack, I.stkFree, I.hok, I.bare⟩
theorem Inv.after {Q : VK} {u : Value} (I : Inv X pins σ H s) (h : CE X.stack X.prog X.w H s Q u s') : EP X pins σ Q u s' := by
  obtain ⟨v, H', os, bare, un, hok, r, q⟩ := h
  obtain ⟨hh, g, d, t, os'⟩ := s'
  obtain rfl : os' = s.os := os
  exact ⟨v, H', I.call (h' := hh) (g' := g) (d' := d) (t' := t) (ch := []) un hok bare (fun b z => absurd z (by simp)), r, q⟩
end
def tCall (sp : Sp) (dvs : List V) (E : XK) (t : TA) : TE := fun σ H Q => t σ H fun vs H1 => sp (vs ++ dvs) H1 Q E
def tMeth (C : Addr) (m : Str) (sp : Sp) (dvs : List V) (E : XK) (ta : TE) (t : TA) : TE := fun σ H Q => ta σ H fun x H1 => ∃ a dx fs, x = .ref a ∧ H1 a = some (.ins C dx fs) ∧ fs.lookup m = none ∧
  t σ H1 fun vs H2 => sp (x :: (vs ++ dvs)) H2 Q E
def tMake (C : Addr) (sp : Sp) (dvs : List V) (E : XK) (t : TA) : TE := fun σ H Q => t σ H fun vs H1 => ∀ x dx, H1 x = none → H1 dx = none → dx ≠ x →
  sp (.ref x :: (vs ++ dvs)) (upd (upd H1 dx (.own x)) x (.ins C dx [])) (fun v H2 => v = .non ∧ Q (.ref x) H2) E
def Binds (K : PySem.W.Frag) (fd : FuncData) (ps : List Str) (ds : List Value) : Prop :=
  ∀ (s : Shared) (us : List Value), K.In s.heap → (us ++ ds).length = ps.length → BindsTo s fd ⟨us, []⟩ (ps.zip (us ++ ds))
theorem Binds.all {K : PySem.W.Frag} {fd : FuncData} {ps : List Str} (h : ∀ us : List Value, us.length = ps.length → bindArgs fd ⟨us, []⟩ = pure (ps.zip us)) : Binds K fd ps [] := fun s us _ hl => by
  rw [List.append_nil] at hl ⊢
  exact .of_eq (h us hl)
def Passes (CX : CXT) (X : Cx) (E : XK) : Prop := ∀ (pins : List (Addr × Obj)) (σ : St) (H : Hp) (s : Shared) (e : Value) (s' : Shared), Inv X pins σ H s → CX X.stack H s E e s' → X.xe e s'
section
variable {X : Cx} {CX : CXT} {k : Nat} {f C : Addr} {fd : FuncData} {ps : List Str} {sp : Sp} {dvs : List V} {ds : List Value} {E : XK} {x m : Str} {p pos apos : Pos} {e o : Expr} {es : List Expr} {ta : TE} {t : TA}
theorem run_fn {pins : List (Addr × Obj)} {σ : St} {H : Hp} {s : Shared} {Q : VK} {us : List Value} {vs : List V} (F : FnOk X.prog X.w X.K X.mg X.base CX k f fd ps sp) (hr : Room k X.A) (hb : Binds X.K fd ps ds) (hd : Vals dvs ds) (hx : Passes CX X E)
    (I : Inv X pins σ H s) (r : Vals vs us) (h : sp (vs ++ dvs) H Q E) : wpAny (model X.prog X.w) X.A (call (.ref f) us) (EP X pins σ Q) X.xe s := by
  have r2 : Vals (vs ++ dvs) (us ++ ds) := r.append hd
  have hl : (us ++ ds).length = ps.length := by rw [← r2.length]; exact F.len _ _ _ _ h
  refine wpAny_call (codeAny_mono (F.run X.A X.stack s H ⟨us, []⟩ (us ++ ds) (vs ++ dvs) Q E hr I.env0 (hb s us I.kIn hl) r2 h) fun r s' hq => ?_)
  cases r with
  | error e => exact hx pins σ H s e s' I hq
  | ok fl =>
    cases fl with
    | ret u => exact I.after hq
    | next => exact False.elim hq
    | brk => exact False.elim hq
    | cont => exact False.elim hq
theorem pe_call (F : FnOk X.prog X.w X.K X.mg X.base CX k f fd ps sp) (hr : Room k X.A) (hg : Gl X x) (hm : X.mg x = some (.ref f)) (hk : PySem.W.keepIn X.K (.ref f) = true) (hb : Binds X.K fd ps ds) (hd : Vals dvs ds) (hx : Passes CX X E)
    (ha : PA X (e :: es) t) (hdb : (x == ("__debug__" : Str)) = false := by decide) (he : starEach (e :: es) X.env = (false, eval e X.env) :: starEach es X.env := by rfl) (hpl : (backTo pos (starEach es X.env)).any (·.1) = false := by rfl) :
    PE X (.Call (.Name x p) (e :: es) [] pos) (tCall sp dvs E t) := by
  intro pins s σ H Q I h
  refine wpAny_Call_Name_kw (ld_glob I hg hm ?_ hdb)
  refine PySem.W.callWith_K (h₀ := X.base) I.ok.mod.kin hk (thn (ha pos pins s σ H _ I h) fun us s1 ⟨vs, H1, I1, r, q⟩ => ⟨I1.kIn, ?_⟩) he hpl
  exact run_fn F hr hb hd hx I1 r q
theorem pe_meth {pl : Sem Bool} (he : PE X o ta) (c : Cls X.K C) (hm : Meth X.K C m f) (F : FnOk X.prog X.w X.K X.mg X.base CX k f fd ps sp) (hr : Room k X.A) (hb : Binds X.K fd ps ds) (hd : Vals dvs ds) (hx : Passes CX X E) (ha : PA X (e :: es) t)
    (hst : starEach (e :: es) X.env = (false, eval e X.env) :: starEach es X.env := by rfl) (hpl : (backTo pos (starEach es X.env)).any (·.1) = false := by rfl)
    (ht : eval (.Call (.Attribute o m apos) (e :: es) [] pos) X.env = (do
      let ov ← eval o X.env
      standAt apos.atName
      let (f, first) ← holding [ov] (getMethod ov m pl)
      callWith pos f first (backTo pos (starEach (e :: es) X.env)) (backToKw pos (keywordEach [] X.env))) := by rfl) :
    PE X (.Call (.Attribute o m apos) (e :: es) [] pos) (tMeth C m sp dvs E ta t) := by
  intro pins s σ H Q I h
  refine PySem.W.methodCall_KW (pl := pl) (thn (he pins s σ H _ I h) fun u s1 ⟨x, H1, I1, rx, a, dx, fs, ex, ea, l, q⟩ => ?_) ht
  subst ex
  obtain rfl : u = Value.ref a := rx
  refine getmeth_ok I1 ea c hm l ?_
  refine PySem.W.callWith_K (first := [.ref a]) (h₀ := X.base) I.ok.mod.kin hm.kp (thn (ha pos pins s1 σ H1 _ I1 q) fun us s2 ⟨vs, H2, I2, r, q2⟩ => ⟨I2.kIn, ?_⟩) hst hpl
  exact run_fn (us := .ref a :: us) (vs := .ref a :: vs) F hr hb hd hx I2 (.cons rfl r) q2
theorem pe_meth0 {pl : Sem Bool} (he : PE X o ta) (c : Cls X.K C) (hm : Meth X.K C m f) (F : FnOk X.prog X.w X.K X.mg X.base CX k f fd ps sp) (hr : Room k X.A) (hb : Binds X.K fd ps ds) (hd : Vals dvs ds) (hx : Passes CX X E)
    (ht : eval (.Call (.Attribute o m apos) [] [] pos) X.env = (do
      let ov ← eval o X.env
      standAt apos.atName
      let (f, first) ← holding [ov] (getMethod ov m pl)
      callWith pos f first (backTo pos (starEach [] X.env)) (backToKw pos (keywordEach [] X.env))) := by rfl) :
    PE X (.Call (.Attribute o m apos) [] [] pos) (tMeth C m sp dvs E ta tNil) := by
  intro pins s σ H Q I h
  refine PySem.W.methodCall_KW (pl := pl) (thn (he pins s σ H _ I h) fun u s1 ⟨x, H1, I1, rx, a, dx, fs, ex, ea, l, q⟩ => ?_) ht
  subst ex
  obtain rfl : u = Value.ref a := rx
  refine getmeth_ok I1 ea c hm l ?_
  exact PySem.W.callWith_K0 (first := [.ref a]) I1.kIn hm.kp (run_fn (us := [.ref a]) (vs := [.ref a]) F hr hb hd hx I1 (.cons rfl .nil) q)
structure Mk (K : PySem.W.Frag) (C f : Addr) : Prop where
  makes : PySem.W.makesIn K C = true
  init : PySem.W.findIn K (.ref C) "__init__" = some (some (.ref f))
  fn : PySem.W.isFn K (.ref f) = true
  kp : PySem.W.keepIn K (.ref C) = true
theorem run_make {pins : List (Addr × Obj)} {σ : St} {H : Hp} {s : Shared} {Q : VK} {us : List Value} {vs : List V} (M : Mk X.K C f) (F : FnOk X.prog X.w X.K X.mg X.base CX k f fd ps sp) (hr : Room (k + 1) X.A) (hb : Binds X.K fd ps ds) (hd : Vals dvs ds)
    (hx : Passes CX X E) (I : Inv X pins σ H s) (r : Vals vs us)
    (h : ∀ x dx, H x = none → H dx = none → dx ≠ x → sp (.ref x :: (vs ++ dvs)) (upd (upd H dx (.own x)) x (.ins C dx [])) (fun v H2 => v = .non ∧ Q (.ref x) H2) E) :
    wpAny (model X.prog X.w) X.A (call (.ref C) us) (EP X pins σ Q) X.xe s := by
  have hq := h (s.heap.objs.size + 1) s.heap.objs.size (I.hok.fresh (Nat.le_succ _)) (I.hok.fresh (Nat.le_refl _)) (Nat.ne_of_lt (Nat.lt_succ_self _))
  have I2 := Inv.made (C := C) I
  have r2 : Vals (V.ref (s.heap.objs.size + 1) :: (vs ++ dvs)) (Value.ref (s.heap.objs.size + 1) :: (us ++ ds)) := .cons rfl (r.append hd)
  have hl : (Value.ref (s.heap.objs.size + 1) :: us ++ ds).length = ps.length := by
    have e := r2.length
    rw [F.len _ _ _ _ hq] at e
    exact e.symm
  refine wpAny_call (make_map (f := f) I.kIn M.makes M.init (beq_iff_eq.mp M.fn) (codeAny_mono (F.run _ X.stack _ _ ⟨Value.ref (s.heap.objs.size + 1) :: us, []⟩ (Value.ref (s.heap.objs.size + 1) :: (us ++ ds)) _ _ E (hr.make C us [])
    (I2.env0.make C us []) (hb _ (Value.ref (s.heap.objs.size + 1) :: us) I2.kIn hl) r2 hq) fun r s' hq' => ?_))
  cases r with
  | error e => exact hx pins σ _ _ e s' I2 hq'
  | ok fl =>
    cases fl with
    | ret u =>
      obtain ⟨v, H', I3, rv, ev, q3⟩ := I2.after hq'
      subst ev
      exact ⟨rv, ⟨V.ref (s.heap.objs.size + 1), H', I3, rfl, q3⟩⟩
    | next => exact False.elim hq'
    | brk => exact False.elim hq'
    | cont => exact False.elim hq'
theorem pe_make (M : Mk X.K C f) (F : FnOk X.prog X.w X.K X.mg X.base CX k f fd ps sp) (hr : Room (k + 1) X.A) (hg : Gl X x) (hm : X.mg x = some (.ref C)) (hb : Binds X.K fd ps ds) (hd : Vals dvs ds) (hx : Passes CX X E)
    (ha : PA X (e :: es) t) (hdb : (x == ("__debug__" : Str)) = false := by decide) (he : starEach (e :: es) X.env = (false, eval e X.env) :: starEach es X.env := by rfl) (hpl : (backTo pos (starEach es X.env)).any (·.1) = false := by rfl) :
    PE X (.Call (.Name x p) (e :: es) [] pos) (tMake C sp dvs E t) := by
  intro pins s σ H Q I h
  refine wpAny_Call_Name_kw (ld_glob I hg hm ?_ hdb)
  refine PySem.W.callWith_K (h₀ := X.base) I.ok.mod.kin M.kp (thn (ha pos pins s σ H _ I h) fun us s1 ⟨vs, H1, I1, r, q⟩ => ⟨I1.kIn, ?_⟩) he hpl
  exact run_make M F hr hb hd hx I1 r q
end
section
variable {X : Cx} {CX : CXT} {k : Nat} {f C : Addr} {fd : FuncData} {ps ks : List Str} {sp : Sp} {E : XK} {x m : Str} {p pos apos kpos : Pos} {e o : Expr} {es : List Expr} {kws : List Keyword} {te ta : TE} {t tk : TA} {nm : Option Str}
variable {g : List Value → List Value → List Value} {gV : List V → List V → List V}
end
structure FnScope (N P : List Str) (sc : Scope) : Prop where
  kind : sc.kind = .function
  co : sc.isCoroutine = false
  gen : sc.isGenerator = false
  nd : N.Nodup
  pre : N.take P.length = P
  par : ∀ x ∈ P, sc.names.lookup x = some .local ∨ sc.names.lookup x = some .cell
  nofree : ∀ y ∈ sc.names, y.2 ≠ .free
theorem bindL_out {kindOf : Str → Option NameKind} {x : Str} : ∀ {binds : List (Str × Value)} {m : Str → Option Value}, (∀ v, (x, v) ∉ binds) → bindL kindOf binds m x = m x
  | [], _, _ => rfl
  | (n, v) :: r, m, h => by
    unfold bindL
    rw [bindL_out fun w hw => h w (List.mem_cons_of_mem _ hw)]
    split
    · have : x ≠ n := by rintro rfl; exact h v List.mem_cons_self
      simp [this]
    · rfl
theorem bindC_out {kindOf : Str → Option NameKind} {x : Str} : ∀ {binds : List (Str × Value)} {m : Str → Option Value}, (∀ v, (x, v) ∉ binds) → bindC kindOf binds m x = m x
  | [], _, _ => rfl
  | (n, v) :: r, m, h => by
    unfold bindC
    rw [bindC_out fun w hw => h w (List.mem_cons_of_mem _ hw)]
    split
    · rfl
    · have : x ≠ n := by rintro rfl; exact h v List.mem_cons_self
      simp [this]
theorem bindL_get {kindOf : Str → Option NameKind} {x : Str} {v : Value} : ∀ {P : List Str} {vs : List Value} {i : Nat} {m : Str → Option Value}, P.Nodup → P[i]? = some x → vs[i]? = some v → kindOf x = some .local →
    bindL kindOf (P.zip vs) m x = some v
  | [], _, _, _, _, h, _, _ => by simp at h
  | _ :: _, [], _, _, _, _, h, _ => by simp at h
  | p :: P, w :: vs, 0, m, nd, h1, h2, hk => by
    simp at h1 h2; subst h1; subst h2
    show bindL kindOf ((p, w) :: P.zip vs) m p = _
    unfold bindL
    rw [bindL_out fun v hv => (List.nodup_cons.mp nd).1 (List.of_mem_zip hv).1, if_pos hk]
    simp
  | p :: P, w :: vs, i + 1, m, nd, h1, h2, hk => by
    show bindL kindOf ((p, w) :: P.zip vs) m x = _
    unfold bindL
    exact bindL_get (i := i) (List.nodup_cons.mp nd).2 (by simpa using h1) (by simpa using h2) hk
theorem bindC_get {kindOf : Str → Option NameKind} {x : Str} {v : Value} : ∀ {P : List Str} {vs : List Value} {i : Nat} {m : Str → Option Value}, P.Nodup → P[i]? = some x → vs[i]? = some v → kindOf x ≠ some .local →
    bindC kindOf (P.zip vs) m x = some v
  | [], _, _, _, _, h, _, _ => by simp at h
  | _ :: _, [], _, _, _, _, h, _ => by simp at h
  | p :: P, w :: vs, 0, m, nd, h1, h2, hk => by
    simp at h1 h2; subst h1; subst h2
    show bindC kindOf ((p, w) :: P.zip vs) m p = _
    unfold bindC
    rw [bindC_out fun v hv => (List.nodup_cons.mp nd).1 (List.of_mem_zip hv).1, if_neg hk]
    simp
  | p :: P, w :: vs, i + 1, m, nd, h1, h2, hk => by
    show bindC kindOf ((p, w) :: P.zip vs) m x = _
    unfold bindC
    exact bindC_get (i := i) (List.nodup_cons.mp nd).2 (by simpa using h1) (by simpa using h2) hk
def start (N : List Str) (vs : List V) : St := vs.map some ++ List.replicate (N.length - vs.length) none
def cxOf (CX : CXT) (P : Program) (w : World) (K : PySem.W.Frag) (mg : Str → Option Value) (base : Heap) (N : List Str) (qual : Str) (scope : Scope) (f : Addr) (cd : Value) (A : Around) (outer : List Env) (s : Shared) (H : Hp) (E : XK) : Cx where
  prog := P
  w := w
  K := K
  mg := mg
  base := base
  A := A.deeper (envOfC qual scope s.heap.objs.size f cd)
  N := N
  s₀ := s
  H₀ := H
  env := envOfC qual scope s.heap.objs.size f cd
  outer := outer
  stack := envOfC qual scope s.heap.objs.size f cd :: outer
  ex := []
  calm := true
  fn := fun _ => true
  pn := []
  xe := fun e s' => wpAny (model P w) (A.deeper (envOfC qual scope s.heap.objs.size f cd)) (leaving (envOfC qual scope s.heap.objs.size f cd) e) (fun _ s'' => CX outer H s E e s'') (fun e' s'' => CX outer H s E e' s'') s'
theorem cell_has {sc : Scope} {n : Nat} {x : Str} (h : sc.names.lookup x = some .cell) : ∃ c, (cellsFrom n sc.names []).lookup x = some c := by
  have q := PySem.W.cellsFrom_some sc.names n [] (.inl h)
  exact Option.isSome_iff_exists.mp q
theorem inv_start {CX : CXT} {P : Program} {w : World} {K : PySem.W.Frag} {mg : Str → Option Value} {base : Heap} {N ps : List Str} {qual : Str} {scope : Scope} {f : Addr} {cd : Value} {A : Around} {outer : List Env} {s s1 : Shared} {H : Hp} {E : XK} {us : List Value} {vs : List V}
    (S : FnScope N ps scope) (hd : A.handled = none) (e0 : Env0 P w K mg base A outer s H) (hl : vs.length = ps.length) (r : Vals vs us)
    (x : InCallC s s.heap.objs.size (bindL (envOfC qual scope s.heap.objs.size f cd).kindOf (ps.zip us) fun _ => none) (cellsFrom (s.heap.objs.size + 1) scope.names []) (bindC (envOfC qual scope s.heap.objs.size f cd).kindOf (ps.zip us) fun _ => none) s1) :
    Inv (cxOf CX P w K mg base N qual scope f cd A outer s H E) [] (start N vs) H s1 := by
  have hpl : ps.length ≤ N.length := by have := congrArg List.length S.pre; rw [List.length_take] at this; omega
  obtain ⟨h1, tk, rfl, hk⟩ := x.done
  have noA : ∀ b : Addr, b ∉ (cxOf CX P w K mg base N qual scope f cd A outer s H E).ex := fun b z => absurd (show b ∈ ([] : List Addr) from z) (by simp)
  refine ⟨⟨e0.mod, S.kind, rfl, rfl, Nat.le_refl _, fun y z c h1 h2 => ?_, fun y hy => ?_, fun y c _ h => ?_, fun _ => hd, Around.frames_deeper e0.frames, .inr ⟨rfl, rfl⟩, fun b z => absurd z (noA b), e0.bs, e0.bsz, fun b _ _ => noA b, fun b z => absurd z (noA b), e0.funs, e0.frf⟩,
    rfl, e0.bare, Un.kept hk, ⟨_, x.toInCall.ns, fun i y v h1 h2 h3 => ?_⟩, fun y c h => ⟨_, x.cell y c h⟩, e0.hok.fresh (Nat.le_refl _), fun y c h => ?_, fun p hp => absurd (show p ∈ ([] : List (Addr × Obj)) from hp) (by simp), e0.hok.kept hk, ?_⟩
  · exact name_of_addr x.apart (PySem.mem_of_lookup h1) (PySem.mem_of_lookup h2)
  · have hy : scope.names.lookup y = some .cell ∨ scope.names.lookup y = some .free := hy
    rcases hy with hy | hy
    · exact cell_has hy
    · exact absurd rfl (S.nofree _ (PySem.mem_of_lookup hy))
  · exact Nat.le_of_lt (x.above y c (PySem.mem_of_lookup h))
  · have hi : i < vs.length := by
      unfold start at h2
      by_cases hi : i < vs.length
      · exact hi
      · rw [List.getElem?_append_right (by simpa using hi)] at h2
        rw [List.getElem?_replicate] at h2
        split at h2 <;> cases h2
    have ha : vs[i]? = some v := by
      unfold start at h2
      rw [List.getElem?_append_left (by simpa using hi), List.getElem?_map] at h2
      cases e : vs[i]? with
      | none => rw [e] at h2; cases h2
      | some a => rw [e] at h2; cases h2; rfl
    obtain ⟨u, hu, rv⟩ := r.get ha
    have hp : ps[i]? = some y := by
      rw [← S.pre, List.getElem?_take_of_lt (by omega)]; exact h1
    have ndP : ps.Nodup := by rw [← S.pre]; exact S.nd.sublist (List.take_sublist _ _)
    refine ⟨u, rv, ?_⟩
    rcases S.par y (List.mem_of_getElem? hp) with k | k
    · exact .inl ⟨k, bindL_get ndP hp hu k⟩
    · obtain ⟨c, e⟩ := cell_has (n := s.heap.objs.size + 1) k
      refine .inr ⟨.inl k, c, e, ?_⟩
      have q := x.cell y c e
      rw [bindC_get ndP hp hu (by show scope.names.lookup y ≠ _; rw [k]; decide)] at q
      exact q
  · exact e0.hok.fresh (Nat.le_of_lt (x.above y c (PySem.mem_of_lookup h)))
  · unfold start
    show _ = N.length
    rw [List.length_append, List.length_map, List.length_replicate]
    omega
theorem fn_of {CX : CXT} {P : Program} {w : World} {K : PySem.W.Frag} {mg : Str → Option Value} {base : Heap} {k : Nat} {f : Addr} {name qual : Str} {params : Arguments} {body : List Stmt} {scope : Scope} {dV kV doc pm cdv ct oc : Value} {an od : Option Addr}
    {osl : Array (Option Value)} {N ps : List Str} {sp : Sp} (lk : K.lookup f = some ⟨oc, od, .func (PySem.W.fnOf name qual params body scope dV kV doc pm an cdv ct), osl⟩) (hcd : PySem.W.codeIn K cdv qual = true) (S : FnScope N ps scope)
    (len : ∀ vs H Q E, sp vs H Q E → vs.length = ps.length)
    (hbody : ∀ (A : Around) (outer : List Env) (s : Shared) (H : Hp) (vs : List V) (Q : VK) (E : XK), Room k (A.deeper (envOfC qual scope s.heap.objs.size f cdv)) → sp vs H Q E →
      ∃ t, PSs (cxOf CX P w K mg base N qual scope f cdv A outer s H E) body t ∧ t { nx := fun _ H' => Q .non H', rt := Q } (start N vs) H) :
    FnOk P w K mg base CX (k + 1) f (PySem.W.fnOf name qual params body scope dV kV doc pm an cdv ct) ps sp := by
  refine ⟨len, fun A outer s H args us vs Q E hr e0 hb r hsp => ?_⟩
  have hl := len _ _ _ _ hsp
  have KX : K.In s.heap := e0.mod.kin.keeps fun b o e => (e0.bs b o e).1
  have lim : s.heap.NoLimit := e0.mod.nolimit.keeps fun b o e => (e0.bs b o e).1
  have hkind : ∀ y ∈ ps.zip us, scope.names.lookup y.1 = some .local ∨ (scope.names.lookup y.1 = some .cell ∧ ((cellsFrom (s.heap.objs.size + 1) scope.names []).lookup y.1).isSome = true) := fun ⟨n, v⟩ hy => by
    rcases S.par n (List.of_mem_zip hy).1 with q | q
    · exact .inl q
    · exact .inr ⟨q, PySem.W.cellsFrom_some _ _ _ (.inl q)⟩
  refine codeAny_call_function hr.depth (KX _ _ lk) rfl S.co S.gen rfl (PySem.W.codeRec_of KX hcd) (hb _ _ _ _ ?_)
  refine wpAny_newFunctionEnv_cells S.kind hkind fun env he s1 x => ?_
  subst he
  refine ⟨lim.keeps x.toInCall.keep, codeAny_func ?_⟩
  obtain ⟨t, ht, hq⟩ := hbody A outer s H vs Q E (hr.deeper _) hsp
  have I : Inv (cxOf CX P w K mg base N qual scope f cdv A outer s H E) [] (start N vs) H s1 := inv_start S hr.hd e0 hl r x
  refine wpAny_mono (ht [] s1 (start N vs) H _ I hq) (fun fl s' hs => ?_) fun e s' hs => hs
  have fin : ∀ {σ' : St} {H' : Hp} {v : V} {u : Value}, Inv (cxOf CX P w K mg base N qual scope f cdv A outer s H E) [] σ' H' s' → RelV v u → Q v H' → CE outer P w H s Q u s' :=
    fun {σ' H' v u} J rv q => ⟨v, H', J.os, J.bare, J.base, J.hok, rv, q⟩
  cases fl with
  | ret u =>
    obtain ⟨v, σ', H', J, rv, q⟩ := hs
    exact fin J rv q
  | next =>
    obtain ⟨σ', H', J, q⟩ := hs
    exact fin (v := V.non) (u := Value.none) J rfl q
  | brk =>
    obtain ⟨_, _, _, q⟩ := hs
    exact False.elim q
  | cont =>
    obtain ⟨_, _, _, q⟩ := hs
    exact False.elim q
end L2
namespace L2
open PySem PySem.Spec PyProof.Rows
section
variable {X : Cx} {x : Str} {p pos : Pos} {e : Expr} {es : List Expr} {t : TA} {id T : String} {r : List V → Hp → VK → Prop}
def tCB (r : List V → Hp → VK → Prop) (t : TA) : TE := fun σ H Q => t σ H fun vs H1 => r vs H1 Q
theorem pe_callB (hc : CallR X (.builtin id) r) (hg : Gl X x) (hm : X.mg x = none) (hv : bootBuiltins x = some (.builtin id)) (ha : PA X (e :: es) t) (hn : x ≠ "__name__" := by decide) (hdb : (x == ("__debug__" : Str)) = false := by decide)
    (he : starEach (e :: es) X.env = (false, eval e X.env) :: starEach es X.env := by rfl) (hpl : (backTo pos (starEach es X.env)).any (·.1) = false := by rfl) : PE X (.Call (.Name x p) (e :: es) [] pos) (tCB r t) := by
  intro pins s σ H Q I h
  refine wpAny_Call_Name_kw (ld_blt I hg hm hv ?_ hn hdb)
  exact PyProof.Rows.callWith_builtin1 (thn (ha pos pins s σ H _ I h) fun us s1 ⟨vs, H1, I1, r1, q1⟩ => hc pins s1 σ H1 vs us Q I1 r1 q1) he hpl
theorem pe_callTy (hc : CallR X (.type T) r) (hg : Gl X x) (hm : X.mg x = none) (hv : bootBuiltins x = some (.type T)) (ha : PA X (e :: es) t) (hn : x ≠ "__name__" := by decide) (hdb : (x == ("__debug__" : Str)) = false := by decide)
    (he : starEach (e :: es) X.env = (false, eval e X.env) :: starEach es X.env := by rfl) (hpl : (backTo pos (starEach es X.env)).any (·.1) = false := by rfl) : PE X (.Call (.Name x p) (e :: es) [] pos) (tCB r t) := by
  intro pins s σ H Q I h
  refine wpAny_Call_Name_kw (ld_blt I hg hm hv ?_ hn hdb)
  exact PyProof.Rows.callWith_type1 (thn (ha pos pins s σ H _ I h) fun us s1 ⟨vs, H1, I1, r1, q1⟩ => hc pins s1 σ H1 vs us Q I1 r1 q1) he hpl
end
end L2
namespace HT
open PySem PyProof.Rows
section
open PySem.SeqAt
open PySem.AutoSeq1 (wpAny_loadPart')
open PySem.MeetsSeq PySem.MeetsSeq2 PySem.MeetsSeq3
end
section
variable {prog : Program} {w : World} {A : Around} {E : Value → Shared → Prop} {s : Shared}
def sIx (n d : Nat) : Option Int → Nat
  | none => d
  | some v => if v < 0 then (v + (n : Int)).toNat else min v.toNat n
theorem sIx_none (n d : Nat) : sIx n d none = d := rfl
theorem sIx_nat (n d k : Nat) : sIx n d (some (k : Int)) = min k n := by
  show (if (k : Int) < 0 then ((k : Int) + (n : Int)).toNat else min (k : Int).toNat n) = min k n
  rw [if_neg (by omega), Int.toNat_natCast]
theorem sIx_le (n d : Nat) (hd : d ≤ n) (o : Option Int) : sIx n d o ≤ n := by
  cases o with
  | none => exact hd
  | some v =>
    show (if v < 0 then (v + (n : Int)).toNat else min v.toNat n) ≤ n
    by_cases hv : v < 0
    · rw [if_pos hv]; omega
    · rw [if_neg hv]; exact Nat.min_le_right _ _
end
end HT
namespace L2
open PySem PySem.Spec PyProof.Rows
abbrev TO := St → Hp → (Option Int → Hp → Prop) → Prop
def PO (X : Cx) (e : Option Expr) (t : TO) : Prop :=
  ∀ (pins : List (Addr × Obj)) (s : Shared) (σ : St) (H : Hp) (Q : Option Int → Hp → Prop), Inv X pins σ H s → t σ H Q →
    wpAny (model X.prog X.w) X.A (evalPart e X.env) (fun u s' => ∃ o H', Inv X pins σ H' s' ∧ IsPart u o ∧ Q o H') X.xe s
def tNoPart : TO := fun _ H Q => Q none H
def tPart (t : TE) : TO := fun σ H Q => t σ H fun x H1 => ∃ i, x = .int i ∧ Q (some i) H1
section
variable {X : Cx} {e : Expr} {te : TE} {lo hi : Option Expr} {tl th : TO} {pos p2 : Pos}
theorem po_none : PO X none tNoPart := by
  intro pins s σ H Q I h
  rw [evalPart_none]
  exact wpAny_pure ⟨none, H, I, .none, h⟩
theorem po_some (h : PE X e te) : PO X (some e) (tPart te) := by
  intro pins s σ H Q I hw
  rw [evalPart_some]
  refine thn (h pins s σ H _ I hw) fun u s1 ⟨x, H1, I1, r1, q1⟩ => ?_
  obtain ⟨i, rfl, q⟩ := q1
  obtain ⟨t, rfl⟩ := r1
  exact ⟨some i, H1, I1, .int i t, q⟩
def SlR (X : Cx) (r : V → Option Int → Option Int → Hp → VK → Prop) : Prop :=
  ∀ (pins : List (Addr × Obj)) (s : Shared) (σ : St) (H : Hp) (x : V) (v vl vu : Value) (lo hi : Option Int) (sl : Addr) (Q : VK), Inv X pins σ H s → RelV x v → s.heap.IsSliceOf sl vl vu .none → IsPart vl lo → IsPart vu hi → r x lo hi H Q →
    ∃ T id, typeLookup (.type T) "__getitem__" = pure (some (.builtin id)) ∧ s.TypeIs v T ∧ wpAny (model X.prog X.w) X.A (getItem v (.ref sl)) (EP X pins σ Q) X.xe s
def tSl (r : V → Option Int → Option Int → Hp → VK → Prop) (te : TE) (tl th : TO) : TE := fun σ H Q => te σ H fun x H1 => tl σ H1 fun l H2 => th σ H2 fun u H3 => r x l u H3 Q
theorem pe_slice {r : V → Option Int → Option Int → Hp → VK → Prop} (hr : SlR X r) (he : PE X e te) (hl : PO X lo tl) (hu : PO X hi th) : PE X (.Subscript e (.Slice lo hi none p2) pos) (tSl r te tl th) := by
  intro pins s σ H Q I h
  refine Subscript_ (thn (he pins s σ H _ I h) fun v s1 ⟨x, H1, I1, r1, q1⟩ => ?_)
  refine wpAny_Slice (thn (hl pins s1 σ H1 _ I1 q1) fun vl s2 ⟨l, H2, I2, pl, q2⟩ => thn (hu pins s2 σ H2 _ I2 q2) fun vu s3 ⟨u, H3, I3, pu, q3⟩ => ?_)
  rw [evalPart_none]
  refine wpAny_pure ?_
  have I4 : Inv X pins σ H3 { s3 with heap := s3.heap.push { cls := .type "slice", data := .fields #[vl, vu, .none] } } := I3.kept (t' := s3.toks) fun b ob q => Heap.get?_push_of_some _ q
  obtain ⟨T, id, hT, ht, hg⟩ := hr pins { s3 with heap := s3.heap.push { cls := .type "slice", data := .fields #[vl, vu, .none] } } σ H3 x v vl vu l u s3.heap.objs.size Q I4 r1 (Heap.IsSliceOf.new ..) pl pu q3
  show wpAny (model X.prog X.w) X.A (subscriptTail e (.Slice lo hi none p2) v (.ref s3.heap.objs.size)) (EP X pins σ Q) X.xe { s3 with heap := s3.heap.push { cls := .type "slice", data := .fields #[vl, vu, .none] } }
  exact tail_any (ops := [.ref s3.heap.objs.size, v]) ht hT hg (by with_unfolding_all rfl)
def cutV (xs : List V) (lo hi : Option Int) : List V := (xs.drop (HT.sIx xs.length 0 lo)).take (HT.sIx xs.length xs.length hi - HT.sIx xs.length 0 lo)
theorem cutV_length (xs : List V) (lo hi : Option Int) : (cutV xs lo hi).length ≤ xs.length := by
  unfold cutV
  rw [List.length_take, List.length_drop]
  omega
end
end L2
namespace L2
open PySem PySem.Spec PyProof.Rows
def ixN (n : Nat) (i : Int) : Option Nat := if 0 ≤ i then (if i < n then some i.toNat else none) else if -(n : Int) ≤ i then some (i + n).toNat else none
def atI {α : Type} (xs : List α) (i : Int) : Option α := (ixN xs.length i).bind fun j => xs[j]?
theorem ixN_seq {n : Nat} {i : Int} {j : Nat} (h : ixN n i = some j) : seqIndex? i n = some j ∧ j < n ∧ -(n : Int) ≤ i ∧ i < n := by
  unfold ixN at h
  by_cases h0 : 0 ≤ i
  · rw [if_pos h0] at h
    by_cases h1 : i < n
    · rw [if_pos h1] at h
      have e : i.toNat = j := Option.some.inj h
      exact ⟨by rw [seqIndex_of h0 h1, e], by omega, by omega, h1⟩
    · rw [if_neg h1] at h; cases h
  · rw [if_neg h0] at h
    by_cases h1 : -(n : Int) ≤ i
    · rw [if_pos h1] at h
      have e : (i + n).toNat = j := Option.some.inj h
      exact ⟨by rw [seqIndex_neg (by omega) h1, e], by omega, h1, by omega⟩
    · rw [if_neg h1] at h; cases h
theorem atI_get {α : Type} {xs : List α} {i : Int} {v : α} (h : atI xs i = some v) : ∃ j, seqIndex? i xs.length = some j ∧ xs[j]? = some v ∧ j < xs.length ∧ -(xs.length : Int) ≤ i ∧ i < xs.length := by
  unfold atI at h
  cases e : ixN xs.length i with
  | none => rw [e] at h; cases h
  | some j =>
    rw [e] at h
    obtain ⟨h1, h2, h3, h4⟩ := ixN_seq e
    exact ⟨j, h1, h, h2, h3, h4⟩
theorem atI_nat {α : Type} {xs : List α} {j : Nat} {v : α} (h : xs[j]? = some v) : atI xs (j : Int) = some v := by
  have hj : j < xs.length := (List.getElem?_eq_some_iff.mp h).1
  have e : ixN xs.length (j : Int) = some j := by
    unfold ixN
    rw [if_pos (by omega), if_pos (by omega)]; simp
  unfold atI; rw [e]; exact h
def PlainIx (b : Expr) : Prop := ∀ o i, subscripted b false o i = operate [o, i] (getItem o i)
def IxR (X : Cx) (r : R2) : Prop :=
  ∀ (value slice : Expr) (pins : List (Addr × Obj)) (s : Shared) (σ : St) (H : Hp) (x y : V) (v u : Value) (Q : VK), Inv X pins σ H s → RelV x v → RelV y u → r x y H Q →
    subscripted slice false v u = operate [v, u] (getItem v u) → wpAny (model X.prog X.w) X.A (subscriptTail value slice v u) (EP X pins σ Q) X.xe s
def MtR (X : Cx) (id : String) (r : V → List V → Hp → VK → Prop) : Prop :=
  ∀ (pins : List (Addr × Obj)) (s : Shared) (σ : St) (H : Hp) (x : V) (xs : List V) (v : Value) (us : List Value) (Q : VK), Inv X pins σ H s → RelV x v → Vals xs us → r x xs H Q →
    wpAny (model X.prog X.w) X.A (call (.builtin id) (v :: us)) (EP X pins σ Q) X.xe s
section
variable {X : Cx} {a b : Expr} {ta tb : TE} {pos : Pos}
theorem pe_ix {r : R2} (hr : IxR X r) (ha : PE X a ta) (hb : PE X b tb) (hs : PlainIx b) : PE X (.Subscript a b pos) (tOp r ta tb) := by
  intro pins s σ H Q I h
  exact Subscript_ (binT ha hb I h fun v u s2 x y H2 I2 rx ry q => hr a b pins s2 σ H2 x y v u Q I2 rx ry q (hs _ _))
def rIxL (K : PySem.W.Frag) : R2 := fun x y H Q => ∃ p xs i v, x = .ref p ∧ y = .int i ∧ SqL K H p xs ∧ atI xs i = some v ∧ Q v H
def rIxT (K : PySem.W.Frag) : R2 := fun x y H Q => ∃ p xs i v, x = .ref p ∧ y = .int i ∧ SqT K H p xs ∧ atI xs i = some v ∧ Q v H
def rIxS : R2 := fun x y H Q => ∃ z i c, x = .str z ∧ y = .int i ∧ z.length ≤ sizeLine ∧ atI z.cps.toList i = some c ∧ Q (.str ⟨#[c]⟩) H
theorem ix_list : IxR X (rIxL X.K) := by
  intro value slice pins s σ H x y v u Q I rx ry h hs
  obtain ⟨p, xs, i, z, rfl, rfl, hq, he, q⟩ := h
  cases rx
  obtain ⟨t, rfl⟩ := ry
  obtain ⟨its, r, pl, hz⟩ := I.list hq
  obtain ⟨j, h1, h2, h3, h4, h5⟩ := atI_get he
  obtain ⟨w, ew, rw'⟩ := r.get h2
  have hl := r.length
  have hn := line63
  have fin : EP X pins σ Q w s := ⟨z, H, I, rw', q⟩
  by_cases h0 : 0 ≤ i
  · have hj : i.toNat = j := by
      rw [seqIndex_of h0 h5] at h1
      exact Option.some.inj h1
    exact item_listR pl.isList h0 (by omega) (by rw [hj]; simpa using ew) fin hs
  · have hj : (i + (its.toArray.size : Int)).toNat = j := by
      rw [seqIndex_neg (by omega) h4] at h1
      rw [List.size_toArray, ← hl]
      exact Option.some.inj h1
    exact subscriptTail_builtinR (x := w) pl.isList.typeIs slot_list_getitem.lookup
      (wpAny_getItem_list_neg (Q := fun r s' => r = w ∧ EP X pins σ Q r s') pl.isList (by omega) (by rw [List.size_toArray] <;> omega) (by omega) (by rw [hj]; simpa using ew) ⟨rfl, fin⟩) hs
theorem ix_tup : IxR X (rIxT X.K) := by
  intro value slice pins s σ H x y v u Q I rx ry h hs
  obtain ⟨p, xs, i, z, rfl, rfl, hq, he, q⟩ := h
  cases rx
  obtain ⟨t, rfl⟩ := ry
  obtain ⟨its, r, pl, hz⟩ := I.tuple hq
  obtain ⟨j, h1, h2, h3, h4, h5⟩ := atI_get he
  obtain ⟨w, ew, rw'⟩ := r.get h2
  have hl := r.length
  have hn := line63
  have fin : EP X pins σ Q w s := ⟨z, H, I, rw', q⟩
  exact subscriptTail_builtinR (x := w) pl.typeIs slot_tuple_getitem.lookup
    (getItem_tuple (j := j) (Q := fun r s' => r = w ∧ EP X pins σ Q r s') pl (by omega) (by omega) (by rw [List.size_toArray, ← hl]; exact h1) (by simpa using ew) ⟨rfl, fin⟩) hs
theorem ix_str : IxR X rIxS := by
  intro value slice pins s σ H x y v u Q I rx ry h hs
  obtain ⟨z, i, c, rfl, rfl, hz, he, q⟩ := h
  obtain ⟨t, rfl⟩ := rx
  obtain ⟨t', rfl⟩ := ry
  obtain ⟨j, h1, h2, h3, h4, h5⟩ := atI_get he
  have hl : z.cps.toList.length = z.length := by simp [Str.length]
  rw [hl] at h1 h4 h5
  have hn := line63
  exact tail_any (typeIs_str s z t) slot_str_getitem.lookup (getItem_str (c := c) (by
    have e1 : decide (i < -(2 ^ 63 : Int)) = false := decide_eq_false (by omega)
    have e2 : decide (i ≥ 2 ^ 63) = false := decide_eq_false (by omega)
    rw [e1, e2, Bool.or_false]) (by rw [h1]; simpa using h2) ⟨.str ⟨#[c]⟩, H, I.tok _, ⟨_, rfl⟩, q⟩) hs
theorem slice_bounds (lo hi : Option Int) (n : Nat) : (sliceBounds lo hi none n).1 = ((HT.sIx n 0 lo : Nat) : Int) ∧ (sliceBounds lo hi none n).2.1 = ((HT.sIx n n hi : Nat) : Int) ∧ (sliceBounds lo hi none n).2.2 = 1 := by
  refine ⟨?_, ?_, rfl⟩
  · cases lo with
    | none => simp [sliceBounds, HT.sIx]
    | some i =>
      simp only [sliceBounds, HT.sIx, Option.getD_none, show (1 : Int) > 0 by decide, if_true]
      by_cases h : i < 0
      · simp only [h, if_true] <;> omega
      · simp only [h, if_false] <;> omega
  · cases hi with
    | none => simp [sliceBounds, HT.sIx]
    | some i =>
      simp only [sliceBounds, HT.sIx, Option.getD_none, show (1 : Int) > 0 by decide, if_true]
      by_cases h : i < 0
      · simp only [h, if_true] <;> omega
      · simp only [h, if_false] <;> omega
theorem slicePick_cut (its : List Value) (lo hi : Option Int) : slicePick its.toArray lo hi none = ((its.drop (HT.sIx its.length 0 lo)).take (HT.sIx its.length its.length hi - HT.sIx its.length 0 lo)).toArray := by
  obtain ⟨h1, h2, h3⟩ := slice_bounds lo hi its.toArray.size
  unfold slicePick
  rw [h1, h2, h3]
  simp only [sliceRange_one, pick_run, List.size_toArray] <;> rfl
def rSlL (K : PySem.W.Frag) : V → Option Int → Option Int → Hp → VK → Prop := fun x lo hi H Q => ∃ a xs, x = .ref a ∧ SqL K H a xs ∧ ∀ p, H p = none → Q (.ref p) (upd H p (.lst (cutV xs lo hi)))
theorem sl_list : SlR X (rSlL X.K) := by
  intro pins s σ H x v vl vu lo hi sl Q I rx hs pl pu h
  obtain ⟨a, xs, rfl, hx, q⟩ := h
  cases rx
  obtain ⟨its, r, ht, hz⟩ := I.list hx
  have hlen := r.length
  refine ⟨"list", _, slot_list_getitem.lookup, ht.isList.typeIs, ?_⟩
  refine wpAny_getItem_list_slice ht.isList hs pl pu .none (by simp) ?_ (by rw [List.size_toArray] <;> omega)
  rw [slicePick_cut, ← hlen]
  refine ⟨.ref s.heap.objs.size, _, I.laid (t' := s.toks) (o := .lst (cutV xs lo hi)) (fun b ob q => Heap.get?_push_of_some _ q) (Nat.le_refl _) ?_, rfl, q _ (I.hok.fresh (Nat.le_refl _))⟩
  exact ⟨Nat.le_trans (cutV_length xs lo hi) hz, _, 0, (r.drop (HT.sIx xs.length 0 lo)).take (HT.sIx xs.length xs.length hi - HT.sIx xs.length 0 lo), Heap.get?_push_size _ rfl⟩
def flatV : V → Bool
  | .non => true
  | .bl _ => true
  | .int _ => true
  | .str _ => true
  | _ => false
def eqV : V → V → Bool
  | .non, .non => true
  | .bl a, .bl b => a == b
  | .bl a, .int b => (if a then 1 else 0) == b
  | .int a, .bl b => a == (if b then 1 else 0)
  | .int a, .int b => a == b
  | .str a, .str b => a == b
  | _, _ => false
theorem eqAt_V {A : Around} {s : Shared} {y x : V} {u v : Value} (ry : RelV y u) (rx : RelV x v) (fy : flatV y = true) (fx : flatV x = true) : SeqAt.EqAt A s u v (eqV y x) := by
  cases y with
  | non =>
    cases ry
    cases x with
    | non => cases rx; exact SeqAt.EqAt.same _
    | bl b => cases rx; exact SeqAt.EqAt.none_bool b
    | int b => obtain ⟨t, rfl⟩ := rx; exact SeqAt.EqAt.none_int b t
    | str b => obtain ⟨t, rfl⟩ := rx; exact SeqAt.EqAt.none_str b t
    | _ => exact absurd (show false = true from fx) Bool.false_ne_true
  | bl a =>
    cases ry
    cases x with
    | non => cases rx; exact SeqAt.EqAt.bool_none a
    | bl b => cases rx; exact SeqAt.EqAt.bool_bool a b
    | int b => obtain ⟨t, rfl⟩ := rx; exact SeqAt.EqAt.bool_int a b t
    | str b => obtain ⟨t, rfl⟩ := rx; exact SeqAt.EqAt.bool_str a b t
    | _ => exact absurd (show false = true from fx) Bool.false_ne_true
  | int a =>
    obtain ⟨t', rfl⟩ := ry
    cases x with
    | non => cases rx; exact SeqAt.EqAt.int_none a t'
    | bl b => cases rx; exact SeqAt.EqAt.int_bool a t' b
    | int b => obtain ⟨t, rfl⟩ := rx; exact SeqAt.EqAt.int_int a t' b t
    | str b => obtain ⟨t, rfl⟩ := rx; exact SeqAt.EqAt.int_str a t' b t
    | _ => exact absurd (show false = true from fx) Bool.false_ne_true
  | str a =>
    obtain ⟨t', rfl⟩ := ry
    cases x with
    | non => cases rx; exact SeqAt.EqAt.str_none a t'
    | bl b => cases rx; exact SeqAt.EqAt.str_bool a t' b
    | int b => obtain ⟨t, rfl⟩ := rx; exact SeqAt.EqAt.str_int a t' b t
    | str b => obtain ⟨t, rfl⟩ := rx; exact SeqAt.EqAt.str_str a t' b t
    | _ => exact absurd (show false = true from fx) Bool.false_ne_true
  | _ => exact absurd (show false = true from fy) Bool.false_ne_true
def eqU (x : V) (u : Value) : Bool := match u with
  | .none => eqV .non x
  | .bool b => eqV (.bl b) x
  | .int i _ => eqV (.int i) x
  | .str z _ => eqV (.str z) x
  | _ => false
theorem eqU_of {x y : V} {u : Value} (r : RelV y u) (f : flatV y = true) : eqU x u = eqV y x := by
  cases y with
  | non => cases r; rfl
  | bl b => cases r; rfl
  | int i => obtain ⟨t, rfl⟩ := r; rfl
  | str z => obtain ⟨t, rfl⟩ := r; rfl
  | _ => exact absurd (show false = true from f) Bool.false_ne_true
theorem any_eqU {x : V} : ∀ {xs : List V} {us : List Value}, Vals xs us → xs.all flatV = true → us.any (eqU x) = xs.any fun y => eqV y x
  | _, _, .nil, _ => rfl
  | y :: xs, u :: us, .cons r t, f => by
    rw [List.all_cons, Bool.and_eq_true] at f
    rw [List.any_cons, List.any_cons, eqU_of r f.1, any_eqU t f.2]
theorem mem_eqAt {A : Around} {s : Shared} {x : V} {v : Value} (rx : RelV x v) (fx : flatV x = true) : ∀ {xs : List V} {us : List Value}, Vals xs us → xs.all flatV = true → ∀ u ∈ us, SeqAt.EqAt A s u v (eqU x u)
  | _, _, .nil, _ => fun u hu => by cases hu
  | y :: xs, u :: us, .cons r t, f => fun u' hu => by
    rw [List.all_cons, Bool.and_eq_true] at f
    rcases List.mem_cons.mp hu with rfl | hu
    · rw [eqU_of r f.1]; exact eqAt_V r rx f.1 fx
    · exact mem_eqAt rx fx t f.2 u' hu
def inV (x : V) (xs : List V) : Bool := xs.any fun y => eqV y x
def rIn (K : PySem.W.Frag) (neg : Bool) : R2 := fun x y H Q => ∃ p xs, y = .ref p ∧ (SqL K H p xs ∨ SqT K H p xs) ∧ flatV x = true ∧ xs.all flatV = true ∧ Q (.bl (if neg then !inV x xs else inV x xs)) H
theorem op_in_seq : OpR X (compareOp .In) (rIn X.K false) := by
  intro pins s σ H x y v u Q I rx ry h
  obtain ⟨p, xs, rfl, hq, fx, fs, q⟩ := h
  cases ry
  rcases hq with hq | hq
  · obtain ⟨its, r, pl, hz⟩ := I.list hq
    refine SeqAt.in_listAt (eqU x) pl.isList (fun w hw => mem_eqAt rx fx r fs w (by simpa using hw)) ⟨.bl _, H, I, rfl, ?_⟩
    rw [show its.toArray.any (eqU x) = its.any (eqU x) by simp, any_eqU r fs]
    exact q
  · obtain ⟨its, r, pl, hz⟩ := I.tuple hq
    refine SeqAt.in_tupleAt (eqU x) pl (fun w hw => mem_eqAt rx fx r fs w (by simpa using hw)) ⟨.bl _, H, I, rfl, ?_⟩
    rw [show its.toArray.any (eqU x) = its.any (eqU x) by simp, any_eqU r fs]
    exact q
theorem call_len_seq : CallR X (.builtin "len") (fun xs H Q => ∃ p ys, xs = [.ref p] ∧ (SqL X.K H p ys ∨ SqT X.K H p ys) ∧ Q (.int ys.length) H) := by
  intro pins s σ H xs us Q I r h
  obtain ⟨p, ys, rfl, hq, q⟩ := h
  obtain ⟨u, rfl, rx⟩ := vals1 r
  cases rx
  have hn := line63
  rcases hq with hq | hq
  · obtain ⟨its, r', pl, hz⟩ := I.list hq
    have hlen := r'.length
    exact Calls.call_len_list pl.isList (by simp only [List.size_toArray] <;> omega) ⟨.int ys.length, H, I.tok _, ⟨s.toks + 1, by rw [List.size_toArray, hlen]⟩, q⟩
  · obtain ⟨its, r', pl, hz⟩ := I.tuple hq
    have hlen := r'.length
    exact len_tuple pl (by simp only [List.size_toArray] <;> omega) ⟨.int ys.length, H, I.tok _, ⟨s.toks + 1, by rw [List.size_toArray, hlen]⟩, q⟩
theorem call_len_str : CallR X (.builtin "len") (fun xs H Q => ∃ z, xs = [.str z] ∧ z.length ≤ sizeLine ∧ Q (.int z.length) H) := by
  intro pins s σ H xs us Q I r h
  obtain ⟨z, rfl, hz, q⟩ := h
  obtain ⟨u, rfl, t, rfl⟩ := vals1 r
  have hn := line63
  exact len_str (by omega) ⟨.int z.length, H, I.tok _, ⟨_, rfl⟩, q⟩
theorem call_tuple_of : CallR X (.type "tuple") (fun xs H Q => ∃ p ys, xs = [.ref p] ∧ ((SqL X.K H p ys ∧ ∀ l, H l = none → Q (.ref l) (upd H l (.tup ys))) ∨ (SqT X.K H p ys ∧ Q (.ref p) H))) := by
  intro pins s σ H xs us Q I r h
  obtain ⟨p, ys, rfl, h⟩ := h
  obtain ⟨u, rfl, rx⟩ := vals1 r
  cases rx
  rcases h with ⟨hq, q⟩ | ⟨hq, q⟩
  · obtain ⟨its, r', pl, hz⟩ := I.list hq
    have hlen := r'.length
    refine call_tuple_list pl.isList (fun h' kp => ?_) (by simp only [List.size_toArray] <;> omega)
    have I1 : Inv X pins σ H { s with heap := h' } := I.kept (t' := s.toks) kp
    have I2 : Inv X pins σ (upd H h'.objs.size (.tup ys)) { s with heap := h'.push { cls := .type "tuple", data := .seq its.toArray } } :=
      I1.laid (t' := s.toks) (fun b o e => Heap.get?_push_of_some _ e) (Nat.le_refl _) (show ObjOk X.prog X.w _ _ _ (.tup ys) from ⟨hz, its, r', IsTup.new _ _⟩)
    exact ⟨.ref h'.objs.size, _, I2, rfl, q _ (I1.hok.fresh (Nat.le_refl _))⟩
  · obtain ⟨its, r', pl, hz⟩ := I.tuple hq
    exact call_tuple_same pl ⟨.ref p, H, I, rfl, q⟩
def tyV (K : PySem.W.Frag) (T : String) (x : V) (H : Hp) : Prop := match x with
  | .str _ => T = "str"
  | .int _ => T = "int"
  | .ref p => (T = "list" ∧ ∃ xs, SqL K H p xs) ∨ (T = "tuple" ∧ ∃ o, K.lookup p = some o ∧ o.cls = .type "tuple" ∧ o.dict = none) ∨
      (T = "dict" ∧ ((∃ kvs, H p = some (.dK kvs)) ∨ ∃ kvs, H p = some (.dT kvs))) ∨ (T = "set" ∧ ∃ S n, H p = some (.set S n))
  | _ => False
theorem tyV_is {pins : List (Addr × Obj)} {σ : St} {H : Hp} {s : Shared} {T : String} {x : V} {v : Value} (I : Inv X pins σ H s) (r : RelV x v) (ty : tyV X.K T x H) :
    s.TypeIs v T ∧ ∀ a, v = .ref a → ∃ ob, s.heap.get? a = some ob ∧ ob.dict = none := by
  cases x with
  | str z =>
    obtain ⟨t, rfl⟩ := r
    cases (show T = "str" from ty)
    exact ⟨typeIs_str s z t, fun _ e => nomatch e⟩
  | int i =>
    obtain ⟨t, rfl⟩ := r
    cases (show T = "int" from ty)
    exact ⟨typeIs_int s i t, fun _ e => nomatch e⟩
  | ref p =>
    cases r
    rcases ty with ⟨rfl, xs, hq⟩ | ⟨rfl, o, hk, hc, hd⟩ | ⟨rfl, hk⟩ | ⟨rfl, S, n, hk⟩
    · obtain ⟨its, _, pl, _⟩ := I.list hq
      refine ⟨pl.isList.typeIs, fun a e => ?_⟩
      cases e
      obtain ⟨o, n, e, c, hd, _⟩ := pl
      exact ⟨o, e, hd⟩
    · refine ⟨⟨o, I.kIn p o hk, hc⟩, fun a e => ?_⟩
      cases e
      exact ⟨o, I.kIn _ o hk, hd⟩
    · have z : ∃ o, s.heap.get? p = some o ∧ o.ExactDict := by
        rcases hk with ⟨kvs, hk⟩ | ⟨kvs, hk⟩
        · obtain ⟨_, _, _, _, o, _, _, e, ex, _⟩ := I.hok p _ hk
          exact ⟨o, e, ex⟩
        · obtain ⟨_, _, _, _, o, _, _, e, ex, _⟩ := I.hok p _ hk
          exact ⟨o, e, ex⟩
      obtain ⟨o, e, ex⟩ := z
      refine ⟨⟨o, e, ex.1⟩, fun a e2 => ?_⟩
      cases e2
      exact ⟨o, e, ex.2.1⟩
    · obtain ⟨o, _, _, _, e, ex, _⟩ := I.hok p _ hk
      refine ⟨⟨o, e, ex.1⟩, fun a e2 => ?_⟩
      cases e2
      exact ⟨o, e, ex.2.1⟩
  | _ => exact False.elim ty
def tBM0 (K : PySem.W.Frag) (T : String) (r : V → List V → Hp → VK → Prop) (to : TE) : TE := fun σ H Q => to σ H fun x H1 => tyV K T x H1 ∧ r x [] H1 Q
def tBM (K : PySem.W.Frag) (T : String) (r : V → List V → Hp → VK → Prop) (to : TE) (t : TA) : TE := fun σ H Q => to σ H fun x H1 => tyV K T x H1 ∧ t σ H1 fun xs H2 => r x xs H2 Q
variable {o e : Expr} {es : List Expr} {to : TE} {t : TA} {name : Str} {apos cpos : Pos} {T id : String} {r : V → List V → Hp → VK → Prop}
theorem pe_bm0 (pa : PlainAttrs T) (slot : Slot T name id) (hty : typeOf (.builtin id) = pure (.type "method_descriptor")) (hm : MtR X id r) (ho : PE X o to)
    (hbase : attributeBase o name X.env (eval o X.env) = eval o X.env := by rfl) (hline : (apos.endLine == cpos.line) = true := by rfl) : PE X (.Call (.Attribute o name apos) [] [] cpos) (tBM0 X.K T r to) := by
  intro pins s σ H Q I h
  refine wpAny_Call_method0_late hbase hline (thn (ho pins s σ H _ I h) fun v s1 ⟨x, H1, I1, r1, ty, q1⟩ => ?_)
  obtain ⟨h1, h2⟩ := tyV_is I1 r1 ty
  exact ⟨T, id, pa, slot, hty, h1, h2, Calls.callWith_builtin rfl (PySem.evalArgs_none (hm pins s1 σ H1 x [] v [] Q I1 r1 .nil q1))⟩
theorem pe_bm (pa : PlainAttrs T) (slot : Slot T name id) (hty : typeOf (.builtin id) = pure (.type "method_descriptor")) (hm : MtR X id r) (ho : PE X o to) (ha : PA X (e :: es) t)
    (hbase : attributeBase o name X.env (eval o X.env) = eval o X.env := by rfl)
    (hfew : ((backTo cpos (starEach (e :: es) X.env)).all (fun x => !x.1) && (backToKw cpos (keywordEach [] X.env)).all (fun x => x.1.isSome)
      && decide ((e :: es).length + ([] : List Keyword).length + (if ([] : List Keyword).isEmpty then 0 else 1) < 30)) = true := by rfl)
    (hline : (apos.endLine == cpos.line) = true := by rfl) (hs : starEach (e :: es) X.env = (false, eval e X.env) :: starEach es X.env := by rfl) (hplain : (backTo cpos (starEach es X.env)).any (·.1) = false := by rfl) :
    PE X (.Call (.Attribute o name apos) (e :: es) [] cpos) (tBM X.K T r to t) := by
  intro pins s σ H Q I h
  refine wpAny_Call_method_late hbase hfew hline rfl (thn (ho pins s σ H _ I h) fun v s1 ⟨x, H1, I1, r1, ty, q1⟩ => ?_)
  obtain ⟨h1, h2⟩ := tyV_is I1 r1 ty
  refine ⟨T, id, pa, slot, hty, h1, h2, ?_⟩
  have hA := ha cpos pins s1 σ H1 _ I1 q1
  rw [hs] at hA ⊢
  refine Calls.callWith_builtin (by show (false || (backTo cpos (starEach es X.env)).any (·.1)) = false; rw [hplain] <;> rfl) (Calls.evalArgs_plain ?_)
  exact thn hA fun us s2 ⟨vs, H2, I2, r2, q2⟩ => hm pins s2 σ H2 x vs v us Q I2 r1 r2 q2
end
end L2
namespace L2
open PySem PySem.Spec PyProof.Rows
def MtM (X : Cx) (id : String) (r : V → List V → Hp → VK → Prop) : Prop :=
  ∀ (pins : List (Addr × Obj)) (s : Shared) (σ : St) (H : Hp) (x : V) (xs : List V) (v : Value) (us : List Value) (Q : VK), Inv X pins σ H s → RelV x v → Vals xs us → r x xs H Q →
    wpAny (model X.prog X.w) X.A (call (.builtin id) (v :: us)) (EP X pins σ Q) X.xe s
theorem Vals.one : ∀ {x : V} {us : List Value}, Vals [x] us → ∃ u, us = [u] ∧ RelV x u
  | _, _, .cons r .nil => ⟨_, rfl, r⟩
theorem Vals.zero : ∀ {us : List Value}, Vals [] us → us = []
  | _, .nil => rfl
theorem Vals.dropLast {xs : List V} {us : List Value} (h : Vals xs us) : Vals xs.dropLast us.dropLast := by
  induction h with
  | nil => exact .nil
  | cons r t ih =>
    cases t with
    | nil => exact .nil
    | cons q t' => exact .cons r ih
theorem erase_last {α : Type} (l : List α) : l.eraseIdx (l.length - 1) = l.dropLast := by
  induction l with
  | nil => rfl
  | cons a r ih =>
    cases r with
    | nil => rfl
    | cons b r =>
      have e : (a :: b :: r).length - 1 = ((b :: r).length - 1) + 1 := by
        have h1 : (a :: b :: r).length = r.length + 2 := rfl
        have h2 : (b :: r).length = r.length + 1 := rfl
        omega
      rw [e, List.eraseIdx_cons_succ, ih]
      all_goals rfl
section
variable {X : Cx} {pins : List (Addr × Obj)} {σ : St} {H : Hp} {s : Shared} {l b : Addr} {xs ys zs : List V}
theorem Inv.lset {its its' : List Value} {n : Nat} {f : Array Value → Array Value} {t' : Nat} (I : Inv X pins σ H s) (hH : H l = some (.lst xs))
    (e : s.heap.get? l = some { cls := .type "list", data := .seq its.toArray n }) (hf : f its.toArray = its'.toArray) (hv : Vals ys its') (hz : ys.length ≤ sizeLine) :
    Inv X pins σ (upd H l (.lst ys)) { s with heap := s.heap.update l (Obj.mapSeq f), toks := t' } := by
  have q := PySem.IsL.update e f
  rw [hf] at q
  refine I.write (x := l) (e := l) (by rw [hH]; exact trivial) (.inl rfl) (fun b' u hb hu => (Heap.get?_update_other s.heap (Obj.mapSeq f) (Ne.symm hb)).trans hu) ⟨_, q⟩ ?_
  exact ⟨hz, its', _, hv, q⟩
theorem Inv.lnew {its : List Value} {t' : Nat} (I : Inv X pins σ H s) (hv : Vals ys its) (hz : ys.length ≤ sizeLine) :
    Inv X pins σ (upd H s.heap.objs.size (.lst ys)) { s with heap := s.heap.push { cls := .type "list", data := .seq its.toArray }, toks := t' } :=
  I.laid (fun _ _ q => Heap.get?_push_of_some _ q) (Nat.le_refl _) ⟨hz, its, 0, hv, Heap.get?_push_size _ rfl⟩
theorem Inv.fresh (I : Inv X pins σ H s) : H s.heap.objs.size = none := I.hok.fresh (Nat.le_refl _)
theorem Inv.lstM (I : Inv X pins σ H s) (hH : H l = some (.lst xs)) : xs.length ≤ sizeLine ∧ ∃ (its : List Value) (n : Nat), Vals xs its ∧ xs.length = its.length ∧ s.heap.get? l = some { cls := .type "list", data := .seq its.toArray n } := by
  obtain ⟨z, its, n, r, e⟩ := I.hok l _ hH
  exact ⟨z, its, n, r, r.length, e⟩
theorem notLongL {n : Nat} (h : n ≤ sizeLine) : Builtin.List.listTooLong n = false := by
  unfold Builtin.List.listTooLong
  exact decide_eq_false (by omega)
end
section
variable {X : Cx}
def rAppend : V → List V → Hp → VK → Prop := fun x vs H Q => ∃ l xs y, x = .ref l ∧ vs = [y] ∧ H l = some (.lst xs) ∧ xs.length < sizeLine ∧ Q .non (upd H l (.lst (xs ++ [y])))
theorem mt_append : MtM X "list.append" rAppend := by
  intro pins s σ H x vs v us Q I rx rv h
  obtain ⟨l, xs, y, rfl, rfl, hH, hz, q⟩ := h
  cases rx
  obtain ⟨u, rfl, ru⟩ := rv.one
  obtain ⟨z, its, n, r, hl, e⟩ := I.lstM hH
  refine call_meets F.slot_list_append ⟨_, e, rfl⟩ F.entry_list_append (F.args_list_append_2 _ _) (PySem.list_append l its.toArray n u (by rw [List.size_toArray]; omega)) ⟨e, ?_⟩
  refine ⟨.non, _, I.lset (its' := its ++ [u]) hH e (by simp) (r.append (.cons ru .nil)) ?_, rfl, q⟩
  rw [List.length_append, List.length_singleton]
  omega
def rExtend : V → List V → Hp → VK → Prop := fun x vs H Q => ∃ l b xs zs, x = .ref l ∧ vs = [.ref b] ∧ H l = some (.lst xs) ∧ H b = some (.lst zs) ∧ xs.length + zs.length ≤ sizeLine ∧ Q .non (upd H l (.lst (xs ++ zs)))
theorem mt_extend : MtM X "list.extend" rExtend := by
  intro pins s σ H x vs v us Q I rx rv h
  obtain ⟨l, b, xs, zs, rfl, rfl, hH, hB, hz, q⟩ := h
  cases rx
  obtain ⟨u, rfl, ru⟩ := rv.one
  cases ru
  obtain ⟨z, its, n, r, hl, e⟩ := I.lstM hH
  obtain ⟨z2, its2, n2, r2, hl2, e2⟩ := I.lstM hB
  have hsz : its.toArray.size + its2.toArray.size ≤ sizeLine := by rw [List.size_toArray, List.size_toArray]; omega
  have hlong : ¬ (!its.toArray.isEmpty && Builtin.List.listTooLong (its.toArray.size + its2.toArray.size)) = true := by
    rw [notLongL hsz, Bool.and_false]
    exact Bool.false_ne_true
  refine call_meets F.slot_list_extend ⟨_, e, rfl⟩ F.entry_list_extend (F.args_list_extend_2 _ _)
    (AutoSeq1.list_extend_list_list_0 l its.toArray n b its2.toArray n2 hlong (by rw [List.size_toArray]; omega) (by omega)) ⟨e, e2, ?_⟩
  refine ⟨.non, _, I.lset (its' := its ++ its2) hH e (by simp) (r.append r2) ?_, rfl, q⟩
  rw [List.length_append]
  omega
def rPop : V → List V → Hp → VK → Prop := fun x vs H Q => ∃ l xs y, x = .ref l ∧ vs = [] ∧ H l = some (.lst xs) ∧ xs[xs.length - 1]? = some y ∧ Q y (upd H l (.lst xs.dropLast))
theorem mt_pop : MtM X "list.pop" rPop := by
  intro pins s σ H x vs v us Q I rx rv h
  obtain ⟨l, xs, y, rfl, rfl, hH, hy, q⟩ := h
  cases rx
  have hus := rv.zero
  subst hus
  obtain ⟨z, its, n, r, hl, e⟩ := I.lstM hH
  obtain ⟨u, hu, ru⟩ := r.get hy
  have hy' : its.toArray[its.toArray.size - 1]? = some u := by
    show its.toArray[its.length - 1]? = some u
    rw [← Array.getElem?_toList, ← hl]
    exact hu
  refine call_meets F.slot_list_pop ⟨_, e, rfl⟩ F.entry_list_pop (F.args_list_pop_1 _) (MeetsSeq.list_pop_last l its.toArray n u hy' (by rw [List.size_toArray]; omega)) ⟨e, ?_⟩
  refine ⟨y, _, I.lset (its' := its.dropLast) hH e ?_ r.dropLast ?_, ru, q⟩
  · show its.toArray.eraseIdxIfInBounds (its.toArray.size - 1) = its.dropLast.toArray
    rw [List.size_toArray, List.eraseIdxIfInBounds_toArray, erase_last]
  · rw [List.length_dropLast]
    omega
def rCat : R2 := fun x y H Q => ∃ l b xs zs, x = .ref l ∧ y = .ref b ∧ H l = some (.lst xs) ∧ H b = some (.lst zs) ∧ xs.length + zs.length ≤ sizeLine ∧ ∀ p, H p = none → Q (.ref p) (upd H p (.lst (xs ++ zs)))
theorem op_cat : OpR X (binaryOp .Add) rCat := by
  intro pins s σ H x y v u Q I rx ry h
  obtain ⟨l, b, xs, zs, rfl, rfl, hH, hB, hz, q⟩ := h
  cases rx
  cases ry
  obtain ⟨z, its, n, r, hl, e⟩ := I.lstM hH
  obtain ⟨z2, its2, n2, r2, hl2, e2⟩ := I.lstM hB
  refine PySem.P.add_list e e2 ?_ (by rw [List.size_toArray, List.size_toArray]; omega)
  have ea : its.toArray ++ its2.toArray = (its ++ its2).toArray := by simp
  rw [ea]
  exact ⟨.ref _, _, I.lnew (t' := s.toks) (r.append r2) (by rw [List.length_append]; omega), rfl, q _ I.fresh⟩
end
section
variable {prog : Program} {w : World} {A : Around} {E : Value → Shared → Prop} {s : Shared}
end
section
variable {X : Cx}
end
end L2
namespace L2
open PySem PySem.Spec PyProof.Rows
section
variable {κ : Type} [DecidableEq κ]
end
section
variable {P : Program} {w : World} {H : Hp} {h : Heap} {a : Addr}
end
section
variable {X : Cx} {pins : List (Addr × Obj)} {σ : St} {H : Hp} {s : Shared} {a : Addr} {y v : V} {u r : Value} {o : Option V} {A : Around} {E : Value → Shared → Prop}
end
section
variable {X : Cx} {pins : List (Addr × Obj)} {σ : St} {H : Hp} {s : Shared} {a : Addr} {kvs : List (Key × V)} {k : Key} {u : Value} {A : Around} {E : Value → Shared → Prop}
end
section
variable {X : Cx} {o i e value : Expr} {pos pos' tpos : Pos} {td ty tv : TE}
end
section
variable {X : Cx} {pos : Pos}
end
section
variable {X : Cx} {pins : List (Addr × Obj)} {σ : St} {H : Hp} {s : Shared} {a : Addr} {y d : V} {u r : Value} {o : Option V} {A : Around} {E : Value → Shared → Prop}
end
section
variable {X : Cx} {o e f : Expr} {apos cpos : Pos} {td ty tx : TE}
end
section
variable {X : Cx} {pins : List (Addr × Obj)} {σ : St} {H : Hp} {s : Shared} {a : Addr} {kvs : List (Key × V)} {A : Around} {E : Value → Shared → Prop}
end
section
variable {X : Cx} {pins : List (Addr × Obj)} {σ : St} {H : Hp} {s : Shared} {a : Addr} {y : V} {u : Value} {A : Around} {E : Value → Shared → Prop}
end
end L2
namespace Att
open PySem PySem.W PySem.Calls PyProof.Rows
theorem ints_of_wellAll {P : Params} {h : Heap} : ∀ (ns : List Int) (vs : List Value), WellAll P h vs (ns.map WData.int) → IntsAre vs ns := by
  intro ns
  induction ns with
  | nil =>
    intro vs w
    rw [List.map_nil] at w
    cases w
    exact .nil
  | cons n ns ih =>
    intro vs w
    rw [List.map_cons] at w
    cases w with
    | cons a b =>
      cases a
      exact .cons _ _ (ih _ b)
theorem script_of {l : OpenLaw} {n : Nat} (hn : l.most = some n) {P : Params} {h : Heap} {args : List WData} {vals : List Value}
    (hpre : l.row.toRowW.claim.pre args = true) (hwl : WellAll P h vals args) :
    ∃ a vs ns, vals = [Value.ref a] ∧ args = [WData.list (ns.map WData.int)] ∧ h.get? a = some { cls := .type "list", data := .seq vs.toArray } ∧ IntsAre vs ns ∧ ns.length ≤ n := by
  have hsh : WShape.hasAll [] args [.list .int] = true := (pre_splitW hpre).1
  have hc : l.pre.holds [] { args := args } = true := (pre_splitW hpre).2
  obtain ⟨d, r, rfl, h1, h2⟩ := hasAllW_cons hsh
  obtain rfl := hasAllW_nil h2
  obtain ⟨xs, rfl, h3⟩ := hasW_list h1
  obtain ⟨ns, rfl⟩ := items_int h3
  have hlen : ns.length ≤ n := by
    unfold OpenLaw.pre at hc
    have h4 : (WTm.not (.lt (.lit (.int (n : Int))) (.len (.arg 0)))).holds [] { args := [.list (ns.map .int)] } = true := by
      have h4 := (holds_andW hc).1
      rw [hn] at h4
      exact h4
    have h5 := condW_of h4 (w_not (w_lt w_lit (w_len_list (w_arg rfl))))
    rw [List.length_map] at h5
    refine Nat.le_of_not_lt fun q => ?_
    have q' : (n : Int) < ((ns.length : Nat) : Int) := by omega
    first
      | (rw [decide_eq_true q'] at h5; exact absurd h5 (by decide))
      | (simp at h5; omega)
  cases hwl with
  | cons w1 w2 =>
    cases w2
    cases w1 with
    | list ho hall => exact ⟨_, _, ns, rfl, rfl, ho, ints_of_wellAll ns _ hall, hlen⟩
theorem post_true (l : OpenLaw) (args : List WData) : l.row.toRowW.claim.post args (.bool true) args = true :=
  postW_of (r := l.row.toRowW) (X := (true == true))
    (show WShape.has [] (.bool true) .bool = true by first | rfl | decide | simp [WShape.has, WShape.arms, WShape.armsAll])
    (show (WTm.eq .res (.lit (.bool true))).value [] { args := args, res := some (.bool true), after := args } = some (.bool (true == true)) from w_eq_bool (w_res rfl) w_lit) rfl
theorem attach_call {l : OpenLaw} {n : Nat} {q : Program} {loose : List Str} {XP : (Str → Option Value) → Heap → Prop} {YP : World → Heap → Prop} {d : DefRec}
    (hn : l.most = some n) (hdf : d.params.defaults = [])
    (call : ∀ (w : World) (s₀ s₁ : Shared) (mg mb : Str → Option Value) (fa : Addr) (o : Obj) (pm cd doc : Value) (a : Addr) (vs : List Value) (ns : List Int),
      Ground q loose [] XP w s₀ mg mb s₁.heap → YP w s₁.heap →
      s₁.heap.get? fa = some o → o.data = .func (docDef d.name d.params d.body d.scope pm cd doc) → s₁.heap.CodeRec cd d.name → mg d.name = some (.ref fa) →
      s₁.heap.get? a = some { cls := .type "list", data := .seq vs.toArray } → IntsAre vs ns → ns.length ≤ n → s₁.gens = #[] →
      codeAny (model l.prog w) callerA (.call (.ref fa) ⟨[.ref a], []⟩) (fun r s' => r = .ok (.ret (.bool true)) ∧ OldK s₁.heap s'.heap ∧ s'.os = s₁.os ∧ AllBare s'.gens) s₁) :
    WalkO q loose XP YP l.row.toRowW d [] (fun f vs => PySem.call f vs) := by
  intro w s₀ s₁ mg mb G Y fa o pm cd doc dV kV ho hd hcd hD hmg hg args vals as hpre hlay hrd hwl hlo
  obtain rfl : dV = .none := Dflts.none hD hdf
  obtain rfl : kV = .none := Dflts.noKw hD
  obtain ⟨a, vs, ns, rfl, rfl, hobj, hints, hlen⟩ := script_of hn hpre hwl
  refine enter_call (codeAny_mono (call w s₀ s₁ mg mb fa o pm cd doc a vs ns G Y ho (fd_plain hd) hcd hmg hobj hints hlen hg) fun r s' hq => ?_)
  obtain ⟨rfl, h2, h3, h4⟩ := hq
  exact ⟨.inl ⟨.bool true, .bool true, [], rfl, fun _ => rfl, .bool true, post_true l _, fun _ => ⟨List.Pairwise.nil, fun _ hm => (nomatch hm)⟩⟩, h2, h3, h4⟩
section
variable {prog : Program} {w : World} {A : Around} {E : Value → Shared → Prop} {s : Shared} {K : Frag}
end
end Att
namespace L2
open PySem PySem.Spec PyProof.Rows
theorem vals_ints : ∀ {vs : List Value} {ns : List Int}, IntsAre vs ns → Vals (ns.map V.int) vs
  | _, _, .nil => .nil
  | _, _, .cons n t h => .cons ⟨t, rfl⟩ (vals_ints h)
def Only (H : Hp) : Prop := ∀ b, H b = none ∨ ∃ o xs, H b = some (.frz o (.lst xs))
theorem law_call {P : Program} {w : World} {K : PySem.W.Frag} {mg mb : Str → Option Value} {CX : CXT} {k : Nat} {fa a : Addr} {fd : FuncData} {x : Str} {sp : Sp} {s₁ : Shared} {vs : List Value} {ns : List Int}
    (KX : K.In s₁.heap) (hns : s₁.heap.Ns mainGlobals mg) (hb : s₁.heap.Ns builtinsNs mb) (hbb : ∀ x : Str, x ≠ "__name__" → mb x = bootBuiltins x) (hlim : s₁.heap.NoLimit) (hg : s₁.gens = #[])
    (ha : s₁.heap.get? a = some { cls := .type "list", data := .seq vs.toArray }) (hi : IntsAre vs ns) (hl : ns.length ≤ sizeLine) (hr : Room k callerA)
    (F : ∀ base : Heap, K.In base → base.Ns mainGlobals mg → FnOk P w K mg base CX k fa fd [x] sp) (hbind : ∀ (s : Shared) (u : Value), BindsTo s fd ⟨[u], []⟩ [(x, u)])
    (hsp : ∀ H : Hp, Only H → SqL K H a (ns.map V.int) → sp [.ref a] H (fun v _ => v = .bl true) fun _ _ _ => False)
    (hCX : ∀ H e s', CX [] H s₁ (fun _ _ _ => False) e s' → False) :
    codeAny (model P w) callerA (.call (.ref fa) ⟨[.ref a], []⟩) (fun r s' => r = .ok (.ret (.bool true)) ∧ OldK s₁.heap s'.heap ∧ s'.os = s₁.os ∧ AllBare s'.gens) s₁ := by
  have rv := vals_ints hi
  have lenV := hi.length
  have core : ∀ H : Hp, Only H → SqL K H a (ns.map V.int) → HOk P w H s₁.heap → (∀ b, H b ≠ none → b = a) → (H a ≠ none → K.lookup a = none) →
      codeAny (model P w) callerA (.call (.ref fa) ⟨[.ref a], []⟩) (fun r s' => r = .ok (.ret (.bool true)) ∧ OldK s₁.heap s'.heap ∧ s'.os = s₁.os ∧ AllBare s'.gens) s₁ := by
    intro H hO hS hok hA hK
    have base_of : ∀ {b : Addr} {o : Obj}, s₁.heap.get? b = some o → H b = none → (hidT s₁.heap H).get? b = some o := fun e n => hidT_get e n
    have noA : ∀ {b : Addr} {o : Obj} {es : Array DictEntry} {ep : Nat}, s₁.heap.get? b = some o → o.data = .dict es ep → H b = none := fun {b o es ep} e d => by
      cases q : H b with
      | none => rfl
      | some u =>
        have e' : b = a := hA b (by rw [q]; simp)
        subst e'
        rw [ha] at e; cases e
        have d' : Data.seq vs.toArray _ = Data.dict es ep := d
        cases d'
    have nsK : ∀ {b : Addr} {m : Str → Option Value}, s₁.heap.Ns b m → (hidT s₁.heap H).Ns b m := fun {b m} ⟨o, es, ep, e, d, r⟩ => ⟨o, es, ep, base_of e (noA e d), d, r⟩
    have hKb : K.In (hidT s₁.heap H) := fun b o e => base_of (KX b o e) (by
      cases q : H b with
      | none => rfl
      | some u =>
        have e' : b = a := hA b (by rw [q]; simp)
        subst e'
        rw [hK (by rw [q]; simp)] at e; cases e)
    have hM : Mod K mg (hidT s₁.heap H) := ⟨hKb, nsK hns, ⟨mb, nsK hb, hbb⟩, let ⟨mc, h1, h2⟩ := hlim; ⟨mc, nsK h1, h2⟩⟩
    have e0 : Env0 P w K mg (hidT s₁.heap H) callerA [] s₁ H := ⟨rfl, hM, fun b o e => of_hidT e, Nat.le_of_eq (hidT_size _ _), trivial, fun b hb => absurd (show b ∈ ([] : List Addr) from hb) (by simp), hok, .of_eq hg⟩
    refine codeAny_mono ((F _ hKb (nsK hns)).run callerA [] s₁ H ⟨[.ref a], []⟩ [.ref a] [.ref a] _ _ hr e0 (hbind s₁ (.ref a)) (.cons rfl .nil) (hsp H hO hS)) fun r s' h => ?_
    cases r with
    | error e => exact (hCX H e s' h).elim
    | ok fl =>
      cases fl with
      | next => exact False.elim h
      | brk => exact False.elim h
      | cont => exact False.elim h
      | ret u =>
        obtain ⟨v, H', os, bare, un, hok', r', q⟩ := h
        have q' : v = .bl true := q
        subst q'
        obtain rfl : u = Value.bool true := r'
        refine ⟨rfl, OldK.of_keep fun b o e => ?_, os, bare⟩
        cases q : H b with
        | none => exact un.keep b o e q (by intro z; exact absurd (show b ∈ ([] : List Addr) from z) (by simp)) (by simp)
        | some u =>
          rcases hO b with z | ⟨ob, xs, z⟩
          · rw [q] at z; cases z
          · have z2 := un.frzs b ob _ z
            obtain ⟨e1, _⟩ := hok b _ z
            obtain ⟨e2, _⟩ := hok' b _ z2
            rw [e] at e1; cases e1
            exact e2
  cases hk : K.lookup a with
  | some o =>
    have e := KX a o hk
    rw [ha] at e
    cases e
    refine core (fun _ => none) (fun _ => .inl rfl) (.inr ⟨_, vs.toArray, _, hk, rfl, rfl, rfl, by rw [List.size_toArray, lenV]; exact hl, by simpa using rv⟩) (fun b u z => by have z' : (none : Option HO) = some u := z; cases z') (fun b z => absurd rfl z) fun z => absurd rfl z
  | none =>
    refine core (fun b => if b = a then some (.frz { cls := .type "list", data := .seq vs.toArray } (.lst (ns.map V.int))) else none) (fun b => ?_) (.inl (.inr ⟨{ cls := .type "list", data := .seq vs.toArray }, if_pos rfl⟩)) (fun b u z => ?_) (fun b z => ?_) fun _ => hk
    · by_cases hb : b = a
      · exact .inr ⟨_, _, if_pos hb⟩
      · exact .inl (if_neg hb)
    · by_cases hb : b = a
      · have z' := (if_pos hb).symm.trans z
        cases z'
        subst hb
        exact ⟨ha, by rw [List.length_map]; exact hl, vs, _, rv, ha⟩
      · have z' := (if_neg hb).symm.trans z
        cases z'
    · by_cases hb : b = a
      · exact hb
      · exact absurd (if_neg hb) z
end L2
namespace L2
open PySem PySem.Spec PyProof.Rows
theorem walk_of {l : PySem.W.OpenLaw} {n k : Nat} {q : Program} {loose : List Str} {XP : (Str → Option Value) → Heap → Prop} {YP : World → Heap → Prop} {d : DefRec} {K : Params → PySem.W.Frag} {CX : World → CXT} {sp : World → Sp} {x : Str}
    (hn : l.most = some n) (hn2 : n ≤ sizeLine) (hdf : d.params.defaults = []) (hr : Room k callerA)
    (hY : ∀ (w : World) (h : Heap), YP w h → (K w.params).In h)
    (F : ∀ (w : World) (mg : Str → Option Value) (fa : Addr) (h : Heap), (K w.params).In h → h.Ns mainGlobals mg → mg d.name = some (.ref fa) →
      ∃ fd : FuncData, (∀ (s : Shared) (u : Value), BindsTo s fd ⟨[u], []⟩ [(x, u)]) ∧
        ∀ base : Heap, (K w.params).In base → base.Ns mainGlobals mg → FnOk l.prog w (K w.params) mg base (CX w) k fa fd [x] (sp w))
    (hsp : ∀ (w : World) (H : Hp) (a : Addr) (ns : List Int), ns.length ≤ n → Only H → SqL (K w.params) H a (ns.map V.int) → sp w [.ref a] H (fun v _ => v = .bl true) fun _ _ _ => False)
    (hCX : ∀ (w : World) (H : Hp) (s : Shared) (e : Value) (s' : Shared), CX w [] H s (fun _ _ _ => False) e s' → False) :
    PySem.W.WalkO q loose XP YP l.row.toRowW d [] (fun f vs => PySem.call f vs) := by
  refine Att.attach_call hn hdf fun w s₀ s₁ mg mb fa o pm cd doc a vs ns G Y ho hd hcd hmg hobj hints hlen hg => ?_
  have KX := hY w _ Y
  obtain ⟨fd, hb, hF⟩ := F w mg fa _ KX G.T.g hmg
  exact law_call KX G.T.g G.T.b G.T.builtins G.T.nolimit hg hobj hints (Nat.le_trans hlen hn2) hr hF hb (fun H hO hS => hsp w H a ns hlen hO hS) fun H e s' => hCX w H s₁ e s'
end L2
namespace L2
open PySem PySem.Spec PyProof.Rows
def inClass (s : Stmt) (j : Nat) : Stmt := match s with
  | .ClassDef _ _ _ body _ _ _ _ _ _ _ => body.getD j (.Pass ⟨0, 0, 0, 0⟩)
  | _ => .Pass ⟨0, 0, 0, 0⟩
def defArgs (s : Stmt) : Arguments := match s with
  | .FunctionDef _ a _ _ _ _ _ _ _ _ => a
  | _ => { posonlyargs := [], args := [], vararg := none, kwonlyargs := [], kw_defaults := [], kwarg := none, defaults := [] }
def defBody (s : Stmt) : List Stmt := match s with
  | .FunctionDef _ _ b _ _ _ _ _ _ _ => b
  | _ => []
def defScope (s : Stmt) : Scope := match s with
  | .FunctionDef _ _ _ _ _ _ sc _ _ _ => sc
  | _ => { kind := .function, names := [], isGenerator := false, isCoroutine := false }
abbrev CX0 : CXT := fun _ _ _ _ _ _ => False
abbrev E0 : XK := fun _ _ _ => False
theorem pass0 {X : Cx} : Passes CX0 X E0 := fun _ _ _ _ _ _ _ h => h.elim
structure Fun (K : PySem.W.Frag) (x qual : Str) (st : Stmt) (f : Addr) (fd : FuncData) : Prop where
  ex : ∃ (oc : Value) (od : Option Addr) (kV doc pm : Value) (an : Option Addr) (cdv ct : Value) (osl : Array (Option Value)),
    fd = PySem.W.fnOf x qual (defArgs st) (defBody st) (defScope st) .none kV doc pm an cdv ct ∧ K.lookup f = some ⟨oc, od, .func fd, osl⟩ ∧ PySem.W.codeIn K cdv qual = true
  kp : PySem.W.keepIn K (.ref f) = true
section
variable {P : Program} {w : World} {K : PySem.W.Frag} {mg : Str → Option Value} {base : Heap}
theorem Fun.ok {x qual : Str} {st : Stmt} {f : Addr} {fd : FuncData} {N ps : List Str} {k : Nat} {sp : Sp} (F : Fun K x qual st f fd) (S : FnScope N ps (defScope st)) (len : ∀ vs H Q E, sp vs H Q E → vs.length = ps.length)
    (hbody : ∀ (cdv : Value) (A : Around) (outer : List Env) (s : Shared) (H : Hp) (vs : List V) (Q : VK) (E : XK), Room k (A.deeper (envOfC qual (defScope st) s.heap.objs.size f cdv)) → sp vs H Q E →
      ∃ t, PSs (cxOf CX0 P w K mg base N qual (defScope st) f cdv A outer s H E).nox (defBody st) t ∧ t { nx := fun _ H' => Q .non H', rt := Q } (start N vs) H) : FnOk P w K mg base CX0 (k + 1) f fd ps sp := by
  obtain ⟨oc, od, kV, doc, pm, an, cdv, ct, osl, rfl, lk, hcd⟩ := F.ex
  refine fn_of lk hcd S len fun A outer s H vs Q E hr hsp => ?_
  obtain ⟨t, h, q⟩ := hbody cdv A outer s H vs Q E hr hsp
  exact ⟨t, h.nox, q⟩
theorem Fun.binds {x qual : Str} {st : Stmt} {f : Addr} {fd : FuncData} {ps : List Str} (F : Fun K x qual st f fd)
    (h : ∀ (kV doc pm : Value) (an : Option Addr) (cdv ct : Value) (us : List Value), us.length = ps.length → bindArgs (PySem.W.fnOf x qual (defArgs st) (defBody st) (defScope st) .none kV doc pm an cdv ct) ⟨us, []⟩ = pure (ps.zip us)) : Binds K fd ps [] := by
  obtain ⟨oc, od, kV, doc, pm, an, cdv, ct, osl, rfl, lk, hcd⟩ := F.ex
  exact .all (h kV doc pm an cdv ct)
theorem fun_mk {x qual : Str} {st : Stmt} {f : Addr} {oc : Value} {od an : Option Addr} {osl : Array (Option Value)} {kV doc pm cdv ct : Value} (l : K.lookup f = some ⟨oc, od, .func (PySem.W.fnOf x qual (defArgs st) (defBody st) (defScope st) .none kV doc pm an cdv ct), osl⟩)
    (c : PySem.W.codeIn K cdv qual = true) (k : PySem.W.keepIn K (.ref f) = true) : Fun K x qual st f (PySem.W.fnOf x qual (defArgs st) (defBody st) (defScope st) .none kV doc pm an cdv ct) := ⟨⟨oc, od, kV, doc, pm, an, cdv, ct, osl, rfl, l, c⟩, k⟩
end
theorem hu_of {A : Around} {k : Nat} (hr : Room k A) : A.units + 1 < cLine := Nat.lt_of_le_of_lt (Nat.add_le_add_left (by decide : 1 ≤ 64) _) hr.units
theorem small1000 {n : Nat} (h : n ≤ 1000) : n < sizeLine := Nat.lt_of_le_of_lt h (by decide)
section
variable {X : Cx}
theorem pv (i : Nat) {x : Str} {pos : Pos} (hN : X.N[i]? = some x := by rfl) (hv : Vis X.env.scope x := by first | exact Or.inl rfl | exact Or.inr (Or.inl rfl) | exact Or.inr (Or.inr rfl)) (hd : (x == ("__debug__" : Str)) = false := by decide)
    (hcd : (x == ("__classdict__" : Str)) = false := by decide) : PE X (.Name x pos) (tVar i) := pe_var hN hv hd hcd
end
theorem iteF {A B : Prop} (h : B) : if false = true then A else B := by
  rw [if_neg Bool.false_ne_true]
  exact h
theorem iteT {A B : Prop} (h : A) : if true = true then A else B := by
  rw [if_pos rfl]
  exact h
theorem ite2 {c A B : Prop} [Decidable c] (h1 : c → A) (h2 : ¬ c → B) : if c then A else B := by
  by_cases h : c
  · rw [if_pos h]
    exact h1 h
  · rw [if_neg h]
    exact h2 h
def Same (H H' : Hp) : Prop := ∀ b o, H b = some o → H' b = some o
theorem Same.refl (H : Hp) : Same H H := fun _ _ h => h
theorem Same.trans {H H1 H2 : Hp} (a : Same H H1) (b : Same H1 H2) : Same H H2 := fun c o h => b c o (a c o h)
theorem Same.free {H H' : Hp} (e : Same H H') {l : Addr} (h : H' l = Option.none) : H l = Option.none := by
  cases q : H l with
  | none => rfl
  | some o =>
    rw [e l o q] at h
    cases h
theorem Same.seq {K : PySem.W.Frag} {H H' : Hp} {a : Addr} {xs : List V} (e : Same H H') (h : SqL K H a xs) : SqL K H' a xs := by
  rcases h with (h | ⟨o, h⟩) | h
  · exact .inl (.inl (e _ _ h))
  · exact .inl (.inr ⟨o, e _ _ h⟩)
  · exact .inr h
section
variable {κ : Type} [DecidableEq κ]
end
end L2
set_option Elab.async false
set_option linter.all false
set_option maxRecDepth 100000
set_option maxHeartbeats 4000000
namespace L2
open PySem PySem.Spec PyProof.Rows
abbrev NoX : Value → Shared → Prop := fun _ _ => False
theorem noX {al : Type} {t : Sem al} {Q : al → Shared → Prop} {M : Model} {A : Around} {E : Value → Shared → Prop} {s : Shared} (h : wpAny M A t Q NoX s) : wpAny M A t Q E s :=
  wpAny_mono h (fun _ _ q => q) fun _ _ z => z.elim
def capSt (cap : List (Option Nat)) (σ : St) : St := cap.map fun o => match o with
  | none => none
  | some j => (σ[j]?).join
inductive Ext : St → St → Prop
  | nil : Ext [] []
  | skip {a b : St} {x : Option V} : Ext a b → Ext (none :: a) (x :: b)
  | keep {a b : St} {x : Option V} : Ext a b → Ext (x :: a) (x :: b)
theorem Ext.len {a b : St} (h : Ext a b) : a.length = b.length := by
  induction h with
  | nil => rfl
  | skip _ ih => simp [ih]
  | keep _ ih => simp [ih]
theorem Ext.get {a b : St} (h : Ext a b) : ∀ (i : Nat) v, a[i]? = some (some v) → b[i]? = some (some v) := by
  induction h with
  | nil => intro i v e; simp at e
  | skip _ ih =>
    intro i v e
    cases i with
    | zero => simp at e
    | succ i => simpa using ih i v (by simpa using e)
  | keep _ ih =>
    intro i v e
    cases i with
    | zero => simpa using e
    | succ i => simpa using ih i v (by simpa using e)
def Cx.block (X : Cx) (sc : Scope) (cl : List (Str × Addr)) (N : List Str) (s : Shared) (H : Hp) (C : Addr) (ex : List Addr) : Cx where
  prog := X.prog
  w := X.w
  K := X.K
  mg := X.mg
  base := X.base
  A := X.A
  N := N
  s₀ := s
  H₀ := H
  env := compEnvC sc cl C X.env
  outer := X.stack
  stack := X.stack
  ex := ex
  fn := fun _ => false
  calm := X.calm
  pn := []
  xe := NoX
theorem closure_ok {env : Env} : ∀ (names : List (Str × NameKind)) (cs : List (Str × Addr)), (∀ n, (n, NameKind.free) ∈ names → ∃ c, env.cells.lookup n = some c) →
    (∀ x c, cs.lookup x = some c → env.cells.lookup x = some c) →
    ∃ cl : List (Str × Addr), (forIn names cs fun (x : Str × NameKind) (r : List (Str × Addr)) => (if (x.2 == NameKind.free) = true then do let c ← cellOf env x.1; pure (ForInStep.yield ((x.1, c) :: r)) else pure (ForInStep.yield r)) : Sem (List (Str × Addr))) = pure cl ∧
      (∀ x c, cl.lookup x = some c → env.cells.lookup x = some c) ∧ (∀ n, (n, NameKind.free) ∈ names → ∃ c, cl.lookup n = some c) ∧ (∀ n c, cs.lookup n = some c → ∃ c, cl.lookup n = some c)
  | [], cs, _, hc => ⟨cs, rfl, hc, fun _ h => (nomatch h), fun n c e => ⟨c, e⟩⟩
  | (n, k) :: r, cs, h, hc => by
    by_cases hk : k = .free
    · subst hk
      obtain ⟨c, ec⟩ := h n List.mem_cons_self
      have hc' : ∀ x c', ((n, c) :: cs).lookup x = some c' → env.cells.lookup x = some c' := fun x c' e => by
        rw [List.lookup_cons] at e
        cases hx : x == n with
        | true => rw [hx] at e; cases e; rw [eq_of_beq hx]; exact ec
        | false => rw [hx] at e; exact hc x c' e
      obtain ⟨cl, e1, e2, e3, e4⟩ := closure_ok r ((n, c) :: cs) (fun m hm => h m (List.mem_cons_of_mem _ hm)) hc'
      refine ⟨cl, ?_, e2, fun m hm => ?_, fun m c' e => ?_⟩
      · rw [List.forIn_cons, ← e1]
        simp only [beq_self_eq_true, if_true, cellOf, ec]
        rfl
      · rcases List.mem_cons.mp hm with z | z
        · cases z
          exact e4 n c (by simp)
        · exact e3 m z
      · by_cases hm : m = n
        · subst hm; exact e4 m c (by simp)
        · exact e4 m c' (by rw [List.lookup_cons, beq_eq_false_iff_ne.mpr hm]; exact e)
    · have hb : (k == NameKind.free) = false := by simpa using hk
      obtain ⟨cl, e1, e2, e3, e4⟩ := closure_ok r cs (fun m hm => h m (List.mem_cons_of_mem _ hm)) hc
      refine ⟨cl, ?_, e2, fun m hm => ?_, e4⟩
      · rw [List.forIn_cons, ← e1]
        simp only [hb, Bool.false_eq_true, if_false]
        rfl
      · rcases List.mem_cons.mp hm with z | z
        · cases z; exact absurd rfl hk
        · exact e3 m z
theorem closure_of {sc : Scope} {env : Env} (h : ∀ n, (n, NameKind.free) ∈ sc.names → ∃ c, env.cells.lookup n = some c) :
    ∃ cl : List (Str × Addr), closureFor sc env = pure cl ∧ (∀ x c, cl.lookup x = some c → env.cells.lookup x = some c) ∧ (∀ n, (n, NameKind.free) ∈ sc.names → ∃ c, cl.lookup n = some c) := by
  obtain ⟨cl, e1, e2, e3, _⟩ := closure_ok (env := env) sc.names [] h (fun x c e => by simp at e)
  refine ⟨cl, ?_, e2, e3⟩
  unfold closureFor
  rw [← bind_pure (pure cl), ← e1]
theorem lookup_mem {names : List (Str × NameKind)} {x : Str} {k : NameKind} (h : names.lookup x = some k) : (x, k) ∈ names := by
  induction names with
  | nil => simp at h
  | cons p r ih =>
    obtain ⟨n, j⟩ := p
    rw [List.lookup_cons] at h
    cases hx : x == n with
    | true => rw [hx] at h; cases h; rw [eq_of_beq hx]; exact List.mem_cons_self
    | false => rw [hx] at h; exact List.mem_cons_of_mem _ (ih h)
theorem relabel_free {sc : Scope} {env : Env} {x : Str} {k : NameKind} (hk : k = .cell ∨ k = .free) (nc : ∀ y ∈ sc.names, y.2 ≠ .cell) (h : (relabel sc env).names.lookup x = some k) : (x, NameKind.free) ∈ sc.names := by
  have m := lookup_mem h
  obtain ⟨⟨n, j⟩, hm, e⟩ := List.mem_map.mp m
  have q : (if (j == NameKind.free && env.scope.kind == .function && env.kindOf n == some .cell) = true then (n, NameKind.cell) else (n, j)) = (x, k) := e
  split at q
  · rename_i c
    rw [Bool.and_eq_true, Bool.and_eq_true] at c
    have j' : j = .free := by simpa using c.1.1
    cases q
    rw [j'] at hm
    exact hm
  · cases q
    rcases hk with z | z
    · exact absurd z (nc _ hm)
    · rw [z] at hm; exact hm
theorem lookup_relabel_free {sc : Scope} {env : Env} {x : Str} : ∀ {names : List (Str × NameKind)}, names.lookup x = some .free →
    (names.map fun (n, k) => if (k == NameKind.free && env.scope.kind == .function && env.kindOf n == some .cell) then (n, NameKind.cell) else (n, k)).lookup x = some .cell ∨
    (names.map fun (n, k) => if (k == NameKind.free && env.scope.kind == .function && env.kindOf n == some .cell) then (n, NameKind.cell) else (n, k)).lookup x = some .free
  | [], h => by simp at h
  | (n, k) :: r, h => by
    have ih := @lookup_relabel_free sc env x r
    rw [List.lookup_cons] at h
    by_cases c : (k == NameKind.free && env.scope.kind == .function && env.kindOf n == some .cell) = true
    · rw [List.map_cons]
      simp only [c, if_true, List.lookup_cons]
      cases hx : x == n with
      | true => exact .inl rfl
      | false => rw [hx] at h; exact ih h
    · rw [List.map_cons]
      have c' := Bool.eq_false_iff.mpr c
      simp only [c', Bool.false_eq_true, if_false, List.lookup_cons]
      cases hx : x == n with
      | true => rw [hx] at h; cases h; exact .inr rfl
      | false => rw [hx] at h; exact ih h
theorem comp_loop {P : Program} {w : World} {A : Around} {R : Result → Shared → Prop} {s : Shared} {elt tg iter : Expr} {ifs : List Expr} {sc : Scope} {pos : Pos} {it acc : Value} {env : Env} (J : Nat → Shared → Prop)
    (turn : ∀ n s, J n s → wpAny (model P w) A (pyNext it) (fun r s1 => match r with
      | none => R (.ok .next) s1
      | some v => wpAny (model P w) A (letOwnedTupleGo tg it v) (fun _ s2 => wpAny (model P w) A (assign tg env v) (fun _ s3 =>
          wpAny (model P w) A (forIn ifs true fun c r => if r = true then do let ok ← isTrue c env (eval c env); pure (ForInStep.yield ok) else pure (ForInStep.yield r)) (fun ok s4 =>
            if ok = true then wpAny (model P w) A (eval elt env) (fun x s5 => wpAny (model P w) A (call (.builtin "list.append") [acc, x]) (fun _ s6 => ∃ m, m < n ∧ J m s6) NoX s5) NoX s4
            else ∃ m, m < n ∧ J m s4) NoX s3) NoX s2) NoX s1) NoX s) (n : Nat) (h : J n s) :
    codeAny (model P w) A (.compLoop (.ListComp elt [⟨tg, iter, ifs, 0⟩] sc pos) 0 it acc env) R s := by
  refine codeAny_loop rfl J (fun n s hJ => ?_) n h
  refine wpAny_noted ?_
  rw [compTurn_list]
  refine wpAny_bind (wpAny_standAt (wpAny_bind (noX (thn (turn n s hJ) fun r s1 h1 => ?_))))
  cases r with
  | none => exact wpAny_pure h1
  | some v =>
    refine wpAny_bind (noX (thn h1 fun _ s2 h2 => ?_))
    refine wpAny_bind (noX (thn h2 fun _ s3 h3 => ?_))
    refine wpAny_bind (noX (thn h3 fun ok s4 h4 => ?_))
    cases ok with
    | false => exact wpAny_pure ⟨rfl, h4⟩
    | true => exact wpAny_bind (wpAny_bind (noX (thn h4 fun x s5 h5 => wpAny_bind (noX (thn h5 fun _ s6 h6 => wpAny_pure (wpAny_pure ⟨rfl, h6⟩))))))
def PTs (X : Cx) (ifs : List Expr) (t : TT) : Prop :=
  ∀ (pins : List (Addr × Obj)) (s : Shared) (σ : St) (H : Hp) (Q : Bool → Hp → Prop), Inv X pins σ H s → t σ H Q →
    wpAny (model X.prog X.w) X.A (forIn ifs true fun c r => if r = true then do let ok ← isTrue c X.env (eval c X.env); pure (ForInStep.yield ok) else pure (ForInStep.yield r)) (TP X pins σ Q) X.xe s
def tYes : TT := fun _ H Q => Q true H
theorem pts_nil {X : Cx} : PTs X [] tYes := fun _ _ _ H _ I h => wpAny_tests_nil ⟨H, I, h⟩
def tComp (cap : List (Option Nat)) (wi : TI) (g : TG) (tt : TT) (te : TE) : TE := fun σ H Q => wi σ H fun J H1 => ∀ acc, H1 acc = none →
  ∃ W : Nat → Nat → Hp → Prop, (∃ m, W 0 m (upd H1 acc (.lst []))) ∧ ∀ i m H2, W i m H2 →
    (J.stop i H2 ∧ Q (.ref acc) H2) ∨ (J.go i H2 ∧ ∃ N : Hp → Prop, (∀ H', N H' → ∃ m', m' < m ∧ W (i + 1) m' H') ∧ ∀ x H3, J.yld i H2 x H3 → g x (capSt cap σ) H3 fun σ2 H4 => Ext (capSt cap σ) σ2 ∧ tt σ2 H4 fun b H5 =>
      if b = true then te σ2 H5 fun y H6 => ∃ zs, H6 acc = some (.lst zs) ∧ zs.length < sizeLine ∧ N (upd H6 acc (.lst (zs ++ [y])))
      else N H5)
theorem HOk.but {P : Program} {w : World} {H : Hp} {h h' : Heap} {C : Addr} (x : HOk P w H h) (n : H C = none) (sb : Heap.SameBut C h h') : HOk P w H h' := fun a o e =>
  (x a o e).stay (fun b u hb q => (sb.2 b (fun z => by
    subst z
    rcases hb with z | z
    · subst z; rw [n] at e; cases e
    · rw [n] at z; cases z)).trans q) (fun _ q => q) fun _ _ q => q
theorem Un.but {fs ex : List Addr} {H H' : Hp} {h h1 h2 : Heap} {C : Addr} (u : Un fs ex H H' h h1) (lt : h.objs.size ≤ C) (sb : Heap.SameBut C h1 h2) : Un fs ex H H' h h2 := by
  have ne : ∀ b o, h.get? b = some o → b ≠ C := fun b o e => Nat.ne_of_lt (Nat.lt_of_lt_of_le (Heap.lt_size e) lt)
  refine ⟨fun b o e n hb hx => (sb.2 b (ne b o e)).trans (u.keep b o e n hb hx), fun b o e n hb hx => ?_, u.free, fun b o e hx => ?_, u.tups, u.frzs, u.tbls⟩
  · obtain ⟨sl, q⟩ := u.slot b o e n hb hx
    exact ⟨sl, (sb.2 b (ne b o e)).trans q⟩
  · obtain ⟨o', q⟩ := u.there b o e hx
    exact ⟨o', (sb.2 b (ne b o e)).trans q⟩
section
variable {X : Cx}
theorem block_ok {pins : List (Addr × Obj)} {σ : St} {H : Hp} {s : Shared} {sc : Scope} {cl : List (Str × Addr)} {N : List Str} {C : Addr} {fp : List Addr} (I : Inv X pins σ H s) (hk : sc.kind = .function) (nc : ∀ y ∈ sc.names, y.2 ≠ .cell)
    (hC : s.heap.objs.size ≤ C) (hf : ∀ b ∈ fp, FpOk X pins H b) (hfo : ∀ b ∈ fp, ∃ o, s.heap.get? b = some o) (c1 : ∀ x c, cl.lookup x = some c → X.env.cells.lookup x = some c) (c2 : ∀ n, (n, NameKind.free) ∈ sc.names → ∃ c, cl.lookup n = some c) :
    (X.block sc cl N s H C fp).Ok where
  mod := I.ok.mod
  kind := hk
  glob := I.ok.glob
  blt := I.ok.blt
  above := hC
  inj := fun x y c e e' => I.ok.inj x y c (c1 x c e) (c1 y c e')
  has := fun x h => c2 x (h.elim (relabel_free (.inl rfl) nc) (relabel_free (.inr rfl) nc))
  cab := fun x c e => (nomatch e)
  hd := I.ok.hd
  frames := I.ok.frames
  stk := .inl rfl
  exf := fun b hb => ⟨fun z => by
    obtain ⟨o, e⟩ := hfo b hb
    have lt := Heap.lt_size e
    rw [z] at lt
    exact absurd (Nat.lt_of_lt_of_le lt hC) (Nat.lt_irrefl _), fun x c e => (hf b hb).2.2.2.2.1 x c (c1 x c e)⟩
  bs := I.bs
  bsz := Nat.le_trans I.ok.bsz I.sz
  noex := fun b o e hb => by
    rcases (hf b hb).2.2.2.1 with z | z
    · exact I.ok.noex b o e z
    · exact absurd (Nat.lt_of_lt_of_le (Heap.lt_size (I.ok.bs b o e).1) z) (Nat.lt_irrefl _)
  exfs := fun b hb hs => by
    rcases List.mem_cons.mp (I.stkSub b hs) with z | z
    · exact (hf b hb).2.1 z
    · exact (hf b hb).2.2.1 z
  funs := I.stack
  frf := I.stkFree
theorem pe_comp {elt tg iter : Expr} {ifs : List Expr} {sc : Scope} {pos : Pos} {wi : TI} {g : TG} {tt : TT} {te : TE} (N : List Str) (cap : List (Option Nat)) (hc : X.calm = true) (hi : PI X tg iter wi)
    (hg : ∀ cl s H C ex, PG (X.block sc cl N s H C ex) tg g) (ht : ∀ cl s H C ex, PTs (X.block sc cl N s H C ex) ifs tt) (he : ∀ cl s H C ex, PE (X.block sc cl N s H C ex) elt te)
    (hk : sc.kind = .function) (nc : ∀ y ∈ sc.names, y.2 ≠ .cell) (hnames : ∀ y ∈ sc.names, y.2 = .local → sc.names.lookup y.1 = some .local)
    (hfree : ∀ n, (n, NameKind.free) ∈ sc.names → X.env.kindOf n = some .cell)
    (hcap : ∀ (i j : Nat), cap[i]? = some (some j) → ∃ x, N[i]? = some x ∧ X.N[j]? = some x ∧ sc.names.lookup x = some .free) (hlen : cap.length = N.length)
    (hs : ∀ x, foldedSetIterable iter X.env x = pure x := by intro _; rfl) : PE X (.ListComp elt [⟨tg, iter, ifs, 0⟩] sc pos) (tComp cap wi g tt te) := by
  intro pins s σ H Q I h
  obtain ⟨cl, hclos, c1, c2⟩ := closure_of (sc := sc) (env := X.env) fun n hn => I.ok.has n (.inl (hfree n hn))
  rw [eval_ListComp]
  refine wpAny_comprehension_free (use := none) rfl hs hclos hk hnames ?_
  refine thn (hi pins s σ H _ I h) fun v s1 h1 => thn h1 fun itv s2 h2 => ?_
  obtain ⟨it, fp, tn, J, H2, e, I2, T, st2, f2, q2⟩ := h2
  subst e
  have hfr : H2 s2.heap.objs.size = none := I2.fresh
  obtain ⟨W, ⟨m0, w0⟩, turn⟩ := q2 s2.heap.objs.size hfr
  have I3 := I2.lnew (ys := []) (its := []) (t' := s2.toks) .nil (Nat.zero_le _)
  have hacc : H2 s2.heap.objs.size = none := hfr
  refine wpAny_newObj_type (wpAny_newFunctionEnv nc (by intro y hy; simp at hy) (fun h4 hns hsb => ?_) hk)
  generalize hs3 : ({ s2 with heap := s2.heap.push { cls := .type "list", data := .seq ([] : List Value).toArray } } : Shared) = s3 at hns hsb I3 ⊢
  have hheap : s3.heap = s2.heap.push { cls := .type "list", data := .seq ([] : List Value).toArray } := by rw [← hs3]
  generalize hH3 : upd H2 s2.heap.objs.size (.lst []) = H3 at I3 w0
  have up2 : ∀ b o, s2.heap.get? b = some o → s3.heap.get? b = some o := fun b o q => by rw [hheap]; exact Heap.get?_push_of_some _ q
  have neA : ∀ b ∈ fp, b ≠ s2.heap.objs.size := fun b hb => by
    obtain ⟨o, q, _⟩ := T.obj _ _ st2 b hb
    exact Nat.ne_of_lt (Heap.lt_size q)
  have f3 : ∀ b ∈ fp, FpOk X pins H3 b := fun b hb => ⟨by rw [← hH3, upd_ne (neA b hb)]; exact (f2 b hb).1, (f2 b hb).2⟩
  have o3 : ∀ b ∈ fp, ∃ o, s3.heap.get? b = some o := fun b hb => by
    obtain ⟨o, q, _⟩ := T.obj _ _ st2 b hb
    exact ⟨o, up2 b o q⟩
  have ok' := block_ok (N := N) (C := s3.heap.objs.size) I3 hk nc (Nat.le_refl _) f3 o3 c1 c2
  generalize hC : s3.heap.objs.size = C at hns hsb ok' ⊢
  have ltC : ∀ b o, s3.heap.get? b = some o → b ≠ C := fun b o q => by rw [← hC]; exact Nat.ne_of_lt (Heap.lt_size q)
  have up4 : ∀ b o, s3.heap.get? b = some o → h4.get? b = some o := fun b o q => hsb.extBut b o (ltC b o q) (Heap.get?_push_of_some _ q)
  have st4 : tn 0 h4 := T.keep _ _ _ st2 fun b hb o q => up4 b o (up2 b o q)
  have I4 : Inv (X.block sc cl N s3 H3 C fp) [] (capSt cap σ) H3 { s3 with heap := h4, toks := s3.toks + ([] : List (Str × Value)).length } := by
    refine ⟨ok', rfl, I3.bare, Un.kept up4, ⟨_, hns, fun i x v e1 e2 e3 => ?_⟩, fun x c q => ?_, ?_, fun x c q => I3.freeC x c (c1 x c q), fun p hp => (nomatch hp), I3.hok.kept up4, ?_⟩
    · have ee : ∃ j, cap[i]? = some (some j) ∧ σ[j]? = some (some v) := by
        unfold capSt at e2
        rw [List.getElem?_map] at e2
        cases q : cap[i]? with
        | none => rw [q] at e2; cases e2
        | some o =>
          rw [q] at e2
          cases o with
          | none => cases e2
          | some j =>
            refine ⟨j, rfl, ?_⟩
            have e2' : some ((σ[j]?).join) = some (some v) := e2
            cases z : σ[j]? with
            | none => rw [z] at e2'; cases e2'
            | some o' =>
              rw [z] at e2'
              have e2'' : o' = some v := Option.some.inj e2'
              rw [e2'']
      obtain ⟨j, ej, es⟩ := ee
      obtain ⟨x', n1, n2, n3⟩ := hcap i j ej
      have e1' : N[i]? = some x := e1
      rw [n1] at e1'
      cases e1'
      have hfr' : (x, NameKind.free) ∈ sc.names := lookup_mem n3
      have kc := hfree x hfr'
      obtain ⟨m, _, hl⟩ := I3.loc
      obtain ⟨u, r, l⟩ := hl j x v n2 es (.inr (.inl kc))
      refine ⟨u, r, ?_⟩
      rcases l with ⟨l, _⟩ | ⟨_, c, ec, z⟩
      · rw [kc] at l; cases l
      · obtain ⟨c', ec'⟩ := c2 x hfr'
        have := c1 x c' ec'
        rw [ec] at this
        cases this
        obtain ⟨oc, q1, q2⟩ := z
        exact .inr ⟨lookup_relabel_free (sc := sc) n3, c, ec', oc, up4 _ _ q1, q2⟩
    · obtain ⟨v, oc, q1, q2⟩ := I3.cell x c (c1 x c q)
      exact ⟨v, oc, up4 _ _ q1, q2⟩
    · exact I3.hok.fresh (by rw [hC]; exact Nat.le_refl _)
    · show (capSt cap σ).length = N.length
      unfold capSt
      rw [List.length_map, hlen]
  have loop : codeAny (model X.prog X.w) X.A (.compLoop (.ListComp elt [⟨tg, iter, ifs, 0⟩] sc pos) 0 (.ref it) (.ref s2.heap.objs.size) (compEnvC sc cl C X.env)) (compPost (model X.prog X.w) X.A X.xe none (EP X pins σ Q) (.ref s2.heap.objs.size) C)
      { s3 with heap := h4, toks := s3.toks + ([] : List (Str × Value)).length } := by
    have stat : ∀ {H' : Hp}, (∀ b ∈ fp, H' b = none) → ∀ b ∈ fp, FpOk (X.block sc cl N s3 H3 C fp) [] H' b := fun hn b hb =>
      ⟨hn b hb, (ok'.exf b hb).1, ok'.exfs b hb, .inl hb, (ok'.exf b hb).2, fun p hp => (nomatch hp)⟩
    refine comp_loop (fun n s' => ∃ i H', Inv (X.block sc cl N s3 H3 C fp) [] (capSt cap σ) H' s' ∧ tn i s'.heap ∧ (∀ b ∈ fp, H' b = none) ∧ W i n H') ?_ m0 ⟨0, H3, I4, st4, fun b hb => (f3 b hb).1, w0⟩
    rintro n s5 ⟨i, H5, I5, st5, fr5, w5⟩
    rcases turn i n H5 w5 with ⟨stop, qn⟩ | ⟨go, N', hN', step⟩
    · refine thn (T.done (X.block sc cl N s3 H3 C fp) rfl rfl rfl hc i [] s5 _ H5 NoX I5 (stat fr5) st5 stop) fun r s6 ⟨hr, I6⟩ => ?_
      subst hr
      obtain ⟨m, hm, _⟩ := I6.loc
      refine ⟨m, hm, fun h' sb => ⟨.ref s2.heap.objs.size, H5, ?_, rfl, qn⟩⟩
      refine I3.call' (s' := { s6 with heap := h' }) (ch := fp) I6.os (I6.base.but (by rw [← hC]; exact Nat.le_refl _) sb) (I6.hok.but I6.free sb) I6.bare fun b hb => ?_
      obtain ⟨g0, g1, g2, g3, g4, g5⟩ := f3 b hb
      exact ⟨g3, g1, g4, g5⟩
    · refine thn (T.item (X.block sc cl N s3 H3 C fp) rfl rfl rfl hc i [] s5 _ H5 NoX I5 (stat fr5) st5 go) fun r s6 ⟨u, hr, h6⟩ => ?_
      subst hr
      refine thn h6 fun _ s7 ⟨x, H7, I7, r7, y7, st7, fr7⟩ => ?_
      have I7' := I7.pinned (stat fr7) (T.obj _ _ st7)
      have again : ∀ {σ8 : St} {H8 : Hp} {s8 : Shared}, Inv (X.block sc cl N s3 H3 C fp) ([] ++ pinsAt fp s7.heap) σ8 H8 s8 → Ext (capSt cap σ) σ8 → N' H8 →
          ∃ m, m < n ∧ ∃ i H', Inv (X.block sc cl N s3 H3 C fp) [] (capSt cap σ) H' s8 ∧ tn i s8.heap ∧ (∀ b ∈ fp, H' b = none) ∧ W i m H' := fun {σ8 H8 s8} I8 ex n8 => by
        obtain ⟨m', hm, w8⟩ := hN' H8 n8
        have I8' := I8.unpinned.weak ex.len ex.get
        refine ⟨m', hm, i + 1, H8, I8', T.keep _ _ _ st7 fun b hb o q => (I8.pin (b, o) (List.mem_append_right _ (List.mem_append_right _ (mem_pinsAt hb q)))).1, fun b hb => ?_, w8⟩
        obtain ⟨o, q, d⟩ := T.obj _ _ st7 b hb
        exact (I8.pin (b, o) (List.mem_append_right _ (List.mem_append_right _ (mem_pinsAt hb q)))).2.1
      refine thn (hg cl s3 H3 C fp _ s7 _ H7 x u _ I7' r7 (step x H7 y7)) fun _ s8 ⟨σ8, H8, I8, ex8, q8⟩ => ?_
      refine thn (ht cl s3 H3 C fp _ s8 σ8 H8 _ I8 q8) fun b s9 ⟨H9, I9, q9⟩ => ?_
      cases b with
      | false => exact again I9 ex8 q9
      | true =>
        rw [if_pos rfl] at q9 ⊢
        refine thn (he cl s3 H3 C fp _ s9 σ8 H9 _ I9 q9) fun yv s10 ⟨y, H10, I10, r10, zs, e10, l10, q10⟩ => ?_
        refine thn (mt_append (X := X.block sc cl N s3 H3 C fp) _ s10 σ8 H10 (.ref s2.heap.objs.size) [y] (.ref s2.heap.objs.size) [yv] (fun _ H' => N' H') I10 rfl (.cons r10 .nil) ⟨_, zs, y, rfl, rfl, e10, l10, q10⟩) fun _ s11 ⟨_, H11, I11, _, q11⟩ => ?_
        exact again I11 ex8 q11
  exact codeAny_compStart_list loop (T.self X.A 0 _ _ _ st4 loop)
end
def compCk (sc : Scope) (env : Env) (XN N : List Str) (cap : List (Option Nat)) : Bool :=
  (sc.kind == .function) && (sc.names.all fun y => y.2 != .cell) && (sc.names.all fun y => y.2 != .local || sc.names.lookup y.1 == some .local) &&
  (sc.names.all fun y => y.2 != .free || env.kindOf y.1 == some .cell) &&
  ((List.range cap.length).all fun i => match cap[i]? with
    | some (some j) => (match N[i]? with | some x => XN[j]? == some x && sc.names.lookup x == some .free | none => false)
    | _ => true) && (cap.length == N.length)
theorem pe_compB {X : Cx} {elt tg iter : Expr} {ifs : List Expr} {sc : Scope} {pos : Pos} {wi : TI} {g : TG} {tt : TT} {te : TE} (N : List Str) (cap : List (Option Nat)) (hc : X.calm = true) (hi : PI X tg iter wi)
    (hg : ∀ cl s H C ex, PG (X.block sc cl N s H C ex) tg g) (ht : ∀ cl s H C ex, PTs (X.block sc cl N s H C ex) ifs tt) (he : ∀ cl s H C ex, PE (X.block sc cl N s H C ex) elt te)
    (ck : compCk sc X.env X.N N cap = true) (hs : ∀ x, foldedSetIterable iter X.env x = pure x := by intro _; rfl) : PE X (.ListComp elt [⟨tg, iter, ifs, 0⟩] sc pos) (tComp cap wi g tt te) := by
  unfold compCk at ck
  simp only [Bool.and_eq_true] at ck
  obtain ⟨⟨⟨⟨⟨k1, k2⟩, k3⟩, k4⟩, k5⟩, k6⟩ := ck
  refine pe_comp N cap hc hi hg ht he (by simpa using k1) (fun y hy => ?_) (fun y hy z => ?_) (fun n hn => ?_) (fun i j e => ?_) (by simpa using k6) hs
  · have := List.all_eq_true.mp k2 y hy
    simpa using this
  · have := List.all_eq_true.mp k3 y hy
    rw [z] at this
    simpa using this
  · have := List.all_eq_true.mp k4 _ hn
    simpa using this
  · have hi : i < cap.length := (List.getElem?_eq_some_iff.mp e).1
    have := List.all_eq_true.mp k5 i (List.mem_range.mpr hi)
    rw [e] at this
    dsimp only at this
    cases q : N[i]? with
    | none => rw [q] at this; cases this
    | some x =>
      rw [q] at this
      dsimp only at this
      rw [Bool.and_eq_true] at this
      exact ⟨x, rfl, by simpa using this.1, by simpa using this.2⟩
end L2
set_option Elab.async false
set_option linter.all false
set_option maxRecDepth 100000
set_option maxHeartbeats 4000000
namespace L2
open PySem PySem.Spec PyProof.Rows
section
variable {prog : Program} {w : World} {A : Around} {E : Value → Shared → Prop} {s : Shared}
theorem next_tup_item {it t : Addr} {i : Nat} {items : Array Value} {x : Value} {Q : Value → Shared → Prop} (hit : s.heap.IsTupleIter it t i) (ht : s.heap.IsTuple t items) (hx : items[i]? = some x)
    (hQ : ∀ h', h'.IsTupleIter it t (i + 1) → Heap.SameBut it s.heap h' → Q x { s with heap := h' }) : wpAny (model prog w) A (Builtin.SmallTypes.nextOf (.ref it)) Q E s := by
  obtain ⟨o, ho, hc, hd⟩ := id hit; obtain ⟨ol, hol, _, nl, hdl⟩ := ht; unfold Builtin.SmallTypes.nextOf
  refine wpAny_bind (wpAny_callSpecial?_slot (name := Str.ofString "__next__") hit.typeIs F.slot_tuple_iterator_next (wpAny_call_entry F.slot_tuple_iterator_next hit.typeIs F.entry_tuple_iterator_next ?_ (F.args_tuple_iterator_next_1 _)))
  show wpAny _ _ (field (.ref it) 0 >>= _) _ _ s; refine wpAny_bind (wpAny_field ho hd (x := .ref t) rfl ?_)
  show wpAny _ _ (if (Value.ref t == Value.none) = true then _ else _) _ _ s; rw [if_neg (show ¬ ((Value.ref t == Value.none) = true) from Bool.false_ne_true)]
  show wpAny _ _ (field (.ref it) 1 >>= _) _ _ s; refine wpAny_bind (wpAny_field ho hd (x := .int i 0) rfl ?_)
  show wpAny _ _ (seqItems? (.ref t) >>= _) _ _ s; refine wpAny_bind (wpAny_seqItems hol hdl ?_); simp only [Int.toNat_natCast, hx]
  refine wpAny_bind (wpAny_setField ho hd (by simp) (wpAny_pure ⟨x, rfl, wpAny_pure (hQ _ ?_ (Heap.SameBut.update ..))⟩))
  exact ⟨_, Heap.get?_update_self _ ho (Obj.isFreed_of_fields (Obj.data_mapFields hd _)), (Obj.cls_mapFields ..).trans hc, by rw [Obj.data_mapFields hd]; simp [rawInt]⟩
theorem next_tup_end {it t : Addr} {i : Nat} {items : Array Value} {Q : Value → Shared → Prop} (hh : A.handled = none) (hit : s.heap.IsTupleIter it t i) (ht : s.heap.IsTuple t items) (hx : items[i]? = none)
    (hE : ∀ h' e, Heap.ExtBut it s.heap h' → (∃ o, h'.get? e = some o ∧ o.cls = .type "StopIteration") → E (.ref e) { s with heap := h' }) : wpAny (model prog w) A (Builtin.SmallTypes.nextOf (.ref it)) Q E s := by
  obtain ⟨o, ho, hc, hd⟩ := id hit; obtain ⟨ol, hol, _, nl, hdl⟩ := ht; unfold Builtin.SmallTypes.nextOf
  refine wpAny_bind (wpAny_callSpecial?_slot (name := Str.ofString "__next__") hit.typeIs F.slot_tuple_iterator_next (wpAny_call_entry F.slot_tuple_iterator_next hit.typeIs F.entry_tuple_iterator_next ?_ (F.args_tuple_iterator_next_1 _)))
  show wpAny _ _ (field (.ref it) 0 >>= _) _ _ s; refine wpAny_bind (wpAny_field ho hd (x := .ref t) rfl ?_)
  show wpAny _ _ (if (Value.ref t == Value.none) = true then _ else _) _ _ s; rw [if_neg (show ¬ ((Value.ref t == Value.none) = true) from Bool.false_ne_true)]
  show wpAny _ _ (field (.ref it) 1 >>= _) _ _ s; refine wpAny_bind (wpAny_field ho hd (x := .int i 0) rfl ?_)
  show wpAny _ _ (seqItems? (.ref t) >>= _) _ _ s; refine wpAny_bind (wpAny_seqItems hol hdl ?_); simp only [Int.toNat_natCast, hx]
  refine wpAny_bind (wpAny_rule (wpAny_bind (wpAny_setField ho hd (by simp) ?_))); show wpAny _ _ (newExc (.type "StopIteration") [] >>= _) _ _ _
  refine wpAny_bind ?_; simp only [newExc, newTuple]; refine wpAny_bind (wpAny_newObj_type ?_ (by size_fits))
  refine wpAny_bind (m := firstArgMember _ _) (wpAny_of_eq (a := Value.none) (by first | rfl | (simp only [firstArgMember]; rfl)) ?_); refine wpAny_newObj_type ?_ (by size_fits)
  simp only [raiseNew]; refine wpAny_bind (wpAny_handled ?_); first | rw [show A.in1.handled = none from hh] | rw [hh]
  refine wpAny_bind (wpAny_pure (wpAny_throw ?_)); exact hE _ _ (((Heap.SameBut.update ..).extBut.push _).push _) ⟨_, Heap.get?_push_size _ rfl, rfl⟩
end
section
variable {X : Cx} {pins : List (Addr × Obj)} {σ : St} {H : Hp} {s : Shared} {h' : Heap}
theorem Inv.turnedN {t' : Nat} {ch : List Addr} (I : Inv X pins σ H s) (k : ∀ b o, b ∉ ch → s.heap.get? b = some o → h'.get? b = some o) (hf : ∀ b ∈ ch, FpOk X pins H b) : Inv X pins σ H { s with heap := h', toks := t' } := by
  refine I.step (g' := s.gens) (d' := s.drawn) (ch := ch) (fun b hb => ?_) (fun b o _ _ hc e _ => k b o hc e) (fun b o _ _ hc e _ => ⟨o.slots, k b o hc e⟩) (fun _ _ _ _ n => n)
    (fun b o hc e => ⟨o, k b o hc e⟩) (fun _ _ e => e) (fun _ _ _ e => e) (fun b ps e => ⟨#[], by rw [e]; simp⟩) (fun m hm => ?_) (fun b u e => ?_) I.bare
  · obtain ⟨f0, f1, f2, f3, f4, f5⟩ := hf b hb
    exact ⟨f3, f1, f4, f5⟩
  · obtain ⟨o, es, ep, ho, r⟩ := hm
    exact ⟨o, es, ep, k _ o (fun z => (hf _ z).2.1 rfl) ho, r⟩
  · refine (I.hok b u e).stay (fun c v hc q => k c v (fun z => ?_) q) (fun _ q => q) fun _ _ q => q
    have n := (hf c z).1
    rcases hc with y | y
    · rw [y, e] at n; cases n
    · rw [y] at n; cases n
theorem Inv.turnedL {t' : Nat} {ch : List Addr} {a : Addr} {o : HO} (I : Inv X pins σ H s) (k : ∀ b o, b ∉ ch → s.heap.get? b = some o → h'.get? b = some o) (hf : ∀ b ∈ ch, FpOk X pins H b) (hp : s.heap.objs.size ≤ a)
    (new : ObjOk X.prog X.w (upd H a o) h' a o) : Inv X pins σ (upd H a o) { s with heap := h', toks := t' } := by
  have hn : H a = none := I.hok.fresh hp
  have ne : ∀ b u, s.heap.get? b = some u → b ≠ a := fun b u e => Nat.ne_of_lt (Nat.lt_of_lt_of_le (Heap.lt_size e) hp)
  refine I.step (g' := s.gens) (d' := s.drawn) (ch := ch) (fun b hb => ?_) (fun b o _ _ hc e _ => k b o hc e) (fun b o _ _ hc e _ => ⟨o.slots, k b o hc e⟩) (fun b u _ e n => by rw [upd_ne (ne b u e)]; exact n)
    (fun b o hc e => ⟨o, k b o hc e⟩) (fun b xs q => by rw [upd_ne (ne_of_none q hn)]; exact q) (fun b u xs q => by rw [upd_ne (ne_of_none q hn)]; exact q) (fun b ps q => ⟨#[], by rw [upd_ne (ne_of_none q hn), q]; simp⟩) (fun m hm => ?_) (fun b u e => ?_) I.bare
  · obtain ⟨f0, f1, f2, f3, f4, f5⟩ := hf b hb
    exact ⟨f3, f1, f4, f5⟩
  · obtain ⟨o, es, ep, ho, r⟩ := hm
    exact ⟨o, es, ep, k _ o (fun z => (hf _ z).2.1 rfl) ho, r⟩
  · by_cases hb : b = a
    · subst hb
      rw [upd_same] at e
      cases e
      exact new
    · rw [upd_ne hb] at e
      refine (I.hok b u e).stay (fun c v hc q => k c v (fun z => ?_) q) (fun c q => by rw [upd_ne (ne_of_none q hn)]; exact q) fun c xs q => by rw [upd_ne (ne_of_none q hn)]; exact q
      have n := (hf c z).1
      rcases hc with y | y
      · rw [y, e] at n; cases n
      · rw [y] at n; cases n
end
end L2
set_option Elab.async false
set_option linter.all false
set_option maxRecDepth 100000
set_option maxHeartbeats 4000000
namespace L2
open PySem PySem.Spec PyProof.Rows
section
variable {X : Cx}
theorem same_upd {H : Hp} {p : Addr} {o : HO} (h : H p = none) : Same H (upd H p o) := fun b u q => by rw [upd_ne (ne_of_none q h)]; exact q
def rIsi (K : PySem.W.Frag) : List V → Hp → VK → Prop := fun xs H Q => ∃ x T t b, xs = [x, .ty T] ∧ TyOf K H x t ∧ PySem.W.kitOne K t (.type T) = some b ∧ Q (.bl b) H
theorem call_isi : CallR X (.builtin "isinstance") (rIsi X.K) := by
  intro pins s σ H xs us Q I r h
  obtain ⟨x, T, t, b, rfl, ty, e, q⟩ := h
  obtain ⟨u, w', rfl, ru, rw'⟩ := vals2 r
  cases rw'
  exact isinst_ok I ru ty e fun tk => ⟨.bl b, H, I.tok tk, rfl, q⟩
def rSlS : V → Option Int → Option Int → Hp → VK → Prop := fun x lo hi H Q => ∃ z, x = .str z ∧ z.length ≤ sizeLine ∧ ((Txt.slice z lo hi).length ≤ z.length → Q (.str (Txt.slice z lo hi)) H)
theorem part_of {v : Value} {o : Option Int} (p : IsPart v o) : ∃ q : Option (Int × Tok), q.map (·.1) = o ∧ v = (match q with | none => Value.none | some (i, t) => .int i t) := by
  cases p with
  | none => exact ⟨none, rfl, rfl⟩
  | int i t => exact ⟨some (i, t), rfl, rfl⟩
theorem sl_str : SlR X rSlS := by
  intro pins s σ H x v vl vu lo hi sl Q I rx hs pl pu h
  obtain ⟨z, rfl, hz, q⟩ := h
  obtain ⟨t, rfl⟩ := rx
  obtain ⟨l, hl, el⟩ := part_of pl
  obtain ⟨u, hu, eu⟩ := part_of pu
  subst hl hu
  refine ⟨"str", _, F.slot_str_getitem.lookup, typeIs_str _ _ _, wpAny_getItem_str_slice (l := l) (u := u) (st := none) ?_ rfl (post_val_or_str ⟨Nat.le_trans (Txt.slice_le z _ _) hz, fun t' k => ⟨.str (Txt.slice z _ _), H, I.kept (fun _ _ e => e), ⟨t', rfl⟩, q (Txt.slice_le z _ _)⟩⟩)⟩
  obtain ⟨o, ho, hc, hd⟩ := hs
  refine ⟨o, ho, hc, ?_⟩
  rw [hd, el, eu]
  cases l <;> cases u <;> rfl
theorem eqV_str (a b : Str) : eqV (.str a) (.str b) = true ↔ a = b := by
  constructor
  · intro h; simpa [eqV] using h
  · intro h; subst h; simp [eqV]
end
end L2
set_option Elab.async false
set_option linter.all false
set_option maxRecDepth 100000
set_option maxHeartbeats 4000000
namespace L2
open PySem PySem.Spec PyProof.Rows
structure FnB (P : Program) (w : World) (K : PySem.W.Frag) (mg : Str → Option Value) (base : Heap) (k : Nat) (x : Str) (f : Addr) (fd : FuncData) (ps : List Str) (sp : Sp) : Prop where
  ok : FnOk P w K mg base CX0 k f fd ps sp
  bd : Binds K fd ps []
  kp : PySem.W.keepIn K (.ref f) = true
  gl : mg x = some (.ref f)
theorem FnB.up {P : Program} {w : World} {K : PySem.W.Frag} {mg : Str → Option Value} {base : Heap} {j k : Nat} {x : Str} {f : Addr} {fd : FuncData} {ps : List Str} {sp : Sp} (F : FnB P w K mg base j x f fd ps sp) (h : j ≤ k) : FnB P w K mg base k x f fd ps sp :=
  ⟨F.ok.mono h, F.bd, F.kp, F.gl⟩
def Tk (H H' : Hp) : Prop := ∀ b xs, H b = some (.tup xs) → H' b = some (.tup xs)
theorem Tk.trans {H H1 H2 : Hp} (a : Tk H H1) (b : Tk H1 H2) : Tk H H2 := fun c xs h => b c xs (a c xs h)
theorem Same.tk {H H' : Hp} (h : Same H H') : Tk H H' := fun b xs e => h b _ e
theorem Tk.lst {H : Hp} {p : Addr} {xs : List V} {o : HO} (h : H p = some (.lst xs)) : Tk H (upd H p o) := fun b ys e => by
  rw [upd_ne (fun z => by subst z; rw [h] at e; cases e)]; exact e
section
variable {X : Cx}
end
inductive Atom where
  | name (x : Str) | num (n : Int) | gap (g : Str)
inductive Bin where
  | add | sub | mul | thn
def Bin.s : Bin → Str
  | .add => "add" | .sub => "sub" | .mul => "mul" | .thn => "then"
inductive Tr where
  | num (n : Int) | name (x : Str) | ask (x : Str) | stop (x : Str) | gap (g : Str) (as : List Atom)
  | say (a : Tr) | bin (o : Bin) (a b : Tr) | ite (a b c : Tr) | lett (x : Str) (a b : Tr)
def AtRep (H : Hp) : Atom → V → Prop
  | .name x, v => ∃ a, v = .ref a ∧ H a = some (.tup [.str "name", .str x])
  | .num n, v => ∃ a, v = .ref a ∧ H a = some (.tup [.str "num", .int n])
  | .gap g, v => ∃ a b, v = .ref a ∧ H a = some (.tup [.str "gap", .str g, .ref b]) ∧ H b = some (.tup [])
def Rep (H : Hp) : Tr → V → Prop
  | .num n, v => ∃ a, v = .ref a ∧ H a = some (.tup [.str "num", .int n])
  | .name x, v => ∃ a, v = .ref a ∧ H a = some (.tup [.str "name", .str x])
  | .ask x, v => ∃ a, v = .ref a ∧ H a = some (.tup [.str "ask", .str x])
  | .stop x, v => ∃ a, v = .ref a ∧ H a = some (.tup [.str "stop", .str x])
  | .gap g as, v => ∃ a b us, v = .ref a ∧ H a = some (.tup [.str "gap", .str g, .ref b]) ∧ H b = some (.tup us) ∧ us.length ≤ 1000 ∧ Paired (AtRep H) as us
  | .say t, v => ∃ a u, v = .ref a ∧ H a = some (.tup [.str "say", u]) ∧ Rep H t u
  | .bin o s t, v => ∃ a u w, v = .ref a ∧ H a = some (.tup [.str o.s, u, w]) ∧ Rep H s u ∧ Rep H t w
  | .ite r s t, v => ∃ a u w z, v = .ref a ∧ H a = some (.tup [.str "if", u, w, z]) ∧ Rep H r u ∧ Rep H s w ∧ Rep H t z
  | .lett x s t, v => ∃ a u w, v = .ref a ∧ H a = some (.tup [.str "let", .str x, u, w]) ∧ Rep H s u ∧ Rep H t w
theorem AtRep.mono {H H' : Hp} (k : Tk H H') : ∀ {t : Atom} {v : V}, AtRep H t v → AtRep H' t v
  | .name _, _, ⟨a, e, h⟩ => ⟨a, e, k _ _ h⟩
  | .num _, _, ⟨a, e, h⟩ => ⟨a, e, k _ _ h⟩
  | .gap _, _, ⟨a, b, e, h, h'⟩ => ⟨a, b, e, k _ _ h, k _ _ h'⟩
theorem Rep.mono {H H' : Hp} (k : Tk H H') : ∀ {t : Tr} {v : V}, Rep H t v → Rep H' t v
  | .num _, _, ⟨a, e, h⟩ => ⟨a, e, k _ _ h⟩
  | .name _, _, ⟨a, e, h⟩ => ⟨a, e, k _ _ h⟩
  | .ask _, _, ⟨a, e, h⟩ => ⟨a, e, k _ _ h⟩
  | .stop _, _, ⟨a, e, h⟩ => ⟨a, e, k _ _ h⟩
  | .gap _ _, _, ⟨a, b, us, e, h, h', n, p⟩ => ⟨a, b, us, e, k _ _ h, k _ _ h', n, Paired.mapP p fun _ _ z => z.mono k⟩
  | .say _, _, ⟨a, u, e, h, r⟩ => ⟨a, u, e, k _ _ h, r.mono k⟩
  | .bin _ _ _, _, ⟨a, u, w, e, h, r, s⟩ => ⟨a, u, w, e, k _ _ h, r.mono k, s.mono k⟩
  | .ite _ _ _, _, ⟨a, u, w, z, e, h, r, s, t⟩ => ⟨a, u, w, z, e, k _ _ h, r.mono k, s.mono k, t.mono k⟩
  | .lett _ _ _, _, ⟨a, u, w, e, h, r, s⟩ => ⟨a, u, w, e, k _ _ h, r.mono k, s.mono k⟩
inductive Kd where
  | num | name | ask | stop | gap | say | add | sub | mul | thn | ite | lett
  deriving DecidableEq
def Kd.s : Kd → Str
  | .num => "num" | .name => "name" | .ask => "ask" | .stop => "stop" | .gap => "gap"
  | .say => "say" | .add => "add" | .sub => "sub" | .mul => "mul" | .thn => "then" | .ite => "if" | .lett => "let"
def Kd.leaf : Kd → Bool
  | .num => true | .name => true | .ask => true | .stop => true | .gap => true
  | _ => false
def Bin.kd : Bin → Kd
  | .add => .add | .sub => .sub | .mul => .mul | .thn => .thn
def Tr.kd : Tr → Kd
  | .num _ => .num | .name _ => .name | .ask _ => .ask | .stop _ => .stop | .gap _ _ => .gap
  | .say _ => .say | .bin o _ _ => o.kd | .ite _ _ _ => .ite | .lett _ _ _ => .lett
def Tr.sign (t : Tr) : Str := t.kd.s
theorem Bin.kd_s (o : Bin) : o.kd.s = o.s := by cases o <;> rfl
def Tr.parts : Tr → List Tr
  | .say a => [a] | .bin _ a b => [a, b] | .ite a b c => [a, b, c] | .lett _ a b => [a, b]
  | _ => []
def Tr.head : Tr → Nat
  | .gap _ _ => 3 | .say _ => 1 | .bin _ _ _ => 1 | .ite _ _ _ => 1
  | _ => 2
theorem Rep.all {H : Hp} : ∀ {t : Tr} {v : V}, Rep H t v → ∃ a hs us, v = .ref a ∧ H a = some (.tup (.str t.sign :: hs ++ us)) ∧ hs.length + 1 = t.head ∧ Paired (Rep H) t.parts us
  | .num n, _, ⟨a, e, h⟩ => ⟨a, [.int n], [], e, h, rfl, .nil⟩
  | .name x, _, ⟨a, e, h⟩ => ⟨a, [.str x], [], e, h, rfl, .nil⟩
  | .ask x, _, ⟨a, e, h⟩ => ⟨a, [.str x], [], e, h, rfl, .nil⟩
  | .stop x, _, ⟨a, e, h⟩ => ⟨a, [.str x], [], e, h, rfl, .nil⟩
  | .gap g _, _, ⟨a, b, us, e, h, h', _, p⟩ => ⟨a, [.str g, .ref b], [], e, h, rfl, .nil⟩
  | .say _, _, ⟨a, u, e, h, r⟩ => ⟨a, [], [u], e, h, rfl, .cons r .nil⟩
  | .bin o _ _, _, ⟨a, u, w, e, h, r, s⟩ => ⟨a, [], [u, w], e, (by show _ = some (HO.tup [V.str o.kd.s, u, w]); rw [Bin.kd_s]; exact h), rfl, .cons r (.cons s .nil)⟩
  | .ite _ _ _, _, ⟨a, u, w, z, e, h, r, s, t⟩ => ⟨a, [], [u, w, z], e, h, rfl, .cons r (.cons s (.cons t .nil))⟩
  | .lett x _ _, _, ⟨a, u, w, e, h, r, s⟩ => ⟨a, [.str x], [u, w], e, h, rfl, .cons r (.cons s .nil)⟩
def Tr.size : Tr → Nat
  | .say a => a.size + 1 | .bin _ a b => a.size + b.size + 1 | .ite a b c => a.size + b.size + c.size + 1 | .lett _ a b => a.size + b.size + 1
  | _ => 1
theorem paired_get {α : Type} {F : α → V → Prop} : ∀ {as : List α} {us : List V} {i : Nat} {u : V}, Paired F as us → us[i]? = some u → ∃ a, as[i]? = some a ∧ F a u
  | _, _, _, _, .nil, e => by simp at e
  | _, _, 0, _, .cons r _, e => by simp at e; subst e; exact ⟨_, rfl, r⟩
  | _, _, i + 1, u, .cons _ t, e => by
    obtain ⟨a, h1, h2⟩ := paired_get (i := i) (u := u) t (by simpa using e)
    exact ⟨a, by simpa using h1, h2⟩
theorem same_set {H H' : Hp} {p : Addr} {o : HO} (g : Same H H') (h : H p = none) : Same H (upd H' p o) := fun b u q => by rw [upd_ne (ne_of_none q h)]; exact g b u q
theorem take_next {α : Type} {as : List α} {i : Nat} {a : α} (h : as[i]? = some a) : as.take (i + 1) = as.take i ++ [a] := by
  rw [List.take_add_one, h]; rfl
def Atom.names : Atom → List Str
  | .name x => [x]
  | _ => []
def Tr.names : Tr → List Str
  | .name x => [x]
  | .gap _ as => as.flatMap Atom.names
  | _ => []
theorem line1000 {n : Nat} (h : n ≤ 1000) : n ≤ sizeLine := Nat.le_of_lt (small1000 h)
def constVs : List Expr → Option (List V)
  | [] => some []
  | .Constant (.str x) _ _ :: r => (constVs r).map fun l => V.str x :: l
  | .Constant (.int i) _ _ :: r => (constVs r).map fun l => V.int i :: l
  | _ => none
def tRow (vs : List V) : TA := fun _ H Q => Q vs H
theorem pa_row {X : Cx} : ∀ {es : List Expr} (vs : List V), constVs es = some vs → PA X es (tRow vs)
  | [], vs, h => by cases h; exact pa_nil
  | .Constant (.str x) j p :: r, vs, h => by
    obtain ⟨l, hl, e⟩ := Option.map_eq_some_iff.mp (show (constVs r).map (fun l => V.str x :: l) = some vs from h)
    subst e
    exact pa_cons pe_str (pa_row l hl)
  | .Constant (.int x) j p :: r, vs, h => by
    obtain ⟨l, hl, e⟩ := Option.map_eq_some_iff.mp (show (constVs r).map (fun l => V.int x :: l) = some vs from h)
    subst e
    exact pa_cons pe_int (pa_row l hl)
def rowT : Expr → Option (List V)
  | .Tuple es _ _ => constVs es
  | _ => none
def rowL : Expr → Option (List V)
  | .List es _ => constVs es
  | _ => none
theorem pe_tupR {X : Cx} {e : Expr} (vs : List V) (h : rowT e = some vs) : PE X e (tTup (tRow vs)) := by
  unfold rowT at h
  split at h
  · exact pe_tup (pa_row vs h)
  · cases h
theorem pe_lstR {X : Cx} {e : Expr} (vs : List V) (h : rowL e = some vs) : PE X e (tLst (tRow vs)) := by
  unfold rowL at h
  split at h
  · exact pe_lst (pa_row vs h)
  · cases h
end L2
set_option Elab.async false
set_option linter.all false
set_option maxRecDepth 100000
set_option maxHeartbeats 4000000
namespace L2
open PySem
abbrev DRow := Str × (Str ⊕ Int)
abbrev En := Str → Int
abbrev Res := List DRow × (Int ⊕ Str)
def askR (x : Str) : DRow := ("ask", .inl x)
def sayR (n : Int) : DRow := ("say", .inr n)
def Bin.op : Bin → Int → Int → Int
  | .add, m, n => (m + n) % 10 ^ 30
  | .sub, m, n => (m - n) % 10 ^ 30
  | .mul, m, n => (m * n) % 10 ^ 30
  | .thn, _, n => n
def En.set (e : En) (x : Str) (n : Int) : En := fun y => if y = x then n else e y
def pre (D : List DRow) (o : Option Res) : Option Res := o.map fun q => (D ++ q.1, q.2)
def seqR (r : Option Res) (k : Int → Option Res) : Option Res := r.bind fun r => match r.2 with
  | .inr w => some (r.1, .inr w)
  | .inl n => pre r.1 (k n)
def ev (a : En) : Tr → En → Option Res
  | .num n, _ => some ([], .inl n)
  | .name x, e => some ([], .inl (e x))
  | .ask x, _ => some ([askR x], .inl (a x))
  | .stop x, _ => some ([], .inr x)
  | .gap _ _, _ => none
  | .say t, e => seqR (ev a t e) fun n => some ([sayR n], .inl n)
  | .bin o s t, e => seqR (ev a s e) fun m => seqR (ev a t e) fun n => some ([], .inl (o.op m n))
  | .ite c s t, e => seqR (ev a c e) fun n => if n = 0 then ev a t e else ev a s e
  | .lett x s t, e => seqR (ev a s e) fun n => ev a t (e.set x n)
def aft (a : En) (t : Tr) (e : En) (E : List Int) : Option (Option Res × List Int) :=
  match t with
  | .say _ => match E with
    | n :: E => some (some ([sayR n], .inl n), E)
    | _ => none
  | .bin .thn _ t => match E with
    | _ :: E => some (ev a t e, E)
    | _ => none
  | .bin o _ _ => match E with
    | n :: m :: E => some (some ([], .inl (o.op m n)), E)
    | _ => none
  | .ite _ s t => match E with
    | n :: E => some (if n = 0 then ev a t e else ev a s e, E)
    | _ => none
  | .lett x _ t => match E with
    | n :: E => some (ev a t (e.set x n), E)
    | _ => none
  | _ => none
abbrev Item := Tr × En × Bool
def cont (a : En) : List Item → List Int → Option Res
  | [], [] => none
  | [], n :: _ => some ([], .inl n)
  | (t, e, false) :: W, E => seqR (ev a t e) fun n => cont a W (n :: E)
  | (t, e, true) :: W, E => (aft a t e E).bind fun p => seqR p.1 fun n => cont a W (n :: p.2)
section
variable {a e : En} {W : List Item} {E : List Int}
end
end L2
set_option Elab.async false
set_option linter.all false
set_option maxRecDepth 100000
set_option maxHeartbeats 4000000
namespace L2
open PySem PySem.Spec PyProof.Rows
section
variable {P : Program} {w : World} {K : PySem.W.Frag} {mg : Str → Option Value} {base : Heap}
structure FnM (P : Program) (w : World) (K : PySem.W.Frag) (mg : Str → Option Value) (base : Heap) (k : Nat) (C : Addr) (m : Str) (f : Addr) (fd : FuncData) (ps : List Str) (sp : Sp) : Prop where
  ok : FnOk P w K mg base CX0 k f fd ps sp
  bd : Binds K fd ps []
  mt : Meth K C m f
theorem FnM.up {j k : Nat} {C : Addr} {m : Str} {f : Addr} {fd : FuncData} {ps : List Str} {sp : Sp} (F : FnM P w K mg base j C m f fd ps sp) (h : j ≤ k) : FnM P w K mg base k C m f fd ps sp := ⟨F.ok.mono h, F.bd, F.mt⟩
end
end L2
set_option Elab.async false
set_option linter.all false
set_option maxRecDepth 100000
set_option maxHeartbeats 4000000
namespace L2
open PySem PySem.Spec PyProof.Rows
section
variable {prog : Program} {w : World} {A : Around} {E : Value → Shared → Prop} {s : Shared}
end
end L2
set_option Elab.async false
set_option linter.all false
set_option maxRecDepth 100000
set_option maxHeartbeats 4000000
namespace L2
open PySem PySem.Spec PyProof.Rows
theorem strs_back : ∀ {ys : List Str} {us : List Value}, Vals (ys.map V.str) us → StrsAre us ys
  | [], _, h => by cases h; exact .nil
  | y :: ys, _, h => by
    cases h with
    | cons r t =>
      obtain ⟨tk, rfl⟩ := r
      exact .cons y tk (strs_back t)
def rJoin : V → List V → Hp → VK → Prop := fun x xs H Q => ∃ (z : Str) (l : Addr) (ys : List Str), x = .str z ∧ xs = [.ref l] ∧ H l = some (.lst (ys.map V.str)) ∧ z.length ≤ 16 ∧ (ys.map (·.length)).sum + ys.length ≤ 1048576 ∧ Q (.str (Txt.join z ys)) H
theorem mt_join {X : Cx} : MtR X "str.join" rJoin := by
  intro pins s σ H x xs v us Q I rx rs h
  obtain ⟨z, l, ys, rfl, rfl, hl, hz, hw, q⟩ := h
  obtain ⟨t, rfl⟩ := rx
  obtain ⟨u, rfl, ru⟩ := Vals.one rs
  cases ru
  obtain ⟨_, its, n, r, le, e⟩ := I.lstM hl
  have L1 : s.heap.IsList l its.toArray := ⟨_, e, rfl, _, rfl⟩
  exact join_listW L1 (strs_back r) hz hw fun t' k => ⟨.str _, H, I.tok k, ⟨t', rfl⟩, q⟩
end L2
set_option Elab.async false
set_option linter.all false
set_option maxRecDepth 100000
set_option maxHeartbeats 4000000
namespace L2
open PySem PySem.Spec PyProof.Rows
def Itr2 (n : Nat) : It := ⟨fun i _ => i < n, fun i H x H' => H' = H ∧ x = .int ((i : Int) * 2), fun i _ => n ≤ i⟩
theorem turn_range2 {P : Program} {w : World} {K : PySem.W.Frag} {tg : Expr} (it : Addr) (n : Nat) : Turn P w K tg (Itr2 n) [it] it (fun i h => IsRangeIter h it (0 + (i : Nat) * 2) ((n : Int) - (i : Nat)) 2) where
  mem := by simp
  obj := fun i h st b hb => by
    have e : b = it := by simpa using hb
    subst e
    exact ⟨_, st, fun v z => by have z' : Data.fields _ = Data.cell v := z; cases z'⟩
  keep := fun i h h' st k => k it (by simp) _ st
  item := by
    intro X hP hw hK hc i pins s σ H E I hf st hg
    subst hP hw hK
    obtain ⟨f0, f1, f2, f3, f4, f5⟩ := hf it (by simp)
    refine (Walks.range (prog := X.prog) (w := X.w) (I.ok.hd hc) it 0 2 n).item i s _ _ hg st fun v h' tk hv st' kk => ?_
    obtain ⟨t, rfl⟩ := hv
    have I1 : Inv X pins σ H { s with heap := h', toks := tk } := I.turned (fun b o hb e => kk b o (by simpa using hb) e) f0 f1 f3 f4 f5
    refine ⟨_, rfl, go_of (s := { s with heap := h', toks := tk }) (n := "range_iterator") st' rfl rfl (by decide) ⟨.int ((i : Int) * 2), H, I1, ⟨t, by rw [Int.zero_add]⟩, ⟨rfl, rfl⟩, st', fun b hb => (hf b hb).1⟩⟩
  done := by
    intro X hP hw hK hc i pins s σ H E I hf st hg
    subst hP hw hK
    obtain ⟨f0, f1, f2, f3, f4, f5⟩ := hf it (by simp)
    exact wpAny_pyNext_range_end (I.ok.hd hc) st (by have : n ≤ i := hg; omega) fun h' eb => ⟨rfl, I.turned (t' := s.toks) (fun b o hb e => eb b o hb e) f0 f1 f3 f4 f5⟩
  self := fun _ _ _ _ _ st h => wpAny_pyIter_rangeiter st h
def iRng3 (ta : TA) : TI := fun σ H R => ta σ H fun vs H1 => ∃ j : Int, vs = [.int 0, .int j, .int 2] ∧ 0 ≤ j ∧ j < 1000 ∧ R (Itr2 ((j + 1) / 2).toNat) H1
theorem size_two {j : Int} (h : 0 ≤ j) : Builtin.Range.rangeSize 0 j 2 = (j + 1) / 2 := by
  unfold Builtin.Range.rangeSize
  rw [if_pos (by decide)]
  split <;> omega
theorem small_two {j : Int} (h : 0 ≤ j) (h' : j < 1000) : Builtin.Range.small 0 j 2 = true := by
  unfold Builtin.Range.small
  rw [size_two h]
  simp only [Builtin.Range.rangeFitsLong, Bool.and_eq_true, Bool.or_eq_true, decide_eq_true_eq, beq_iff_eq, show (2 : Int) > 0 by decide, if_true]
  omega
theorem pi_range3 {X : Cx} {tg a b c : Expr} {ta : TA} {p pos : Pos} (hg : Gl X "range") (hm : X.mg "range" = none) (ha : PA X [a, b, c] ta) (hs : starEach [a, b, c] X.env = (false, eval a X.env) :: starEach [b, c] X.env := by rfl) (hs2 : (backTo pos (starEach [b, c] X.env)).any (·.1) = false := by rfl) :
    PI X tg (.Call (.Name "range" p) [a, b, c] [] pos) (iRng3 ta) := by
  intro pins s σ H R I h
  refine Call_ (ld_blt I hg hm boot_range (PyProof.Rows.callWith_type1 (thn (ha pos pins s σ H _ I h) fun us s1 ⟨vs, H1, I1, r1, q1⟩ => ?_) hs hs2))
  obtain ⟨j, e, j0, j1, q⟩ := q1
  subst e
  cases r1 with
  | cons r rr =>
    cases rr with
    | cons r' rr =>
      cases rr with
      | cons r'' rr =>
        cases rr
        obtain ⟨t, rfl⟩ := r
        obtain ⟨t', rfl⟩ := r'
        obtain ⟨t'', rfl⟩ := r''
        refine call_range_3 (by decide) ?_ (.inl (PyProof.noPylong_small (by decide)))
        refine wpAny_pyIter_range (IsRange.new ..) (small_two j0 j1) ?_
        have I2 : Inv X pins σ H1 { s1 with heap := s1.heap.push { cls := .type "range", data := .fields #[.int 0 t, .int j t', .int 2 t''] } } := I1.kept (t' := s1.toks) fun b o e => Heap.get?_push_of_some _ e
        refine ⟨(s1.heap.push { cls := .type "range", data := .fields #[.int 0 t, .int j t', .int 2 t''] }).objs.size, [(s1.heap.push { cls := .type "range", data := .fields #[.int 0 t, .int j t', .int 2 t''] }).objs.size], _, _, H1, rfl,
          I2.kept (t' := s1.toks) fun b o e => Heap.get?_push_of_some _ e, turn_range2 _ ((j + 1) / 2).toNat, ?_, fun b hb => ?_, q⟩
        · have e1 : (0 : Int) + ((0 : Nat) : Int) * 2 = 0 := by simp
          have e2 : ((((j + 1) / 2).toNat : Nat) : Int) - ((0 : Nat) : Int) = Builtin.Range.rangeSize 0 j 2 := by rw [size_two j0]; omega
          show IsRangeIter _ _ ((0 : Int) + ((0 : Nat) : Int) * 2) (((((j + 1) / 2).toNat : Nat) : Int) - ((0 : Nat) : Int)) 2
          rw [e1, e2]
          exact Heap.get?_push_size _ rfl
        · have e := List.mem_singleton.mp hb
          subst e
          exact I2.fpOk (Nat.le_refl _) (I2.hok.fresh (Nat.le_refl _))
end L2
set_option Elab.async false
set_option linter.all false
set_option maxRecDepth 100000
set_option maxHeartbeats 4000000
namespace L2
open PySem PySem.Spec PyProof.Rows
theorem comp_range3R {n : Nat} {acc : Addr} {g : TG} {tt : TT} {te : TE} {σ : L2.St} {H : Hp} {R : Hp → Prop} (Pv : Nat → Hp → Prop) (h0 : Pv 0 (upd H acc (.lst [])))
    (hs : ∀ i H, i < n → Pv i H → g (.int ((i : Int) * 2)) σ H fun σ2 H4 => Ext σ σ2 ∧ tt σ2 H4 fun b H5 =>
      if b = true then te σ2 H5 fun y H6 => ∃ zs, H6 acc = some (.lst zs) ∧ zs.length < sizeLine ∧ Pv (i + 1) (upd H6 acc (.lst (zs ++ [y]))) else Pv (i + 1) H5) (hd : ∀ H, Pv n H → R H) :
    ∃ W : Nat → Nat → Hp → Prop, (∃ m, W 0 m (upd H acc (.lst []))) ∧ ∀ i m H2, W i m H2 →
      ((Itr2 n).stop i H2 ∧ R H2) ∨ ((Itr2 n).go i H2 ∧ ∃ N : Hp → Prop, (∀ H', N H' → ∃ m', m' < m ∧ W (i + 1) m' H') ∧ ∀ x H3, (Itr2 n).yld i H2 x H3 → g x σ H3 fun σ2 H4 => Ext σ σ2 ∧ tt σ2 H4 fun b H5 =>
        if b = true then te σ2 H5 fun y H6 => ∃ zs, H6 acc = some (.lst zs) ∧ zs.length < sizeLine ∧ N (upd H6 acc (.lst (zs ++ [y])))
        else N H5) := by
  refine ⟨fun i m H => m = n - i ∧ i ≤ n ∧ Pv i H, ⟨n, by simp, Nat.zero_le _, h0⟩, ?_⟩
  rintro i m H2 ⟨rfl, hi, p⟩
  by_cases hlt : i < n
  · refine .inr ⟨hlt, Pv (i + 1), fun H' p' => ⟨n - (i + 1), by omega, rfl, hlt, p'⟩, fun x H' y => ?_⟩
    obtain ⟨e, y⟩ := y
    subst e y
    exact hs i _ hlt p
  · have e : i = n := by omega
    subst e
    exact .inl ⟨Nat.le_refl _, hd H2 p⟩
section
variable {prog : Program} {w : World}
open AutoSeq1 (wpAny_loadPart')
open MeetsSeq MeetsSeq2 MeetsSeq3 SeqAt
end
end L2
set_option Elab.async false
set_option linter.all false
set_option maxRecDepth 100000
set_option maxHeartbeats 1000000
namespace L2
open PySem PySem.Spec PyProof.Rows
section
variable {X : Cx}
theorem ps_comp {elt tg iter : Expr} {y : Str} {py spos : Pos} {jj : Nat} {ifs : List Expr} {sc : Scope} {pos : Pos} {wi : TI} {g : TG} {tt : TT} {te : TE} (N : List Str) (cap : List (Option Nat)) (hc : X.calm = true) (hi : PI X tg iter wi)
    (hg : ∀ cl s H C ex, PG (X.block sc cl N s H C ex) tg g) (ht : ∀ cl s H C ex, PTs (X.block sc cl N s H C ex) ifs tt) (he : ∀ cl s H C ex, PE (X.block sc cl N s H C ex) elt te)
    (hk : sc.kind = .function) (nc : ∀ y ∈ sc.names, y.2 ≠ .cell) (hnames : ∀ y ∈ sc.names, y.2 = .local → sc.names.lookup y.1 = some .local)
    (hfree : ∀ n, (n, NameKind.free) ∈ sc.names → X.env.kindOf n = some .cell)
    (hcap : ∀ (i j : Nat), cap[i]? = some (some j) → ∃ x, N[i]? = some x ∧ X.N[j]? = some x ∧ sc.names.lookup x = some .free) (hlen : cap.length = N.length)
    (hN : X.N.Nodup) (hjj : X.N[jj]? = some y) (hxx : Loc X.env.scope y) (hf : X.fn y = true ∨ X.env.scope.names.lookup y = some .local)
    (hsw : swapsWith (.ListComp elt [⟨tg, iter, ifs, 0⟩] sc pos) (some (.Name y py)) spos.line X.env = pure true)
    (hs : ∀ x, foldedSetIterable iter X.env x = pure x := by intro _; rfl) : PS X (.Assign [.Name y py] (.ListComp elt [⟨tg, iter, ifs, 0⟩] sc pos) spos) (tAsg (tComp cap wi g tt te) (gName jj)) := by
  intro pins s σ H D I h
  obtain ⟨cl, hclos, c1, c2⟩ := closure_of (sc := sc) (env := X.env) fun n hn => I.ok.has n (.inl (hfree n hn))
  rw [exec_Assign_Name_used _ _ _ _ hsw]; refine wpAny_bind (wpAny_standAt (wpAny_bind ?_)); show wpAny _ X.A (do let _ ← comprehension (.ListComp elt [⟨tg, iter, ifs, 0⟩] sc pos) sc X.env _ (newList []) false (eval iter X.env) (some (assign (.Name y py) X.env))) _ _ s
  refine wpAny_bind (wpAny_mono (wpAny_comprehension_free (use := some (assign (.Name y py) X.env)) (Q := fun _ s' => SP X pins D .next s') rfl hs hclos hk hnames ?_) (fun _ s' hq => wpAny_pure (wpAny_pure hq)) fun _ _ e => e)
  refine thn (hi pins s σ H _ I h) fun v s1 h1 => thn h1 fun itv s2 h2 => ?_
  obtain ⟨it, fp, tn, J, H2, e, I2, T, st2, f2, q2⟩ := h2
  subst e
  have hfr : H2 s2.heap.objs.size = none := I2.fresh
  obtain ⟨W, ⟨m0, w0⟩, turn⟩ := q2 s2.heap.objs.size hfr
  have I3 := I2.lnew (ys := []) (its := []) (t' := s2.toks) .nil (Nat.zero_le _)
  have hacc : H2 s2.heap.objs.size = none := hfr
  refine wpAny_newObj_type (wpAny_newFunctionEnv nc (by intro y hy; simp at hy) (fun h4 hns hsb => ?_) hk)
  generalize hs3 : ({ s2 with heap := s2.heap.push { cls := .type "list", data := .seq ([] : List Value).toArray } } : Shared) = s3 at hns hsb I3 ⊢
  have hheap : s3.heap = s2.heap.push { cls := .type "list", data := .seq ([] : List Value).toArray } := by rw [← hs3]
  generalize hH3 : upd H2 s2.heap.objs.size (.lst []) = H3 at I3 w0
  have up2 : ∀ b o, s2.heap.get? b = some o → s3.heap.get? b = some o := fun b o q => by rw [hheap]; exact Heap.get?_push_of_some _ q
  have neA : ∀ b ∈ fp, b ≠ s2.heap.objs.size := fun b hb => by
    obtain ⟨o, q, _⟩ := T.obj _ _ st2 b hb
    exact Nat.ne_of_lt (Heap.lt_size q)
  have f3 : ∀ b ∈ fp, FpOk X pins H3 b := fun b hb => ⟨by rw [← hH3, upd_ne (neA b hb)]; exact (f2 b hb).1, (f2 b hb).2⟩
  have o3 : ∀ b ∈ fp, ∃ o, s3.heap.get? b = some o := fun b hb => by
    obtain ⟨o, q, _⟩ := T.obj _ _ st2 b hb
    exact ⟨o, up2 b o q⟩
  have ok' := block_ok (N := N) (C := s3.heap.objs.size) I3 hk nc (Nat.le_refl _) f3 o3 c1 c2
  generalize hC : s3.heap.objs.size = C at hns hsb ok' ⊢
  have ltC : ∀ b o, s3.heap.get? b = some o → b ≠ C := fun b o q => by rw [← hC]; exact Nat.ne_of_lt (Heap.lt_size q)
  have up4 : ∀ b o, s3.heap.get? b = some o → h4.get? b = some o := fun b o q => hsb.extBut b o (ltC b o q) (Heap.get?_push_of_some _ q)
  have st4 : tn 0 h4 := T.keep _ _ _ st2 fun b hb o q => up4 b o (up2 b o q)
  have I4 : Inv (X.block sc cl N s3 H3 C fp) [] (capSt cap σ) H3 { s3 with heap := h4, toks := s3.toks + ([] : List (Str × Value)).length } := by
    refine ⟨ok', rfl, I3.bare, Un.kept up4, ⟨_, hns, fun i x v e1 e2 e3 => ?_⟩, fun x c q => ?_, ?_, fun x c q => I3.freeC x c (c1 x c q), fun p hp => (nomatch hp), I3.hok.kept up4, ?_⟩
    · have ee : ∃ j, cap[i]? = some (some j) ∧ σ[j]? = some (some v) := by
        unfold capSt at e2
        rw [List.getElem?_map] at e2
        cases q : cap[i]? with
        | none => rw [q] at e2; cases e2
        | some o =>
          rw [q] at e2
          cases o with
          | none => cases e2
          | some j =>
            refine ⟨j, rfl, ?_⟩
            have e2' : some ((σ[j]?).join) = some (some v) := e2
            cases z : σ[j]? with
            | none => rw [z] at e2'; cases e2'
            | some o' =>
              rw [z] at e2'
              have e2'' : o' = some v := Option.some.inj e2'
              rw [e2'']
      obtain ⟨j, ej, es⟩ := ee
      obtain ⟨x', n1, n2, n3⟩ := hcap i j ej
      have e1' : N[i]? = some x := e1
      rw [n1] at e1'
      cases e1'
      have hfr' : (x, NameKind.free) ∈ sc.names := lookup_mem n3
      have kc := hfree x hfr'
      obtain ⟨m, _, hl⟩ := I3.loc
      obtain ⟨u, r, l⟩ := hl j x v n2 es (.inr (.inl kc))
      refine ⟨u, r, ?_⟩
      rcases l with ⟨l, _⟩ | ⟨_, c, ec, z⟩
      · rw [kc] at l; cases l
      · obtain ⟨c', ec'⟩ := c2 x hfr'
        have := c1 x c' ec'
        rw [ec] at this
        cases this
        obtain ⟨oc, q1, q2⟩ := z
        exact .inr ⟨lookup_relabel_free (sc := sc) n3, c, ec', oc, up4 _ _ q1, q2⟩
    · obtain ⟨v, oc, q1, q2⟩ := I3.cell x c (c1 x c q)
      exact ⟨v, oc, up4 _ _ q1, q2⟩
    · exact I3.hok.fresh (by rw [hC]; exact Nat.le_refl _)
    · show (capSt cap σ).length = N.length
      unfold capSt
      rw [List.length_map, hlen]
  have loop : codeAny (model X.prog X.w) X.A (.compLoop (.ListComp elt [⟨tg, iter, ifs, 0⟩] sc pos) 0 (.ref it) (.ref s2.heap.objs.size) (compEnvC sc cl C X.env)) (compPost (model X.prog X.w) X.A X.xe (some (assign (.Name y py) X.env)) (fun _ s' => SP X pins D .next s') (.ref s2.heap.objs.size) C)
      { s3 with heap := h4, toks := s3.toks + ([] : List (Str × Value)).length } := by
    have stat : ∀ {H' : Hp}, (∀ b ∈ fp, H' b = none) → ∀ b ∈ fp, FpOk (X.block sc cl N s3 H3 C fp) [] H' b := fun hn b hb =>
      ⟨hn b hb, (ok'.exf b hb).1, ok'.exfs b hb, .inl hb, (ok'.exf b hb).2, fun p hp => (nomatch hp)⟩
    refine comp_loop (fun n s' => ∃ i H', Inv (X.block sc cl N s3 H3 C fp) [] (capSt cap σ) H' s' ∧ tn i s'.heap ∧ (∀ b ∈ fp, H' b = none) ∧ W i n H') ?_ m0 ⟨0, H3, I4, st4, fun b hb => (f3 b hb).1, w0⟩
    rintro n s5 ⟨i, H5, I5, st5, fr5, w5⟩
    rcases turn i n H5 w5 with ⟨stop, qn⟩ | ⟨go, N', hN', step⟩
    · refine thn (T.done (X.block sc cl N s3 H3 C fp) rfl rfl rfl hc i [] s5 _ H5 NoX I5 (stat fr5) st5 stop) fun r s6 ⟨hr, I6⟩ => ?_
      subst hr
      obtain ⟨m, hm, _⟩ := I6.loc
      have I7 : Inv X pins σ H5 s6 := by
        refine I3.call' (s' := s6) (ch := fp) I6.os I6.base I6.hok I6.bare fun b hb => ?_
        obtain ⟨g0, g1, g2, g3, g4, g5⟩ := f3 b hb
        exact ⟨g3, g1, g4, g5⟩
      have hCl : X.env.locals ≠ C := by
        obtain ⟨_, hn3, _⟩ := I3.loc
        rw [← hC]
        exact Nat.ne_of_lt hn3.lt
      have hCc : ∀ x c, X.env.cells.lookup x = some c → c ≠ C := fun x c q => by
        obtain ⟨v, oc, q1, q2⟩ := I3.cell x c q
        exact ltC _ _ q1
      refine wpAny_assign_Name (store_ok2 I7 hN hjj hxx (v := .ref s2.heap.objs.size) rfl (fun s9 I9 ⟨a9, sb9, ha9⟩ => ?_) hf)
      have hCa : a9 ≠ C := by
        rcases ha9 with rfl | z
        · exact hCl
        · exact hCc _ _ z
      refine ⟨m, hm.sameBut sb9 (Ne.symm hCa), fun h' sb => ⟨_, H5, ?_, qn⟩⟩
      refine I9.call' (s' := { s9 with heap := h' }) (ch := [C]) rfl ?_ (I9.hok.but I6.free sb) I9.bare fun b hb => ?_
      · have st : ∀ b o, s9.heap.get? b = some o → b ∉ [C] → h'.get? b = some o := fun b o q hx => (sb.2 b (fun z => hx (by rw [z]; exact List.mem_singleton.mpr rfl))).trans q
        exact ⟨fun b o q _ _ hx => st b o q hx, fun b o q _ _ hx => ⟨o.slots, st b o q hx⟩, fun b o q n _ => n, fun b o q hx => ⟨o, st b o q hx⟩, fun _ _ q => q, fun _ _ _ q => q, fun b ps q => ⟨#[], by simpa using q⟩⟩
      · rw [List.mem_singleton.mp hb]
        exact ⟨.inr (by rw [← hC]; exact I3.sz), Ne.symm hCl, hCc, fun p hp => ltC _ _ (I3.pin p hp).1⟩
    · refine thn (T.item (X.block sc cl N s3 H3 C fp) rfl rfl rfl hc i [] s5 _ H5 NoX I5 (stat fr5) st5 go) fun r s6 ⟨u, hr, h6⟩ => ?_
      subst hr
      refine thn h6 fun _ s7 ⟨x, H7, I7, r7, y7, st7, fr7⟩ => ?_
      have I7' := I7.pinned (stat fr7) (T.obj _ _ st7)
      have again : ∀ {σ8 : St} {H8 : Hp} {s8 : Shared}, Inv (X.block sc cl N s3 H3 C fp) ([] ++ pinsAt fp s7.heap) σ8 H8 s8 → Ext (capSt cap σ) σ8 → N' H8 →
          ∃ m, m < n ∧ ∃ i H', Inv (X.block sc cl N s3 H3 C fp) [] (capSt cap σ) H' s8 ∧ tn i s8.heap ∧ (∀ b ∈ fp, H' b = none) ∧ W i m H' := fun {σ8 H8 s8} I8 ex n8 => by
        obtain ⟨m', hm, w8⟩ := hN' H8 n8
        have I8' := I8.unpinned.weak ex.len ex.get
        refine ⟨m', hm, i + 1, H8, I8', T.keep _ _ _ st7 fun b hb o q => (I8.pin (b, o) (List.mem_append_right _ (List.mem_append_right _ (mem_pinsAt hb q)))).1, fun b hb => ?_, w8⟩
        obtain ⟨o, q, d⟩ := T.obj _ _ st7 b hb
        exact (I8.pin (b, o) (List.mem_append_right _ (List.mem_append_right _ (mem_pinsAt hb q)))).2.1
      refine thn (hg cl s3 H3 C fp _ s7 _ H7 x u _ I7' r7 (step x H7 y7)) fun _ s8 ⟨σ8, H8, I8, ex8, q8⟩ => ?_
      refine thn (ht cl s3 H3 C fp _ s8 σ8 H8 _ I8 q8) fun b s9 ⟨H9, I9, q9⟩ => ?_
      cases b with
      | false => exact again I9 ex8 q9
      | true =>
        rw [if_pos rfl] at q9 ⊢
        refine thn (he cl s3 H3 C fp _ s9 σ8 H9 _ I9 q9) fun yv s10 ⟨y, H10, I10, r10, zs, e10, l10, q10⟩ => ?_
        refine thn (mt_append (X := X.block sc cl N s3 H3 C fp) _ s10 σ8 H10 (.ref s2.heap.objs.size) [y] (.ref s2.heap.objs.size) [yv] (fun _ H' => N' H') I10 rfl (.cons r10 .nil) ⟨_, zs, y, rfl, rfl, e10, l10, q10⟩) fun _ s11 ⟨_, H11, I11, _, q11⟩ => ?_
        exact again I11 ex8 q11
  exact codeAny_compStart_list loop (T.self X.A 0 _ _ _ st4 loop)
theorem ps_compB {elt tg iter : Expr} {y : Str} {py spos : Pos} {jj : Nat} {ifs : List Expr} {sc : Scope} {pos : Pos} {wi : TI} {g : TG} {tt : TT} {te : TE} (N : List Str) (cap : List (Option Nat)) (hc : X.calm = true) (hi : PI X tg iter wi)
    (hg : ∀ cl s H C ex, PG (X.block sc cl N s H C ex) tg g) (ht : ∀ cl s H C ex, PTs (X.block sc cl N s H C ex) ifs tt) (he : ∀ cl s H C ex, PE (X.block sc cl N s H C ex) elt te)
    (ck : compCk sc X.env X.N N cap = true) (hN : X.N.Nodup) (hjj : X.N[jj]? = some y) (hxx : Loc X.env.scope y) (hf : X.fn y = true ∨ X.env.scope.names.lookup y = some .local)
    (hsw : swapsWith (.ListComp elt [⟨tg, iter, ifs, 0⟩] sc pos) (some (.Name y py)) spos.line X.env = pure true := by rfl) (hs : ∀ x, foldedSetIterable iter X.env x = pure x := by intro _; rfl) : PS X (.Assign [.Name y py] (.ListComp elt [⟨tg, iter, ifs, 0⟩] sc pos) spos) (tAsg (tComp cap wi g tt te) (gName jj)) := by
  unfold compCk at ck
  simp only [Bool.and_eq_true] at ck
  obtain ⟨⟨⟨⟨⟨k1, k2⟩, k3⟩, k4⟩, k5⟩, k6⟩ := ck
  refine ps_comp N cap hc hi hg ht he (by simpa using k1) (fun y hy => ?_) (fun y hy z => ?_) (fun n hn => ?_) (fun i j e => ?_) (by simpa using k6) hN hjj hxx hf hsw hs
  · have := List.all_eq_true.mp k2 y hy
    simpa using this
  · have := List.all_eq_true.mp k3 y hy
    rw [z] at this
    simpa using this
  · have := List.all_eq_true.mp k4 _ hn
    simpa using this
  · have hi : i < cap.length := (List.getElem?_eq_some_iff.mp e).1
    have := List.all_eq_true.mp k5 i (List.mem_range.mpr hi)
    rw [e] at this
    dsimp only at this
    cases q : N[i]? with
    | none => rw [q] at this; cases this
    | some x =>
      rw [q] at this
      dsimp only at this
      rw [Bool.and_eq_true] at this
      exact ⟨x, rfl, by simpa using this.1, by simpa using this.2⟩
end
end L2
set_option Elab.async false
set_option linter.all false
set_option maxRecDepth 100000
set_option maxHeartbeats 4000000
namespace L2
open PySem PySem.Spec PyProof.Rows
inductive Dt where
  | int (i : Int) | str (x : Str) | tup (ds : List Dt)
mutual
def Dt.beq : Dt → Dt → Bool
  | .int i, .int j => decide (i = j)
  | .str x, .str y => decide (x = y)
  | .tup ds, .tup es => Dt.beqs ds es
  | _, _ => false
def Dt.beqs : List Dt → List Dt → Bool
  | [], [] => true
  | d :: ds, e :: es => Dt.beq d e && Dt.beqs ds es
  | _, _ => false
end
mutual
theorem Dt.beq_iff : ∀ {d e : Dt}, Dt.beq d e = true ↔ d = e
  | .int i, .int j => by simp [Dt.beq]
  | .str x, .str y => by simp [Dt.beq]
  | .tup ds, .tup es => by
    have := Dt.beqs_iff (ds := ds) (es := es)
    simp [Dt.beq, this]
  | .int _, .str _ => by simp [Dt.beq]
  | .int _, .tup _ => by simp [Dt.beq]
  | .str _, .int _ => by simp [Dt.beq]
  | .str _, .tup _ => by simp [Dt.beq]
  | .tup _, .int _ => by simp [Dt.beq]
  | .tup _, .str _ => by simp [Dt.beq]
theorem Dt.beqs_iff : ∀ {ds es : List Dt}, Dt.beqs ds es = true ↔ ds = es
  | [], [] => by simp [Dt.beqs]
  | [], _ :: _ => by simp [Dt.beqs]
  | _ :: _, [] => by simp [Dt.beqs]
  | d :: ds, e :: es => by
    have h1 := Dt.beq_iff (d := d) (e := e)
    have h2 := Dt.beqs_iff (ds := ds) (es := es)
    simp [Dt.beqs, h1, h2]
end
mutual
def Dt.deep : Dt → Nat
  | .tup ds => Dt.deeps ds + 1
  | _ => 0
def Dt.deeps : List Dt → Nat
  | [] => 0
  | d :: ds => max (Dt.deep d) (Dt.deeps ds)
end
mutual
inductive DR (H : Hp) : Dt → V → Prop
  | int (i : Int) : DR H (.int i) (.int i)
  | str (x : Str) : DR H (.str x) (.str x)
  | tup {a : Addr} {xs : List V} {ds : List Dt} : H a = some (.tup xs) → DRs H ds xs → DR H (.tup ds) (.ref a)
inductive DRs (H : Hp) : List Dt → List V → Prop
  | nil : DRs H [] []
  | cons {d : Dt} {v : V} {ds : List Dt} {vs : List V} : DR H d v → DRs H ds vs → DRs H (d :: ds) (v :: vs)
end
mutual
theorem DR.mono {H H' : Hp} (k : Tk H H') : ∀ {d : Dt} {v : V}, DR H d v → DR H' d v
  | _, _, .int i => .int i
  | _, _, .str x => .str x
  | _, _, .tup h r => .tup (k _ _ h) (DRs.mono k r)
theorem DRs.mono {H H' : Hp} (k : Tk H H') : ∀ {ds : List Dt} {vs : List V}, DRs H ds vs → DRs H' ds vs
  | _, _, .nil => .nil
  | _, _, .cons r t => .cons (DR.mono k r) (DRs.mono k t)
end
theorem DRs.length {H : Hp} : ∀ {ds : List Dt} {vs : List V}, DRs H ds vs → ds.length = vs.length
  | _, _, .nil => rfl
  | _, _, .cons _ t => congrArg (· + 1) t.length
theorem DRs.get {H : Hp} : ∀ {ds : List Dt} {vs : List V} {j : Nat} {v : V}, DRs H ds vs → vs[j]? = some v → ∃ d, ds[j]? = some d ∧ DR H d v
  | _, _, _, _, .nil, e => by simp at e
  | _, _, 0, _, .cons r _, e => by simp at e; subst e; exact ⟨_, rfl, r⟩
  | _, _, j + 1, v, .cons _ t, e => by
    obtain ⟨d, h1, h2⟩ := DRs.get (j := j) (v := v) t (by simpa using e)
    exact ⟨d, by simpa using h1, h2⟩
theorem deep_get : ∀ {ds : List Dt} {j : Nat} {d : Dt}, ds[j]? = some d → d.deep ≤ Dt.deeps ds
  | [], _, _, h => by simp at h
  | e :: ds, 0, d, h => by simp at h; subst h; simp [Dt.deeps]; omega
  | e :: ds, j + 1, d, h => by
    have := deep_get (ds := ds) (j := j) (d := d) (by simpa using h)
    simp [Dt.deeps]; omega
section
variable {X : Cx} {pins : List (Addr × Obj)} {σ : St} {H : Hp} {s : Shared}
end
end L2
set_option Elab.async false
set_option linter.all false
set_option maxRecDepth 100000
set_option maxHeartbeats 4000000
namespace L2
open PySem PySem.Spec PyProof.Rows
theorem itB {h h' : Heap} {a b t : Addr} {i : Nat} (x : h.IsTupleIter a t i) (e : Heap.SameBut b h h') (n : a ≠ b) : h'.IsTupleIter a t i := x.extBut e.extBut n
theorem tpB {h h' : Heap} {a b : Addr} {xs : Array Value} (x : h.IsTuple a xs) (e : Heap.SameBut b h h') (n : a ≠ b) : h'.IsTuple a xs := let ⟨o, ho, r⟩ := x; ⟨o, e.extBut a o n ho, r⟩
section
variable {prog : Program} {w : World} {A : Around} {E : Value → Shared → Prop} {s : Shared}
theorem zipT_item {z TI TO i1 i2 l1 l2 : Addr} {k : Nat} {xs ys : Array Value} {x y a b : Value} {Q : Option Value → Shared → Prop} (D : ZipApart z TI TO i1 i2 l1 l2)
    (hz : IsZip s.heap z TI TO .none) (hTI : IsPair s.heap TI (.ref i1) (.ref i2)) (hTO : IsPair s.heap TO a b) (h1 : s.heap.IsTupleIter i1 l1 k) (h2 : s.heap.IsTupleIter i2 l2 k)
    (hl1 : s.heap.IsTuple l1 xs) (hl2 : s.heap.IsTuple l2 ys) (hx : xs[k]? = some x) (hy : ys[k]? = some y)
    (hQ : ∀ h', IsZip h' z TI TO (rawInt s.heap.objs.size) → IsPair h' TO x y → h'.IsTupleIter i1 l1 (k + 1) → h'.IsTupleIter i2 l2 (k + 1) → IsPair h' s.heap.objs.size x y →
      (∀ c o, c ≠ z → c ≠ TO → c ≠ i1 → c ≠ i2 → s.heap.get? c = some o → h'.get? c = some o) → Q (some (.ref s.heap.objs.size)) { s with heap := h' }) : wpAny (model prog w) A (pyNext (.ref z)) Q E s := by
  have hT : s.TypeIs (.ref z) "zip" := ⟨_, hz, rfl⟩
  unfold pyNext
  refine wpAny_bind (wpAny_attempt (wpAny_callSpecial?_slot (name := Str.ofString "__next__") hT F.slot_zip_next (wpAny_call_entry F.slot_zip_next hT F.entry_zip_next ?_ (F.args_zip_next_1 _))))
  show wpAny _ _ (field (.ref z) 2 >>= _) _ _ _; refine wpAny_bind (wpAny_field hz rfl (x := .bool false) rfl ?_)
  show wpAny _ _ (field (.ref z) 3 >>= _) _ _ _; refine wpAny_bind (wpAny_field hz rfl (x := .ref TI) rfl ?_); refine wpAny_bind (wpAny_seqItems hTI rfl ?_)
  show wpAny _ _ (Builtin.SmallTypes.ownedTupleIsFree (.ref z) >>= _) _ _ _; refine wpAny_bind ?_; unfold Builtin.SmallTypes.ownedTupleIsFree
  refine wpAny_bind (wpAny_field hz rfl (x := .none) rfl (wpAny_pure ?_)); simp only [if_true]; refine wpAny_bind (wpAny_rule ?_); refine wpAny_bind (wpAny_field hz rfl (x := .ref TO) rfl ?_)
  refine wpAny_bind (wpAny_setField_rec hz (by simp) fun q1 hz1 hs1 => ?_); replace hz1 : IsZip q1 z TI TO .ellipsis := hz1
  refine wpAny_bind ?_; simp only [List.zipIdx_cons, List.zipIdx_nil, List.forIn_cons, List.forIn_nil]
  refine wpAny_bind (wpAny_bind (wpAny_onRaise ?_)); show wpAny _ _ (Builtin.SmallTypes.nextOf (.ref i1) >>= _) _ _ _
  refine wpAny_bind (next_tup_item (itB h1 hs1 D.i1z) (tpB hl1 hs1 D.l1z) hx fun q2 j1 hs2 => wpAny_pure ?_)
  have hTO2 : IsPair q2 TO a b := hs2.extBut _ _ D.TOi1 (hs1.extBut _ _ D.TOz hTO)
  refine wpAny_bind (wpAny_seqItems hTO2 rfl ?_); refine wpAny_bind (wpAny_updateSeq_pair hTO2 fun q3 hTO3 hs3 => ?_); replace hTO3 : IsPair q3 TO x b := hTO3
  refine wpAny_bind (wpAny_letGo (wpAny_pure ?_)); refine wpAny_bind (wpAny_bind (wpAny_onRaise ?_)); show wpAny _ _ (Builtin.SmallTypes.nextOf (.ref i2) >>= _) _ _ _
  refine wpAny_bind (next_tup_item (itB (itB (itB h2 hs1 D.i2z) hs2 D.i12.symm) hs3 D.TOi2.symm) (tpB (tpB (tpB hl2 hs1 D.l2z) hs2 D.l2i1) hs3 D.l2TO) hy fun q4 j2 hs4 => wpAny_pure ?_)
  have hTO4 : IsPair q4 TO x b := hs4.extBut _ _ D.TOi2 hTO3
  refine wpAny_bind (wpAny_seqItems hTO4 rfl ?_); refine wpAny_bind (wpAny_updateSeq_pair hTO4 fun q5 hTO5 hs5 => ?_); replace hTO5 : IsPair q5 TO x y := hTO5
  refine wpAny_bind (wpAny_letGo (wpAny_pure (wpAny_pure ?_))); refine wpAny_bind (wpAny_seqItems hTO5 rfl ?_); refine wpAny_bind (wpAny_newTuple ?_)
  have hsz : q5.objs.size = s.heap.objs.size := by rw [hs5.1, hs4.1, hs3.1, hs2.1, hs1.1]
  have hz5 : IsZip q5 z TI TO .ellipsis := hs5.extBut _ _ D.TOz.symm (hs4.extBut _ _ D.i2z.symm (hs3.extBut _ _ D.TOz.symm (hs2.extBut _ _ D.i1z.symm hz1)))
  have hk5 : ∀ c o, c ≠ z → c ≠ TO → c ≠ i1 → c ≠ i2 → s.heap.get? c = some o → q5.get? c = some o := fun c o c1 c2 c3 c4 e => hs5.extBut _ _ c2 (hs4.extBut _ _ c4 (hs3.extBut _ _ c2 (hs2.extBut _ _ c3 (hs1.extBut _ _ c1 e))))
  have j15 : q5.IsTupleIter i1 l1 (k + 1) := itB (itB (itB j1 hs3 D.TOi1.symm) hs4 D.i12) hs5 D.TOi1.symm
  have j25 : q5.IsTupleIter i2 l2 (k + 1) := itB j2 hs5 D.TOi2.symm
  have hzlt : z < q5.objs.size := Heap.lt_size hz5
  show wpAny _ _ (Builtin.SmallTypes.ownedTupleHandOut (.ref z) (.ref q5.objs.size) >>= _) _ _ _; refine wpAny_bind ?_; unfold Builtin.SmallTypes.ownedTupleHandOut
  have hz6 : IsZip (q5.push { cls := .type "tuple", data := .seq #[x, y] }) z TI TO .ellipsis := Heap.get?_push_of_some _ hz5
  refine wpAny_bind (wpAny_setField_rec hz6 (by simp) fun q7 hz7 hs7 => ?_); replace hz7 : IsZip q7 z TI TO (rawInt q5.objs.size) := hz7
  refine wpAny_setField_rec hz7 (by simp) fun q8 hz8 hs8 => ?_; replace hz8 : IsZip q8 z TI TO (rawInt q5.objs.size) := hz8
  have up : ∀ c o, c ≠ z → q5.get? c = some o → q8.get? c = some o := fun c o c1 e => hs8.extBut _ _ c1 (hs7.extBut _ _ c1 (Heap.get?_push_of_some _ e))
  have hT8 : IsPair q8 q5.objs.size x y := hs8.extBut _ _ (Nat.ne_of_gt hzlt) (hs7.extBut _ _ (Nat.ne_of_gt hzlt) (Heap.get?_push_size _ rfl))
  rw [hsz] at hz8 hT8
  refine wpAny_pure ⟨_, rfl, wpAny_pure ?_⟩
  show Q (some (.ref q5.objs.size)) _
  rw [hsz]
  exact hQ q8 hz8 (up _ _ D.TOz hTO5) (let ⟨o, e, r⟩ := j15; ⟨o, up _ o D.i1z e, r⟩) (let ⟨o, e, r⟩ := j25; ⟨o, up _ o D.i2z e, r⟩) hT8 fun c o c1 c2 c3 c4 e => up c o c1 (hk5 c o c1 c2 c3 c4 e)
theorem zipT_end {z TI TO i1 i2 l1 l2 : Addr} {k : Nat} {xs ys : Array Value} {a b : Value} {Q : Option Value → Shared → Prop} (hh : A.handled = none) (D : ZipApart z TI TO i1 i2 l1 l2)
    (hz : IsZip s.heap z TI TO .none) (hTI : IsPair s.heap TI (.ref i1) (.ref i2)) (hTO : IsPair s.heap TO a b) (h1 : s.heap.IsTupleIter i1 l1 k) (h2 : s.heap.IsTupleIter i2 l2 k)
    (hl1 : s.heap.IsTuple l1 xs) (hl2 : s.heap.IsTuple l2 ys) (hend : xs[k]? = none ∨ ys[k]? = none)
    (hQ : ∀ h', (∀ c o, c ≠ z → c ≠ TO → c ≠ i1 → c ≠ i2 → s.heap.get? c = some o → h'.get? c = some o) → Q none { s with heap := h' }) : wpAny (model prog w) A (pyNext (.ref z)) Q E s := by
  have hT : s.TypeIs (.ref z) "zip" := ⟨_, hz, rfl⟩
  unfold pyNext
  have fin : ∀ (h' : Heap) (e : Addr), (∀ c o, c ≠ z → c ≠ TO → c ≠ i1 → c ≠ i2 → s.heap.get? c = some o → h'.get? c = some o) → (∃ o, h'.get? e = some o ∧ o.cls = .type "StopIteration") →
      wpAny (model prog w) A (do if ← isInstance (.ref e) (.type "StopIteration") then pure none else throw (.ref e)) Q E { s with heap := h' } := fun h' e hk ⟨o, ho, hc⟩ =>
    wpAny_bind (wpAny_isInstance (T := "StopIteration") (b := true) ⟨o, ho, hc⟩ isSubtype_stop (wpAny_pure (hQ _ hk)))
  refine wpAny_bind (wpAny_attempt (wpAny_callSpecial?_slot (name := Str.ofString "__next__") hT F.slot_zip_next (wpAny_call_entry F.slot_zip_next hT F.entry_zip_next ?_ (F.args_zip_next_1 _))))
  show wpAny _ _ (field (.ref z) 2 >>= _) _ _ _; refine wpAny_bind (wpAny_field hz rfl (x := .bool false) rfl ?_)
  show wpAny _ _ (field (.ref z) 3 >>= _) _ _ _; refine wpAny_bind (wpAny_field hz rfl (x := .ref TI) rfl ?_); refine wpAny_bind (wpAny_seqItems hTI rfl ?_)
  show wpAny _ _ (Builtin.SmallTypes.ownedTupleIsFree (.ref z) >>= _) _ _ _; refine wpAny_bind ?_; unfold Builtin.SmallTypes.ownedTupleIsFree
  refine wpAny_bind (wpAny_field hz rfl (x := .none) rfl (wpAny_pure ?_)); simp only [if_true]; refine wpAny_bind (wpAny_rule ?_); refine wpAny_bind (wpAny_field hz rfl (x := .ref TO) rfl ?_)
  refine wpAny_bind (wpAny_setField_rec hz (by simp) fun q1 hz1 hs1 => ?_); replace hz1 : IsZip q1 z TI TO .ellipsis := hz1
  refine wpAny_bind ?_; simp only [List.zipIdx_cons, List.zipIdx_nil, List.forIn_cons, List.forIn_nil]
  refine wpAny_bind (wpAny_bind (wpAny_onRaise ?_)); show wpAny _ _ (Builtin.SmallTypes.nextOf (.ref i1) >>= _) _ _ _
  cases hx : xs[k]? with
  | none =>
    refine wpAny_bind (next_tup_end hh (itB h1 hs1 D.i1z) (tpB hl1 hs1 D.l1z) hx fun q2 e hs2 he => ?_)
    obtain ⟨oe, hoe, hce⟩ := he
    have hz2 : IsZip q2 z TI TO .ellipsis := hs2 _ _ D.i1z.symm hz1
    have hez : e ≠ z := fun x => by subst x; rw [hz2] at hoe; cases hoe; simp at hce
    exact wpAny_setField_rec hz2 (by simp) fun q3 _ hs3 => fin q3 e (fun c o c1 _ c3 _ x => hs3.extBut _ _ c1 (hs2 _ _ c3 (hs1.extBut _ _ c1 x))) ⟨oe, hs3.extBut _ _ hez hoe, hce⟩
  | some x =>
    have hy : ys[k]? = none := by rcases hend with h | h; rw [hx] at h; cases h; exact h
    refine wpAny_bind (next_tup_item (itB h1 hs1 D.i1z) (tpB hl1 hs1 D.l1z) hx fun q2 j1 hs2 => wpAny_pure ?_)
    have hTO2 : IsPair q2 TO a b := hs2.extBut _ _ D.TOi1 (hs1.extBut _ _ D.TOz hTO)
    refine wpAny_bind (wpAny_seqItems hTO2 rfl ?_); refine wpAny_bind (wpAny_updateSeq_pair hTO2 fun q3 hTO3 hs3 => ?_)
    refine wpAny_bind (wpAny_letGo (wpAny_pure ?_)); refine wpAny_bind (wpAny_bind (wpAny_onRaise ?_)); show wpAny _ _ (Builtin.SmallTypes.nextOf (.ref i2) >>= _) _ _ _
    refine wpAny_bind (next_tup_end hh (itB (itB (itB h2 hs1 D.i2z) hs2 D.i12.symm) hs3 D.TOi2.symm) (tpB (tpB (tpB hl2 hs1 D.l2z) hs2 D.l2i1) hs3 D.l2TO) hy fun q4 e hs4 he => ?_)
    obtain ⟨oe, hoe, hce⟩ := he
    have hz4 : IsZip q4 z TI TO .ellipsis := hs4 _ _ D.i2z.symm (hs3.extBut _ _ D.TOz.symm (hs2.extBut _ _ D.i1z.symm hz1))
    have hez : e ≠ z := fun x => by subst x; rw [hz4] at hoe; cases hoe; simp at hce
    exact wpAny_setField_rec hz4 (by simp) fun q5 _ hs5 => fin q5 e (fun c o c1 c2 c3 c4 x => hs5.extBut _ _ c1 (hs4 _ _ c4 (hs3.extBut _ _ c2 (hs2.extBut _ _ c3 (hs1.extBut _ _ c1 x))))) ⟨oe, hs5.extBut _ _ hez hoe, hce⟩
end
theorem meets_zipT (l1 l2 : Addr) (xs ys : Array Value) :
    Meets (Builtin.«zip.__new__» ⟨[.type "zip", .ref l1, .ref l2], []⟩) (fun _ R s => s.heap.IsTuple l1 xs ∧ s.heap.IsTuple l2 ys ∧
      ∀ (h' : Heap) (z TI TO i1 i2 : Addr), (∀ c o, s.heap.get? c = some o → h'.get? c = some o) → s.heap.objs.size ≤ z → s.heap.objs.size ≤ TI → s.heap.objs.size ≤ TO → s.heap.objs.size ≤ i1 → s.heap.objs.size ≤ i2 →
        (TI ≠ z ∧ TO ≠ z ∧ i1 ≠ z ∧ i2 ≠ z ∧ TI ≠ TO ∧ TI ≠ i1 ∧ TI ≠ i2 ∧ TO ≠ i1 ∧ TO ≠ i2 ∧ i1 ≠ i2) → IsZip h' z TI TO .none → IsPair h' TI (.ref i1) (.ref i2) → IsPair h' TO .none .none → h'.IsTupleIter i1 l1 0 → h'.IsTupleIter i2 l2 0 →
        R (.ok (.ret (.ref z))) { s with heap := h' }) :=
  .of_wp fun prog w A R s h => by
    obtain ⟨hp, g, d, tk, os⟩ := s; obtain ⟨hl1, hl2, h⟩ := h; have hsub := sub_zip
    have hL1 : Heap.IsTuple (Shared.heap ⟨hp, g, d, tk, os⟩) l1 xs := hl1
    have hL2 : Heap.IsTuple (Shared.heap ⟨hp.push { cls := .type "tuple_iterator", data := .fields #[.ref l1, .int 0 0] }, g, d, tk, os⟩) l2 ys := let ⟨o, ho, r⟩ := hl2; ⟨o, Heap.get?_push_of_some _ ho, r⟩
    wp_walk using wpAny_pyIter_tuple hL1, wpAny_pyIter_tuple hL2
    refine ⟨_, rfl, h _ _ _ _ _ _ (fun c o e => Heap.get?_push_of_some _ (Heap.get?_push_of_some _ (Heap.get?_push_of_some _ (Heap.get?_push_of_some _ (Heap.get?_push_of_some _ e))))) ?_ ?_ ?_ ?_ ?_ ?_ (Heap.get?_push_size _ rfl) (Heap.get?_push_of_some _ (Heap.get?_push_of_some _ (Heap.get?_push_size _ rfl))) (Heap.get?_push_of_some _ (Heap.get?_push_size _ rfl))
      ⟨_, Heap.get?_push_of_some _ (Heap.get?_push_of_some _ (Heap.get?_push_of_some _ (Heap.get?_push_of_some _ (Heap.get?_push_size _ rfl)))), rfl, rfl⟩ ⟨_, Heap.get?_push_of_some _ (Heap.get?_push_of_some _ (Heap.get?_push_of_some _ (Heap.get?_push_size _ rfl))), rfl, rfl⟩⟩
    all_goals simp only [Heap.size_push]
    all_goals first
      | omega
      | (refine ⟨?_, ?_, ?_, ?_, ?_, ?_, ?_, ?_, ?_, ?_⟩ <;> (intro e; have e' : @Eq Nat _ _ := e; omega))
section
variable {prog : Program} {w : World} {A : Around} {E : Value → Shared → Prop} {s : Shared}
theorem call_zipT {l1 l2 : Addr} {xs ys : Array Value} {Q : Value → Shared → Prop} (hl1 : s.heap.IsTuple l1 xs) (hl2 : s.heap.IsTuple l2 ys)
    (h : ∀ (h' : Heap) (z TI TO i1 i2 : Addr), (∀ c o, s.heap.get? c = some o → h'.get? c = some o) → s.heap.objs.size ≤ z → s.heap.objs.size ≤ TI → s.heap.objs.size ≤ TO → s.heap.objs.size ≤ i1 → s.heap.objs.size ≤ i2 →
        (TI ≠ z ∧ TO ≠ z ∧ i1 ≠ z ∧ i2 ≠ z ∧ TI ≠ TO ∧ TI ≠ i1 ∧ TI ≠ i2 ∧ TO ≠ i1 ∧ TO ≠ i2 ∧ i1 ≠ i2) → IsZip h' z TI TO .none → IsPair h' TI (.ref i1) (.ref i2) → IsPair h' TO .none .none → h'.IsTupleIter i1 l1 0 → h'.IsTupleIter i2 l2 0 → Q (.ref z) { s with heap := h' }) :
    wpAny (model prog w) A (call (.type "zip") [.ref l1, .ref l2]) Q E s := by
  refine callType_new F.called_zip (by decide) (F.typeCall_zip_2 _ _) (F.newCall_zip_2 _ _) (fun obj => F.args_object_init_3 obj _ _) F.entry_zip_new (meets_zipT l1 l2 xs ys) ⟨hl1, hl2, fun h' z TI TO i1 i2 a0 a1 a2 a3 a4 a5 a6 a7 a8 a9 b1 b2 => ?_⟩
  exact ⟨⟨_, a7, rfl⟩, h h' z TI TO i1 i2 a0 a1 a2 a3 a4 a5 a6 a7 a8 a9 b1 b2⟩
end
def Itz (a b : Addr) : It :=
  ⟨fun i H => ∃ xs ys x y, H a = some (.tup xs) ∧ H b = some (.tup ys) ∧ xs[i]? = some x ∧ ys[i]? = some y,
   fun i H v H' => ∃ T x y, H T = none ∧ v = .ref T ∧ H' = upd H T (.tup [x, y]) ∧ (∀ xs, H a = some (.tup xs) → xs[i]? = some x) ∧ ∀ ys, H b = some (.tup ys) → ys[i]? = some y,
   fun i H => ∃ xs ys, H a = some (.tup xs) ∧ H b = some (.tup ys) ∧ (xs.length ≤ i ∨ ys.length ≤ i)⟩
theorem turn_zip {P : Program} {w : World} {K : PySem.W.Frag} {es : List Expr} {kk : Nat} {pos : Pos} (a b z TI TO i1 i2 : Addr)
    (ap : TI ≠ z ∧ TO ≠ z ∧ i1 ≠ z ∧ i2 ≠ z ∧ TI ≠ TO ∧ TI ≠ i1 ∧ TI ≠ i2 ∧ TO ≠ i1 ∧ TO ≠ i2 ∧ i1 ≠ i2) :
    Turn P w K (.Tuple es kk pos) (Itz a b) [z, TI, TO, i1, i2] z (fun i h => IsZip h z TI TO .none ∧ IsPair h TI (.ref i1) (.ref i2) ∧ (∃ p q, IsPair h TO p q) ∧ h.IsTupleIter i1 a i ∧ h.IsTupleIter i2 b i) where
  mem := by simp
  obj := fun i h st c hc => by
    obtain ⟨hz, hTI, ⟨p, q, hTO⟩, ⟨o1, e1, c1, d1⟩, o2, e2, c2, d2⟩ := st
    simp only [List.mem_cons, List.not_mem_nil, or_false] at hc
    rcases hc with rfl | rfl | rfl | rfl | rfl
    · exact ⟨_, hz, fun v z => by have z' : Data.fields _ = Data.cell v := z; cases z'⟩
    · exact ⟨_, hTI, fun v z => by have z' : Data.seq _ _ = Data.cell v := z; cases z'⟩
    · exact ⟨_, hTO, fun v z => by have z' : Data.seq _ _ = Data.cell v := z; cases z'⟩
    · exact ⟨o1, e1, fun v z => by rw [d1] at z; cases z⟩
    · exact ⟨o2, e2, fun v z => by rw [d2] at z; cases z⟩
  keep := fun i h h' st k => by
    obtain ⟨hz, hTI, ⟨p, q, hTO⟩, ⟨o1, e1, r1⟩, o2, e2, r2⟩ := st
    exact ⟨k z (by simp) _ hz, k TI (by simp) _ hTI, ⟨p, q, k TO (by simp) _ hTO⟩, ⟨o1, k i1 (by simp) _ e1, r1⟩, o2, k i2 (by simp) _ e2, r2⟩
  item := by
    intro X hP hw hK hc i pins s σ H E I hf st hg
    subst hP hw hK
    obtain ⟨xs, ys, x, y, ha, hb, hx, hy⟩ := hg
    obtain ⟨hz, hTI, ⟨p, q, hTO⟩, h1, h2⟩ := st
    obtain ⟨its, rv, t1, _⟩ := I.tuple (SqT.of ha)
    obtain ⟨its2, rv2, t2, _⟩ := I.tuple (SqT.of hb)
    obtain ⟨u, hu, ru⟩ := rv.get hx
    obtain ⟨u2, hu2, ru2⟩ := rv2.get hy
    obtain ⟨n1, n2, n3, n4, n5, n6, n7, n8, n9, n10⟩ := ap
    have ne : ∀ {c d : Addr} {o : HO}, H c = some o → d ∈ [z, TI, TO, i1, i2] → c ≠ d := fun e hd => ne_of_none e (hf _ hd).1
    have D : ZipApart z TI TO i1 i2 a b := ⟨n1, n2, n3, n4, n5, n6, n7, n8, n9, n10, ne ha (by simp), ne ha (by simp), ne ha (by simp), ne ha (by simp), ne hb (by simp), ne hb (by simp), ne hb (by simp), ne hb (by simp)⟩
    refine zipT_item D hz hTI hTO h1 h2 (show s.heap.IsTuple a its.toArray from t1) (show s.heap.IsTuple b its2.toArray from t2) (by simpa using hu) (by simpa using hu2) fun q1 hz1 hTO1 j1 j2 hT hk => ⟨_, rfl, ?_⟩
    have hn : H s.heap.objs.size = none := I.fresh
    have hT1 : IsPair q1 TI (.ref i1) (.ref i2) := hk _ _ n1 n5 n6 n7 hTI
    have neT : ∀ c ∈ [z, TI, TO, i1, i2], c ≠ s.heap.objs.size := fun c hc => by
      simp only [List.mem_cons, List.not_mem_nil, or_false] at hc
      rcases hc with rfl | rfl | rfl | rfl | rfl
      · exact Nat.ne_of_lt (Heap.lt_size (show s.heap.get? _ = some _ from hz))
      · exact Nat.ne_of_lt (Heap.lt_size (show s.heap.get? _ = some _ from hTI))
      · exact Nat.ne_of_lt (Heap.lt_size (show s.heap.get? _ = some _ from hTO))
      · obtain ⟨_, e, _⟩ := h1; exact Nat.ne_of_lt (Heap.lt_size e)
      · obtain ⟨_, e, _⟩ := h2; exact Nat.ne_of_lt (Heap.lt_size e)
    have I1 : Inv X pins σ (upd H s.heap.objs.size (.tup [x, y])) { s with heap := q1, toks := s.toks } := I.turnedL (ch := [z, TO, i1, i2]) (fun c o hc e => hk c o (fun q => hc (by simp [q])) (fun q => hc (by simp [q])) (fun q => hc (by simp [q])) (fun q => hc (by simp [q])) e)
      (fun c hc => hf c (by simp at hc ⊢; rcases hc with r | r | r | r <;> simp [r])) (Nat.le_refl _) ⟨Nat.le_of_lt (small1000 (show 2 ≤ 1000 by decide)), [u, u2], .cons ru (.cons ru2 .nil), _, hT, rfl, _, rfl⟩
    refine wpAny_letOwnedTupleGo_zip (s := { s with heap := q1 }) hz1 fun q2 hz2 hs2 => ⟨.ref s.heap.objs.size, _, ?_, rfl, ⟨_, x, y, hn, rfl, rfl, fun ws e => by rw [ha] at e; cases e; exact hx, fun ws e => by rw [hb] at e; cases e; exact hy⟩, ⟨hz2, hs2.extBut _ _ n1 hT1, ⟨_, _, hs2.extBut _ _ n2 hTO1⟩, itB j1 hs2 n3, itB j2 hs2 n4⟩, fun c hc => ?_⟩
    · refine I1.turnedN (t' := s.toks) (ch := [z]) (fun c o hc e => (hs2.2 c (fun q => hc (by simp [q]))).trans e) fun c hc => ?_
      have ec := List.mem_singleton.mp hc
      subst ec
      obtain ⟨f0, f⟩ := hf c (by simp)
      exact ⟨by rw [upd_ne (neT c (by simp))]; exact f0, f⟩
    · rw [upd_ne (neT c hc)]; exact (hf c hc).1
  done := by
    intro X hP hw hK hc i pins s σ H E I hf st hg
    subst hP hw hK
    obtain ⟨xs, ys, ha, hb, hend⟩ := hg
    obtain ⟨hz, hTI, ⟨p, q, hTO⟩, h1, h2⟩ := st
    obtain ⟨its, rv, t1, _⟩ := I.tuple (SqT.of ha)
    obtain ⟨its2, rv2, t2, _⟩ := I.tuple (SqT.of hb)
    have l1 := rv.length
    have l2 := rv2.length
    obtain ⟨n1, n2, n3, n4, n5, n6, n7, n8, n9, n10⟩ := ap
    have ne : ∀ {c d : Addr} {o : HO}, H c = some o → d ∈ [z, TI, TO, i1, i2] → c ≠ d := fun e hd => ne_of_none e (hf _ hd).1
    have D : ZipApart z TI TO i1 i2 a b := ⟨n1, n2, n3, n4, n5, n6, n7, n8, n9, n10, ne ha (by simp), ne ha (by simp), ne ha (by simp), ne ha (by simp), ne hb (by simp), ne hb (by simp), ne hb (by simp), ne hb (by simp)⟩
    refine zipT_end (I.ok.hd hc) D hz hTI hTO h1 h2 (show s.heap.IsTuple a its.toArray from t1) (show s.heap.IsTuple b its2.toArray from t2) ?_ fun q1 hk => ⟨rfl, ?_⟩
    · rcases hend with h | h
      · exact .inl (by simp; omega)
      · exact .inr (by simp; omega)
    · exact I.turnedN (t' := s.toks) (ch := [z, TO, i1, i2]) (fun c o hc e => hk c o (fun q => hc (by simp [q])) (fun q => hc (by simp [q])) (fun q => hc (by simp [q])) (fun q => hc (by simp [q])) e) (fun c hc => hf c (by simp at hc ⊢; rcases hc with r | r | r | r <;> simp [r]))
  self := fun _ _ _ _ _ st h => wpAny_pyIter_zip st.1 h
theorem boot_zip' : bootBuiltins "zip" = some (.type "zip") := by decide +kernel
def iZip (ta : TA) : TI := fun σ H R => ta σ H fun vs H1 => ∃ a b xs ys, vs = [.ref a, .ref b] ∧ H1 a = some (.tup xs) ∧ H1 b = some (.tup ys) ∧ R (Itz a b) H1
theorem pi_zip {X : Cx} {es : List Expr} {k : Nat} {tpos : Pos} {a b : Expr} {ta : TA} {p pos : Pos} (hg : Gl X "zip") (hm : X.mg "zip" = none) (ha : PA X [a, b] ta) (hs : starEach [a, b] X.env = [(false, eval a X.env), (false, eval b X.env)] := by rfl) (hs2 : starEach [b] X.env = [(false, eval b X.env)] := by rfl) :
    PI X (.Tuple es k tpos) (.Call (.Name "zip" p) [a, b] [] pos) (iZip ta) := by
  intro pins s σ H R I h
  refine Call_ (ld_blt I hg hm boot_zip' (PyProof.Rows.callWith_type1 (thn (ha pos pins s σ H _ I h) fun us s1 ⟨vs, H1, I1, r1, q1⟩ => ?_) (by rw [hs, hs2]) (by rw [hs2]; rfl)))
  obtain ⟨l1, l2, xs, ys, e, h1, h2, q⟩ := q1
  subst e
  obtain ⟨u, w', rfl, ru, rw'⟩ := vals2 r1
  cases ru
  cases rw'
  obtain ⟨its, rv, t1, _⟩ := I1.tuple (SqT.of h1)
  obtain ⟨its2, rv2, t2, _⟩ := I1.tuple (SqT.of h2)
  refine call_zipT (show s1.heap.IsTuple l1 its.toArray from t1) (show s1.heap.IsTuple l2 its2.toArray from t2) fun h' z TI TO i1 i2 a0 a1 a2 a3 a4 a5 a6 a7 a8 a9 b1 b2 => ?_
  refine wpAny_pyIter_zip a7 ⟨_, [z, TI, TO, i1, i2], _, _, H1, rfl, I1.kept (t' := s1.toks) a0, turn_zip l1 l2 z TI TO i1 i2 a6, ⟨a7, a8, ⟨_, _, a9⟩, b1, b2⟩, fun c hc => ?_, q⟩
  have ge : s1.heap.objs.size ≤ c := by
    simp only [List.mem_cons, List.not_mem_nil, or_false] at hc
    rcases hc with rfl | rfl | rfl | rfl | rfl <;> assumption
  exact I1.fpOk ge (I1.hok.fresh ge)
theorem for_zip {a b : Addr} {xs ys : List V} {g : TG} {tb : TS} {D : Ends} {σ : St} {H : Hp} (Pv : Nat → St → Hp → Prop) (h0 : Pv 0 σ H) (hl : ∀ i σ H, i ≤ min xs.length ys.length → Pv i σ H → H a = some (.tup xs) ∧ H b = some (.tup ys))
    (hs : ∀ i x y T σ H, xs[i]? = some x → ys[i]? = some y → Pv i σ H → H T = none → g (.ref T) σ (upd H T (.tup [x, y])) fun σ2 H2 => tb { D with nx := Pv (i + 1), ct := Pv (i + 1), bk := D.nx } σ2 H2) (hd : ∀ σ H, Pv (min xs.length ys.length) σ H → D.nx σ H) :
    ∃ W : Nat → Nat → St → Hp → Prop, (∃ m, W 0 m σ H) ∧ ∀ i m σ H, W i m σ H →
      ((Itz a b).stop i H ∧ D.nx σ H) ∨ ((Itz a b).go i H ∧ ∃ N : St → Hp → Prop, (∀ σ' H', N σ' H' → ∃ m', m' < m ∧ W (i + 1) m' σ' H') ∧ ∀ x H', (Itz a b).yld i H x H' → g x σ H' fun σ2 H2 => tb { D with nx := N, ct := N, bk := D.nx } σ2 H2) := by
  refine ⟨fun i m σ H => m = min xs.length ys.length - i ∧ i ≤ min xs.length ys.length ∧ Pv i σ H, ⟨min xs.length ys.length, by simp, Nat.zero_le _, h0⟩, ?_⟩
  rintro i m σ H ⟨rfl, hi, p⟩
  obtain ⟨ha, hb⟩ := hl i σ H hi p
  by_cases hlt : i < min xs.length ys.length
  · have hx : i < xs.length := by omega
    have hy : i < ys.length := by omega
    refine .inr ⟨⟨xs, ys, xs[i], ys[i], ha, hb, by simp [hx], by simp [hy]⟩, Pv (i + 1), fun σ' H' p' => ⟨min xs.length ys.length - (i + 1), by omega, rfl, hlt, p'⟩, fun x H' y => ?_⟩
    obtain ⟨T, u, v, hT, ex, eH, e1, e2⟩ := y
    subst ex eH
    exact hs i u v T σ H (e1 xs ha) (e2 ys hb) p hT
  · have e : i = min xs.length ys.length := by omega
    subst e
    exact .inl ⟨⟨xs, ys, ha, hb, by omega⟩, hd σ H p⟩
end L2
set_option Elab.async false
set_option linter.all false
set_option maxRecDepth 100000
set_option maxHeartbeats 4000000
namespace L2
open PySem PySem.Spec PyProof.Rows
theorem itL {h h' : Heap} {a b t : Addr} {i : Nat} (x : h.IsListIter a t i) (e : Heap.SameBut b h h') (n : a ≠ b) : h'.IsListIter a t i := let ⟨o, ho, r⟩ := x; ⟨o, e.extBut a o n ho, r⟩
def Itzl (K : PySem.W.Frag) (a b : Addr) : It :=
  ⟨fun i H => ∃ xs ys x y, H a = some (.lst xs) ∧ H b = some (.lst ys) ∧ xs[i]? = some x ∧ ys[i]? = some y,
   fun i H v H' => ∃ T x y, H T = none ∧ v = .ref T ∧ H' = upd H T (.tup [x, y]) ∧ (∀ xs, H a = some (.lst xs) → xs[i]? = some x) ∧ ∀ ys, H b = some (.lst ys) → ys[i]? = some y,
   fun i H => ∃ xs ys, H a = some (.lst xs) ∧ H b = some (.lst ys) ∧ (xs.length ≤ i ∨ ys.length ≤ i)⟩
theorem turn_zipL {P : Program} {w : World} {K : PySem.W.Frag} {es : List Expr} {kk : Nat} {pos : Pos} (a b z TI TO i1 i2 : Addr)
    (ap : TI ≠ z ∧ TO ≠ z ∧ i1 ≠ z ∧ i2 ≠ z ∧ TI ≠ TO ∧ TI ≠ i1 ∧ TI ≠ i2 ∧ TO ≠ i1 ∧ TO ≠ i2 ∧ i1 ≠ i2) :
    Turn P w K (.Tuple es kk pos) (Itzl K a b) [z, TI, TO, i1, i2] z (fun i h => IsZip h z TI TO .none ∧ IsPair h TI (.ref i1) (.ref i2) ∧ (∃ p q, IsPair h TO p q) ∧ h.IsListIter i1 a i ∧ h.IsListIter i2 b i) where
  mem := by simp
  obj := fun i h st c hc => by
    obtain ⟨hz, hTI, ⟨p, q, hTO⟩, ⟨o1, e1, c1, d1⟩, o2, e2, c2, d2⟩ := st
    simp only [List.mem_cons, List.not_mem_nil, or_false] at hc
    rcases hc with rfl | rfl | rfl | rfl | rfl
    · exact ⟨_, hz, fun v z => by have z' : Data.fields _ = Data.cell v := z; cases z'⟩
    · exact ⟨_, hTI, fun v z => by have z' : Data.seq _ _ = Data.cell v := z; cases z'⟩
    · exact ⟨_, hTO, fun v z => by have z' : Data.seq _ _ = Data.cell v := z; cases z'⟩
    · exact ⟨o1, e1, fun v z => by rw [d1] at z; cases z⟩
    · exact ⟨o2, e2, fun v z => by rw [d2] at z; cases z⟩
  keep := fun i h h' st k => by
    obtain ⟨hz, hTI, ⟨p, q, hTO⟩, ⟨o1, e1, r1⟩, o2, e2, r2⟩ := st
    exact ⟨k z (by simp) _ hz, k TI (by simp) _ hTI, ⟨p, q, k TO (by simp) _ hTO⟩, ⟨o1, k i1 (by simp) _ e1, r1⟩, o2, k i2 (by simp) _ e2, r2⟩
  item := by
    intro X hP hw hK hc i pins s σ H E I hf st hg
    subst hP hw hK
    obtain ⟨xs, ys, x, y, ha, hb, hx, hy⟩ := hg
    obtain ⟨hz, hTI, ⟨p, q, hTO⟩, h1, h2⟩ := st
    obtain ⟨its, rv, t1, _⟩ := I.list (SqL.of ha)
    obtain ⟨its2, rv2, t2, _⟩ := I.list (SqL.of hb)
    obtain ⟨u, hu, ru⟩ := rv.get hx
    obtain ⟨u2, hu2, ru2⟩ := rv2.get hy
    obtain ⟨n1, n2, n3, n4, n5, n6, n7, n8, n9, n10⟩ := ap
    have ne : ∀ {c d : Addr} {o : HO}, H c = some o → d ∈ [z, TI, TO, i1, i2] → c ≠ d := fun e hd => ne_of_none e (hf _ hd).1
    have D : ZipApart z TI TO i1 i2 a b := ⟨n1, n2, n3, n4, n5, n6, n7, n8, n9, n10, ne ha (by simp), ne ha (by simp), ne ha (by simp), ne ha (by simp), ne hb (by simp), ne hb (by simp), ne hb (by simp), ne hb (by simp)⟩
    refine wpAny_pyNext_zip_item D hz hTI hTO h1 h2 t1.isList t2.isList (by simpa using hu) (by simpa using hu2) fun q1 hz1 hTO1 j1 j2 hT hsz hk => ⟨_, rfl, ?_⟩
    have hn : H s.heap.objs.size = none := I.fresh
    have hT1 : IsPair q1 TI (.ref i1) (.ref i2) := hk _ _ n1 n5 n6 n7 hTI
    have neT : ∀ c ∈ [z, TI, TO, i1, i2], c ≠ s.heap.objs.size := fun c hc => by
      simp only [List.mem_cons, List.not_mem_nil, or_false] at hc
      rcases hc with rfl | rfl | rfl | rfl | rfl
      · exact Nat.ne_of_lt (Heap.lt_size (show s.heap.get? _ = some _ from hz))
      · exact Nat.ne_of_lt (Heap.lt_size (show s.heap.get? _ = some _ from hTI))
      · exact Nat.ne_of_lt (Heap.lt_size (show s.heap.get? _ = some _ from hTO))
      · obtain ⟨_, e, _⟩ := h1; exact Nat.ne_of_lt (Heap.lt_size e)
      · obtain ⟨_, e, _⟩ := h2; exact Nat.ne_of_lt (Heap.lt_size e)
    have I1 : Inv X pins σ (upd H s.heap.objs.size (.tup [x, y])) { s with heap := q1, toks := s.toks } := I.turnedL (ch := [z, TO, i1, i2]) (fun c o hc e => hk c o (fun q => hc (by simp [q])) (fun q => hc (by simp [q])) (fun q => hc (by simp [q])) (fun q => hc (by simp [q])) e)
      (fun c hc => hf c (by simp at hc ⊢; rcases hc with r | r | r | r <;> simp [r])) (Nat.le_refl _) ⟨Nat.le_of_lt (small1000 (show 2 ≤ 1000 by decide)), [u, u2], .cons ru (.cons ru2 .nil), _, hT, rfl, _, rfl⟩
    refine wpAny_letOwnedTupleGo_zip (s := { s with heap := q1 }) hz1 fun q2 hz2 hs2 => ⟨.ref s.heap.objs.size, _, ?_, rfl, ⟨_, x, y, hn, rfl, rfl, fun ws e => by rw [ha] at e; cases e; exact hx, fun ws e => by rw [hb] at e; cases e; exact hy⟩, ⟨hz2, hs2.extBut _ _ n1 hT1, ⟨_, _, hs2.extBut _ _ n2 hTO1⟩, itL j1 hs2 n3, itL j2 hs2 n4⟩, fun c hc => ?_⟩
    · refine I1.turnedN (t' := s.toks) (ch := [z]) (fun c o hc e => (hs2.2 c (fun q => hc (by simp [q]))).trans e) fun c hc => ?_
      have ec := List.mem_singleton.mp hc
      subst ec
      obtain ⟨f0, f⟩ := hf c (by simp)
      exact ⟨by rw [upd_ne (neT c (by simp))]; exact f0, f⟩
    · rw [upd_ne (neT c hc)]; exact (hf c hc).1
  done := by
    intro X hP hw hK hc i pins s σ H E I hf st hg
    subst hP hw hK
    obtain ⟨xs, ys, ha, hb, hend⟩ := hg
    obtain ⟨hz, hTI, ⟨p, q, hTO⟩, h1, h2⟩ := st
    obtain ⟨its, rv, t1, _⟩ := I.list (SqL.of ha)
    obtain ⟨its2, rv2, t2, _⟩ := I.list (SqL.of hb)
    have l1 := rv.length
    have l2 := rv2.length
    obtain ⟨n1, n2, n3, n4, n5, n6, n7, n8, n9, n10⟩ := ap
    have ne : ∀ {c d : Addr} {o : HO}, H c = some o → d ∈ [z, TI, TO, i1, i2] → c ≠ d := fun e hd => ne_of_none e (hf _ hd).1
    have D : ZipApart z TI TO i1 i2 a b := ⟨n1, n2, n3, n4, n5, n6, n7, n8, n9, n10, ne ha (by simp), ne ha (by simp), ne ha (by simp), ne ha (by simp), ne hb (by simp), ne hb (by simp), ne hb (by simp), ne hb (by simp)⟩
    refine wpAny_pyNext_zip_end (I.ok.hd hc) D hz hTI hTO h1 h2 t1.isList t2.isList ?_ fun q1 hk => ⟨rfl, ?_⟩
    · rcases hend with h | h
      · exact .inl (by simp; omega)
      · exact .inr (by simp; omega)
    · exact I.turnedN (t' := s.toks) (ch := [z, TO, i1, i2]) (fun c o hc e => hk c o (fun q => hc (by simp [q])) (fun q => hc (by simp [q])) (fun q => hc (by simp [q])) (fun q => hc (by simp [q])) e) (fun c hc => hf c (by simp at hc ⊢; rcases hc with r | r | r | r <;> simp [r]))
  self := fun _ _ _ _ _ st h => wpAny_pyIter_zip st.1 h
def iZipL (K : PySem.W.Frag) (ta : TA) : TI := fun σ H R => ta σ H fun vs H1 => ∃ a b xs ys, vs = [.ref a, .ref b] ∧ H1 a = some (.lst xs) ∧ H1 b = some (.lst ys) ∧ R (Itzl K a b) H1
theorem pi_zipL {X : Cx} {es : List Expr} {k : Nat} {tpos : Pos} {a b : Expr} {ta : TA} {p pos : Pos} (hg : Gl X "zip") (hm : X.mg "zip" = none) (ha : PA X [a, b] ta) (hs : starEach [a, b] X.env = [(false, eval a X.env), (false, eval b X.env)] := by rfl) (hs2 : starEach [b] X.env = [(false, eval b X.env)] := by rfl) :
    PI X (.Tuple es k tpos) (.Call (.Name "zip" p) [a, b] [] pos) (iZipL X.K ta) := by
  intro pins s σ H R I h
  refine Call_ (ld_blt I hg hm boot_zip' (PyProof.Rows.callWith_type1 (thn (ha pos pins s σ H _ I h) fun us s1 ⟨vs, H1, I1, r1, q1⟩ => ?_) (by rw [hs, hs2]) (by rw [hs2]; rfl)))
  obtain ⟨l1, l2, xs, ys, e, h1, h2, q⟩ := q1
  subst e
  obtain ⟨u, w', rfl, ru, rw'⟩ := vals2 r1
  cases ru
  cases rw'
  obtain ⟨its, rv, t1, _⟩ := I1.list (SqL.of h1)
  obtain ⟨its2, rv2, t2, _⟩ := I1.list (SqL.of h2)
  refine call_zip_2 t1.isList t2.isList fun h' a7 a8 a9 b1 b2 hz hk => ?_
  refine wpAny_pyIter_zip a7 ⟨_, [s1.heap.objs.size + 4, s1.heap.objs.size + 2, s1.heap.objs.size + 3, s1.heap.objs.size, s1.heap.objs.size + 1], _, _, H1, rfl, I1.kept (t' := s1.toks) hk, turn_zipL l1 l2 _ _ _ _ _ ?_, ⟨a7, a8, ⟨_, _, a9⟩, b1, b2⟩, fun c hc => ?_, q⟩
  · refine ⟨?_, ?_, ?_, ?_, ?_, ?_, ?_, ?_, ?_, ?_⟩ <;> (intro e; have e' : @Eq Nat _ _ := e; omega)
  · have ge : s1.heap.objs.size ≤ c := by
      simp only [List.mem_cons, List.not_mem_nil, or_false] at hc
      rcases hc with rfl | rfl | rfl | rfl | rfl
      · exact Nat.le_add_right _ _
      · exact Nat.le_add_right _ _
      · exact Nat.le_add_right _ _
      · exact Nat.le_refl _
      · exact Nat.le_add_right _ _
    exact I1.fpOk ge (I1.hok.fresh ge)
theorem for_zipL {K : PySem.W.Frag} {a b : Addr} {xs ys : List V} {g : TG} {tb : TS} {D : Ends} {σ : L2.St} {H : Hp} (Pv : Nat → L2.St → Hp → Prop) (h0 : Pv 0 σ H) (hl : ∀ i σ H, i ≤ min xs.length ys.length → Pv i σ H → H a = some (.lst xs) ∧ H b = some (.lst ys))
    (hs : ∀ i x y T σ H, xs[i]? = some x → ys[i]? = some y → Pv i σ H → H T = none → g (.ref T) σ (upd H T (.tup [x, y])) fun σ2 H2 => tb { D with nx := Pv (i + 1), ct := Pv (i + 1), bk := D.nx } σ2 H2) (hd : ∀ σ H, Pv (min xs.length ys.length) σ H → D.nx σ H) :
    ∃ W : Nat → Nat → L2.St → Hp → Prop, (∃ m, W 0 m σ H) ∧ ∀ i m σ H, W i m σ H →
      ((Itzl K a b).stop i H ∧ D.nx σ H) ∨ ((Itzl K a b).go i H ∧ ∃ N : L2.St → Hp → Prop, (∀ σ' H', N σ' H' → ∃ m', m' < m ∧ W (i + 1) m' σ' H') ∧ ∀ x H', (Itzl K a b).yld i H x H' → g x σ H' fun σ2 H2 => tb { D with nx := N, ct := N, bk := D.nx } σ2 H2) := by
  refine ⟨fun i m σ H => m = min xs.length ys.length - i ∧ i ≤ min xs.length ys.length ∧ Pv i σ H, ⟨min xs.length ys.length, by simp, Nat.zero_le _, h0⟩, ?_⟩
  rintro i m σ H ⟨rfl, hi, p⟩
  obtain ⟨ha, hb⟩ := hl i σ H hi p
  by_cases hlt : i < min xs.length ys.length
  · have hx : i < xs.length := by omega
    have hy : i < ys.length := by omega
    refine .inr ⟨⟨xs, ys, xs[i], ys[i], ha, hb, by simp [hx], by simp [hy]⟩, Pv (i + 1), fun σ' H' p' => ⟨min xs.length ys.length - (i + 1), by omega, rfl, hlt, p'⟩, fun x H' y => ?_⟩
    obtain ⟨T, u, v, hT, ex, eH, e1, e2⟩ := y
    subst ex eH
    exact hs i u v T σ H (e1 xs ha) (e2 ys hb) p hT
  · have e : i = min xs.length ys.length := by omega
    subst e
    exact .inl ⟨⟨xs, ys, ha, hb, by omega⟩, hd σ H p⟩
end L2
set_option Elab.async false
set_option linter.all false
set_option maxRecDepth 100000
set_option maxHeartbeats 4000000
namespace L2
open PySem PySem.Spec PyProof.Rows
theorem comp_tupR {K : PySem.W.Frag} {a : Addr} {xs : List V} {acc : Addr} {g : TG} {tt : TT} {te : TE} {σ : L2.St} {H : Hp} {R : Hp → Prop} (Pv : Nat → Hp → Prop) (h0 : Pv 0 (upd H acc (.lst []))) (hl : ∀ i H, i ≤ xs.length → Pv i H → SqT K H a xs)
    (hs : ∀ i x H, xs[i]? = some x → Pv i H → g x σ H fun σ2 H4 => Ext σ σ2 ∧ tt σ2 H4 fun b H5 =>
      if b = true then te σ2 H5 fun y H6 => ∃ zs, H6 acc = some (.lst zs) ∧ zs.length < sizeLine ∧ Pv (i + 1) (upd H6 acc (.lst (zs ++ [y]))) else Pv (i + 1) H5) (hd : ∀ H, Pv xs.length H → R H) :
    ∃ W : Nat → Nat → Hp → Prop, (∃ m, W 0 m (upd H acc (.lst []))) ∧ ∀ i m H2, W i m H2 →
      ((Itt K a).stop i H2 ∧ R H2) ∨ ((Itt K a).go i H2 ∧ ∃ N : Hp → Prop, (∀ H', N H' → ∃ m', m' < m ∧ W (i + 1) m' H') ∧ ∀ x H3, (Itt K a).yld i H2 x H3 → g x σ H3 fun σ2 H4 => Ext σ σ2 ∧ tt σ2 H4 fun b H5 =>
        if b = true then te σ2 H5 fun y H6 => ∃ zs, H6 acc = some (.lst zs) ∧ zs.length < sizeLine ∧ N (upd H6 acc (.lst (zs ++ [y])))
        else N H5) := by
  refine ⟨fun i m H => m = xs.length - i ∧ i ≤ xs.length ∧ Pv i H, ⟨xs.length, by simp, Nat.zero_le _, h0⟩, ?_⟩
  rintro i m H2 ⟨rfl, hi, p⟩
  have q := hl i H2 hi p
  by_cases hlt : i < xs.length
  · refine .inr ⟨⟨xs, xs[i], q, by simp [hlt]⟩, Pv (i + 1), fun H' p' => ⟨xs.length - (i + 1), by omega, rfl, hlt, p'⟩, fun x H' y => ?_⟩
    obtain ⟨e, y⟩ := y
    subst e
    exact hs i x _ (y xs q) p
  · have e : i = xs.length := by omega
    subst e
    exact .inl ⟨⟨xs, q, Nat.le_refl _⟩, hd H2 p⟩
section
variable {X : Cx}
theorem bools_back : ∀ {bs : List Bool} {us : List Value}, Vals (bs.map V.bl) us → LSm.BoolsAre us bs
  | [], _, h => by cases h; exact .nil
  | b :: bs, _, h => by
    cases h with
    | cons r t =>
      cases r
      exact .cons b (bools_back t)
structure KDic (K : PySem.W.Frag) (P : Params) (d : Addr) : Prop where
  ex : ∃ (es : Array DictEntry) (n : Nat), K.lookup d = some ⟨.type "dict", none, .dict es n, #[]⟩ ∧ PySem.W.KeysLit P es.toList
  sy : (d == sysModules) = false
def rIxK (d : Addr) : R2 := fun x y H Q => ∃ (z : Str) (r : Value) (v : V), x = .ref d ∧ y = .str z ∧ PySem.W.nsIn X.K d z = some (some r) ∧ RelV v r ∧ Q v H
theorem ix_kd {d : Addr} (k : KDic X.K X.w.params d) : IxR X (rIxK (X := X) d) := by
  intro value slice pins s σ H x y v u Q I rx ry h hs
  obtain ⟨z, r, vv, rfl, rfl, e, rv, q⟩ := h
  cases rx
  obtain ⟨t, rfl⟩ := ry
  obtain ⟨es, n, hl, hk⟩ := k.ex
  have hm := PySem.W.mapOf_K (prog := X.prog) (w := X.w) I.kIn hl hk
  exact tail_any hm.typeIs slot_dict_getitem.lookup (wpAny_getItem_of (strKind_is X.prog X.w z t) hm (PySem.W.find_K hl e) ⟨vv, H, I.tok _, rv, q⟩) hs
theorem op_eqE (hu : X.A.units < cLine) : OpR X (compareOp .Eq) (fun x y H Q => ∃ (a b : Addr) (xs : List V), x = .ref a ∧ y = .ref b ∧ H a = some (.tup xs) ∧ H b = some (.tup []) ∧ Q (.bl (xs.length == 0)) H) := by
  intro pins s σ H x y v u Q I rx ry h
  obtain ⟨a, b, xs, rfl, rfl, ha, hb, q⟩ := h
  cases rx
  cases ry
  obtain ⟨its, rv, p, _⟩ := I.tuple (SqT.of ha)
  obtain ⟨its2, rv2, p2, _⟩ := I.tuple (SqT.of hb)
  have l1 := rv.length
  have l2 := rv2.length
  have z2 : its2.toArray.size = 0 := by rw [List.size_toArray]; exact l2.symm
  refine SeqAt.eq_tupleAt (e := fun _ => true) (show s.heap.IsTuple a its.toArray from p) (show s.heap.IsTuple b its2.toArray from p2) hu (fun j _ h2 => absurd h2 (by omega)) ?_
  have e : ((List.range (min its.toArray.size its2.toArray.size)).all (fun _ => true) && its.toArray.size == its2.toArray.size) = (xs.length == 0) := by
    rw [z2, List.size_toArray, ← l1]
    simp
  rw [e]
  exact ⟨.bl (xs.length == 0), H, I, rfl, q⟩
end
structure Sd (p : Prop) : Prop where
  un : p
section
variable {X : Cx} {st : Stmt} {rest : List Stmt} {t u : TS} {e a b : Expr} {es : List Expr} {te ta tb : TE} {tA : TA} {pos : Pos}
theorem pss_consS (h1 : Sd (PS X st t)) (h2 : Sd (PSs X rest u)) : Sd (PSs X (st :: rest) (tSeq t u)) := ⟨pss_cons h1.un h2.un⟩
theorem pss_oneS (h1 : Sd (PS X st t)) : Sd (PSs X [st] t) := ⟨pss_one h1.un⟩
theorem ps_ifS {c : Expr} {x y : List Stmt} {tc : TT} (hc : Sd (PT X c tc)) (ha : Sd (PSs X x t)) (hb : Sd (PSs X y u)) : Sd (PS X (.If c x y pos) (tIfS tc t u)) := ⟨ps_if hc.un ha.un hb.un⟩
theorem ps_retS (he : Sd (PE X e te)) : Sd (PS X (.Return (some e) pos) (tRet te)) := ⟨ps_ret he.un⟩
theorem ps_setS {i : Nat} {x : Str} {pos' : Pos} (hN : X.N.Nodup) (hi : X.N[i]? = some x) (hx : Loc X.env.scope x) (he : Sd (PE X e te)) (hs : swapsWith e (some (.Name x pos')) pos.line X.env = pure false := by rfl) (hf : X.fn x = true ∨ X.env.scope.names.lookup x = some .local := by first | exact .inl rfl | exact .inr rfl | assumption) :
    Sd (PS X (.Assign [.Name x pos'] e pos) (tAsg te (gName i))) := ⟨ps_set hN hi hx he.un hs hf⟩
theorem pe_tupS {k : Nat} (h : Sd (PA X es tA)) : Sd (PE X (.Tuple es k pos) (tTup tA)) := ⟨pe_tup h.un⟩
theorem pe_lstS (h : Sd (PA X es tA)) : Sd (PE X (.List es pos) (tLst tA)) := ⟨pe_lst h.un⟩
theorem pa_consS (ha : Sd (PE X e te)) (hr : Sd (PA X es tA)) (hs : starEach (e :: es) X.env = (false, eval e X.env) :: starEach es X.env := by rfl) : Sd (PA X (e :: es) (tCons te tA)) := ⟨pa_cons ha.un hr.un hs⟩
theorem pe_ixS {r : R2} (hr : IxR X r) (ha : Sd (PE X a ta)) (hb : Sd (PE X b tb)) (hs : PlainIx b) : Sd (PE X (.Subscript a b pos) (tOp r ta tb)) := ⟨pe_ix hr ha.un hb.un hs⟩
end
end L2
set_option Elab.async false
set_option linter.all false
set_option maxRecDepth 100000
set_option maxHeartbeats 4000000
namespace L2
open PySem PySem.Spec PyProof.Rows
section
variable {prog : Program} {w : World} {A : Around} {E : Value → Shared → Prop} {s : Shared}
end
end L2
set_option Elab.async false
set_option linter.all false
namespace L2
open PySem PySem.Spec PyProof.Rows
section
variable {X : Cx}
end
section
variable {prog : Program} {w : World} {A : Around} {E : Value → Shared → Prop} {s : Shared}
end
end L2
set_option Elab.async false
set_option linter.all false
set_option maxRecDepth 100000
set_option maxHeartbeats 4000000
namespace L2
open PySem PySem.Spec PyProof.Rows
section
variable {X : Cx}
theorem range_anyB (bs : List Bool) : ((List.range bs.length).any fun i => (bs[i]?).getD false) = bs.any id := by
  rw [Bool.eq_iff_iff, List.any_eq_true, List.any_eq_true]
  constructor
  · rintro ⟨i, hi, h⟩
    have hl := List.mem_range.mp hi
    rw [List.getElem?_eq_getElem hl] at h
    exact ⟨bs[i], List.getElem_mem hl, h⟩
  · rintro ⟨b, hb, h⟩
    obtain ⟨i, hl, e⟩ := List.getElem_of_mem hb
    exact ⟨i, List.mem_range.mpr hl, by rw [List.getElem?_eq_getElem hl, e]; exact h⟩
theorem call_anyL (hc : X.calm = true) : CallR X (.builtin "any") (fun xs H Q => ∃ (l : Addr) (bs : List Bool), xs = [.ref l] ∧ H l = some (.lst (bs.map V.bl)) ∧ Q (.bl (bs.any id)) H) := by
  intro pins s σ H xs us Q I r h
  obtain ⟨l, bs, rfl, hl, q⟩ := h
  obtain ⟨u, rfl, ru⟩ := vals1 r
  cases ru
  obtain ⟨_, its, n, rv, le, e⟩ := I.lstM hl
  have L1 : s.heap.IsList l its.toArray := ⟨_, e, rfl, _, rfl⟩
  have hb := bools_back rv
  have hlt : l < s.heap.objs.size := Heap.lt_size e
  refine call_any_walk (wpAny_pyIter_list L1 ?_)
  refine ⟨s.heap.objs.size, [s.heap.objs.size, l], [s.heap.objs.size], its.toArray.size, _, _, fun i => (bs[i]?).getD false, rfl, Walks.list (A := X.A.in1) (I.ok.hd hc) _ l (Nat.ne_of_lt hlt) its.toArray,
    ⟨⟨_, Heap.get?_push_size _ rfl, rfl, rfl⟩, L1.push _⟩, fun i v s' Q' E' hP hQ => ?_, fun h' tk hk => ?_⟩
  · obtain ⟨b, e, rfl⟩ := hb.get i v (by simpa using hP)
    simp only [e, Option.getD_some] at hQ
    exact wpAny_truthy_bool hQ
  · have e : ((List.range its.toArray.size).any fun i => (bs[i]?).getD false) = bs.any id := by
      rw [List.size_toArray, hb.length]; exact range_anyB bs
    rw [e]
    exact ⟨.bl (bs.any id), H, I.kept (LSm.kept_iter hk), rfl, q⟩
end
end L2
set_option Elab.async false
set_option linter.all false
set_option maxRecDepth 100000
set_option maxHeartbeats 4000000
namespace L2
open PySem PySem.Spec PyProof.Rows
section
variable {X : Cx}
open Classical in
noncomputable def eqW (H : Hp) (dx : Dt) (w : Value) : Bool := decide (∃ x d, RelV x w ∧ DR H d x ∧ Dt.beq d dx = true)
end
end L2
set_option linter.all false
set_option maxRecDepth 100000
set_option maxHeartbeats 4000000
namespace PySem
open Sem (wp)
namespace F
end F
section
variable {prog : Program} {w : World} {K : Type} [DecidableEq K] {knd : KeyKind prog w K} {A : Around} {R : Result → Shared → Prop} {E : Value → Shared → Prop}
end
end PySem
set_option Elab.async false
set_option linter.all false
set_option maxRecDepth 100000
set_option maxHeartbeats 4000000
namespace L2
open PySem PySem.Spec PyProof.Rows
section
variable {X : Cx}
end
end L2
set_option linter.all false
set_option maxRecDepth 100000
set_option maxHeartbeats 4000000
namespace L2
open PySem PySem.W PyProof.Rows
section
variable {n : Nat} {r : Nat → Nat → Bool}
abbrev lt (r : Nat → Nat → Bool) (p : Array Nat) (i j : Nat) : Bool := r (p.getD i 0) (p.getD j 0)
end
end L2
set_option linter.all false
set_option maxRecDepth 100000
set_option maxHeartbeats 4000000
namespace L2
end L2
namespace PySem
open PySem.Calls PyProof.Rows PySem.W L2
open AutoSeq1 (wpAny_loadPart')
end PySem
set_option linter.all false
set_option maxRecDepth 100000
set_option maxHeartbeats 4000000
namespace PySem
open PySem.Calls PyProof.Rows PySem.W L2
section
variable {prog : Program} {w : World} {A : Around} {E : Value → Shared → Prop} {s : Shared}
end
end PySem
set_option Elab.async false
set_option linter.all false
set_option maxRecDepth 100000
set_option maxHeartbeats 4000000
namespace L2
open PySem PySem.Spec PyProof.Rows PySem.W
section
variable {X : Cx}
end
end L2
set_option Elab.async false
set_option linter.all false
set_option maxRecDepth 100000
set_option maxHeartbeats 4000000
namespace PySem
open AutoSeq1
end PySem
namespace L2
open PySem PySem.Spec PyProof.Rows
section
variable {X : Cx}
end
end L2
set_option linter.all false
set_option maxRecDepth 100000
set_option maxHeartbeats 4000000
namespace L2
open PySem PySem.W PyProof.Rows
section
variable {n : Nat} {r : Nat → Nat → Bool}
end
end L2
set_option Elab.async false
set_option linter.all false
set_option maxRecDepth 100000
set_option maxHeartbeats 4000000
namespace L2
open PySem PySem.Spec PyProof.Rows PySem.W
instance : DecidableEq Dt := fun d e => decidable_of_iff (Dt.beq d e = true) Dt.beq_iff
mutual
inductive DA (h : Heap) : Dt → Value → Prop
  | int (i : Int) (t : Tok) : DA h (.int i) (.int i t)
  | str (x : Str) (t : Tok) : DA h (.str x) (.str x t)
  | tup {a : Addr} {items : Array Value} {ds : List Dt} : h.IsTuple a items → DAs h ds items.toList → DA h (.tup ds) (.ref a)
inductive DAs (h : Heap) : List Dt → List Value → Prop
  | nil : DAs h [] []
  | cons {d : Dt} {u : Value} {ds : List Dt} {us : List Value} : DA h d u → DAs h ds us → DAs h (d :: ds) (u :: us)
end
section
variable {P : Program} {w : World} {H : Hp} {h : Heap}
end
section
variable {s : Shared}
end
mutual
def Dt.hsh (w : World) : Dt → Int
  | .int i => hashInt i
  | .str x => hashStr w x
  | .tup ds => reduceHash (Builtin.Tuple.tupleHashOf (Dt.hshs w ds))
def Dt.hshs (w : World) : List Dt → List Int
  | [] => []
  | d :: ds => Dt.hsh w d :: Dt.hshs w ds
end
mutual
def Dt.draws : Dt → Nat
  | .int _ => 1
  | .str _ => 1
  | .tup ds => Dt.drawss ds + 1
def Dt.drawss : List Dt → Nat
  | [] => 0
  | d :: ds => Dt.draws d + Dt.drawss ds
end
section
variable {prog : Program} {w : World} {E : Value → Shared → Prop}
end
end L2
set_option Elab.async false
set_option linter.all false
set_option maxRecDepth 100000
set_option maxHeartbeats 4000000
namespace L2
open PySem PySem.Spec PyProof.Rows PySem.W
def strLt (x y : Str) : Bool := decide (x.cps.toList < y.cps.toList)
mutual
def Dt.lt : Dt → Dt → Bool
  | .int i, .int j => decide (i < j)
  | .str x, .str y => strLt x y
  | .tup ds, .tup es => Dt.lts ds es
  | .int _, .str _ => true
  | .int _, .tup _ => true
  | .str _, .tup _ => true
  | .str _, .int _ => false
  | .tup _, .int _ => false
  | .tup _, .str _ => false
def Dt.lts : List Dt → List Dt → Bool
  | [], [] => false
  | [], _ :: _ => true
  | _ :: _, [] => false
  | d :: ds, e :: es => if Dt.beq d e = true then Dt.lts ds es else Dt.lt d e
end
inductive Ty where
  | int | str | many (t : Ty) | two (a b : Ty)
mutual
def Dt.has : Ty → Dt → Bool
  | .int, .int _ => true
  | .str, .str _ => true
  | .many t, .tup ds => Dt.hass t ds
  | .two a b, .tup ds => Dt.hasp a b ds
  | _, _ => false
def Dt.hass : Ty → List Dt → Bool
  | _, [] => true
  | t, d :: ds => Dt.has t d && Dt.hass t ds
def Dt.hasp : Ty → Ty → List Dt → Bool
  | a, b, d :: es => Dt.has a d && Dt.hasq b es
  | _, _, _ => false
def Dt.hasq : Ty → List Dt → Bool
  | b, e :: es => Dt.has b e && (es.length == 0)
  | _, _ => false
end
mutual
def Dt.cmp : Dt → Dt → Bool
  | .int _, .int _ => true
  | .str _, .str _ => true
  | .tup ds, .tup es => Dt.cmps ds es
  | _, _ => false
def Dt.cmps : List Dt → List Dt → Bool
  | [], _ => true
  | _ :: _, [] => true
  | d :: ds, e :: es => if Dt.beq d e = true then Dt.cmps ds es else Dt.cmp d e
end
end L2
set_option Elab.async false
set_option linter.all false
set_option maxRecDepth 100000
set_option maxHeartbeats 4000000
namespace L2
open PySem PySem.Calls PySem.Spec PyProof.Rows PySem.W
open AutoSeq1 (wpAny_loadPart')
end L2
set_option Elab.async false
set_option linter.all false
set_option maxRecDepth 100000
set_option maxHeartbeats 4000000
namespace L2
open PySem PySem.Calls PySem.Spec PyProof.Rows PySem.W
section
variable {prog : Program} {w : World} {A : Around} {E : Value → Shared → Prop} {s : Shared}
end
end L2
set_option Elab.async false
set_option linter.all false
set_option maxRecDepth 100000
set_option maxHeartbeats 4000000
namespace L2
open PySem PySem.Calls PySem.Spec PyProof.Rows PySem.W
section
variable {prog : Program} {w : World} {A : Around} {E : Value → Shared → Prop} {s : Shared}
end
end L2
set_option Elab.async false
set_option linter.all false
set_option maxRecDepth 100000
set_option maxHeartbeats 4000000
namespace L2
open PySem PySem.W PyProof.Rows
structure LtE (M : Model) (A : Around) (E : Value → Shared → Prop) (s : Shared) (κ : SortKind) (G : Keyed → Prop) (R : Keyed → Keyed → Bool) : Prop where
  lt : ∀ x y, G x → G y → ∀ (st : SortSt) (Q : Option Bool → SortSt → Prop), kindOf st = κ → Q (some (R x y)) st → wpS M A E s (lt' x y) Q st
  asym : ∀ x y, G x → G y → R x y = true → R y x = false
  tr : ∀ x y z, G x → G y → G z → R x y = false → R y z = false → R x z = false
section
variable {M : Model} {A : Around} {E : Value → Shared → Prop} {s : Shared} {κ : SortKind} {G : Keyed → Prop} {R : Keyed → Keyed → Bool}
end
end L2
set_option Elab.async false
set_option linter.all false
set_option maxRecDepth 100000
set_option maxHeartbeats 4000000
namespace L2
open PySem PySem.W PyProof.Rows
section
variable {R : Keyed → Keyed → Bool} {A B o as bs p : List Keyed}
end
section
variable {M : Model} {A : Around} {E : Value → Shared → Prop} {s : Shared} {κ : SortKind} {G : Keyed → Prop} {R : Keyed → Keyed → Bool}
abbrev d0 : Keyed := (.none, .none)
section
variable {a b o : Array Keyed} {ia ib k : Nat}
end
end
end L2
set_option Elab.async false
set_option linter.all false
set_option maxRecDepth 100000
set_option maxHeartbeats 4000000
namespace L2
open PySem PySem.W PyProof.Rows
section
variable {M : Model} {A : Around} {E : Value → Shared → Prop} {s : Shared} {κ : SortKind} {G : Keyed → Prop} {R : Keyed → Keyed → Bool}
end
end L2
set_option Elab.async false
set_option linter.all false
set_option maxRecDepth 100000
set_option maxHeartbeats 4000000
namespace L2
open PySem PySem.W PyProof.Rows
section
variable {M : Model} {A : Around} {E : Value → Shared → Prop} {s : Shared} {κ : SortKind} {G : Keyed → Prop} {R : Keyed → Keyed → Bool}
section
variable {a b o : Array Keyed} {na nb k : Nat}
end
end
end L2
set_option Elab.async false
set_option linter.all false
set_option maxRecDepth 100000
set_option maxHeartbeats 4000000
namespace L2
open PySem PySem.W PyProof.Rows
section
variable {M : Model} {A : Around} {E : Value → Shared → Prop} {s : Shared} {κ : SortKind} {G : Keyed → Prop} {R : Keyed → Keyed → Bool}
end
end L2
set_option Elab.async false
set_option linter.all false
set_option maxRecDepth 100000
set_option maxHeartbeats 4000000
namespace L2
open PySem PySem.W PyProof.Rows
section
variable {M : Model} {A : Around} {E : Value → Shared → Prop} {s : Shared} {κ : SortKind} {G : Keyed → Prop} {R : Keyed → Keyed → Bool}
end
end L2
set_option Elab.async false
set_option linter.all false
set_option maxRecDepth 100000
set_option maxHeartbeats 4000000
namespace L2
open PySem PySem.W PyProof.Rows
section
variable {M : Model} {A : Around} {E : Value → Shared → Prop} {s : Shared} {κ : SortKind} {G : Keyed → Prop} {R : Keyed → Keyed → Bool} {a₀ : Array Keyed}
end
end L2
set_option Elab.async false
set_option linter.all false
set_option maxRecDepth 100000
set_option maxHeartbeats 4000000
namespace L2
open PySem PySem.Calls PySem.W PyProof.Rows
section
variable {prog : Program} {w : World} {A : Around} {E : Value → Shared → Prop} {s : Shared} {κ : SortKind} {G : Keyed → Prop} {R : Keyed → Keyed → Bool}
end
end L2
set_option Elab.async false
set_option linter.all false
set_option maxRecDepth 100000
set_option maxHeartbeats 4000000
namespace L2
open PySem PySem.Calls PySem.Spec PySem.W PyProof.Rows
open Classical in
noncomputable def dtOf (h : Heap) (v : Value) : Dt := if e : ∃ d, DA h d v then e.choose else .tup []
section
variable {prog : Program} {w : World} {A : Around} {E : Value → Shared → Prop} {s : Shared}
end
end L2
set_option Elab.async false
set_option linter.all false
set_option maxRecDepth 100000
set_option maxHeartbeats 4000000
namespace L2
open PySem PySem.Calls PySem.Spec PyProof.Rows PySem.W
section
variable {X : Cx}
end
end L2
set_option Elab.async false
set_option linter.all false
set_option maxRecDepth 100000
set_option maxHeartbeats 4000000
namespace L2
open PySem PySem.Calls PySem.Spec PyProof.Rows PySem.W
abbrev XN := List (Dt × Addr × V)
section
variable {P : Program} {w : World} {H H' : Hp} {h : Heap} {a : Addr} {kvs : List (Dt × V)}
end
section
variable {X : Cx} {pins : List (Addr × Obj)} {σ : L2.St} {H : Hp} {s : Shared} {a b : Addr} {k : Dt} {kvs : List (Dt × V)} {v : V} {A : Around} {E : Value → Shared → Prop}
end
end L2
set_option Elab.async false
set_option linter.all false
set_option maxRecDepth 100000
set_option maxHeartbeats 4000000
namespace PySem
open Sem (wp)
section
variable {prog : Program} {w : World} {A : Around} {E : Value → Shared → Prop} {s : Shared} {d it : Addr} {es : Array DictEntry} {ep i : Nat}
end
end PySem
namespace PySem.W
open PySem
section
variable {prog : Program} {w : World} {d r : Addr} {es : Array DictEntry} {ep : Nat}
end
end PySem.W
set_option Elab.async false
set_option linter.all false
set_option maxRecDepth 100000
set_option maxHeartbeats 4000000
namespace PySem.W
open PySem PySem.Spec PySem.Calls PyProof.Rows
section
variable {prog : Program} {w : World} {A : Around} {E : Value → Shared → Prop} {K : Frag} {x D : Addr} {h : Heap} {g : Array GenState} {d : Drawn} {t : Nat} {os : OsState}
end
end PySem.W
set_option Elab.async false
set_option linter.all false
set_option maxRecDepth 100000
set_option maxHeartbeats 4000000
namespace L2
open PySem PySem.Spec PyProof.Rows
section
variable {P : Program} {w : World} {H H' : Hp} {h h' g : Heap} {a : Addr} {o : HO}
end
section
variable {X : Cx} {pins : List (Addr × Obj)} {σ : St} {H H' : Hp} {s s' : Shared} {ea C : Addr}
end
section
variable {P : Program} {w : World} {K : PySem.W.Frag} {mg : Str → Option Value} {base : Heap} {N : List Str} {qual : Str} {scope : Scope} {f : Addr} {cd : Value} {A : Around} {outer : List Env} {s : Shared} {H : Hp} {E : XK}
end
end L2
set_option Elab.async false
set_option linter.all false
set_option maxRecDepth 100000
set_option maxHeartbeats 4000000
namespace PySem.W
open PySem PySem.Spec PySem.Calls PyProof.Rows
section
variable {M : Model} {A : Around} {E : Value → Shared → Prop} {K : Frag} {x C D : Addr} {b : Bool} {h : Heap} {g : Array GenState} {d : Drawn} {t : Nat} {os : OsState}
end
end PySem.W
namespace L2
open PySem PySem.Spec PyProof.Rows
section
variable {P : Program} {w : World} {K : PySem.W.Frag} {mg : Str → Option Value} {base : Heap} {N : List Str} {qual : Str} {scope : Scope} {f : Addr} {cd : Value} {A : Around} {outer : List Env} {s : Shared} {H : Hp} {E : XK}
end
end L2
set_option Elab.async false
set_option linter.all false
set_option maxRecDepth 100000
set_option maxHeartbeats 4000000
namespace L2
open PySem PySem.Spec PyProof.Rows
abbrev HR := Ends → Addr → St → Hp → Prop
section
variable {X : Cx} {pins : List (Addr × Obj)} {σ : St} {H H' : Hp} {s s' : Shared} {ea C : Addr}
end
section
variable {X : Cx} {x n : Str} {np pos : Pos} {i : Nat} {b0 : Stmt} {suite : List Stmt} {rest : List ExceptHandler} {ts : TS} {r : HR} {Da : Addr}
end
end L2
set_option Elab.async false
set_option linter.all false
set_option maxRecDepth 100000
set_option maxHeartbeats 4000000
namespace L2
open PySem PySem.Spec PyProof.Rows
end L2
set_option Elab.async false
set_option linter.all false
set_option maxRecDepth 100000
set_option maxHeartbeats 4000000
namespace L2
open PySem PySem.Spec PyProof.Rows
section
variable {prog : Program} {w : World} {A : Around} {E : Value → Shared → Prop} {s : Shared}
end
section
variable {prog : Program} {w : World} {A : Around} {E : Value → Shared → Prop} {s : Shared} {R : Result → Shared → Prop}
end
end L2
set_option Elab.async false
set_option linter.all false
set_option maxRecDepth 100000
set_option maxHeartbeats 4000000
namespace L2
open PySem PySem.Spec PyProof.Rows
section
variable {prog : Program} {w : World} {A : Around} {E : Value → Shared → Prop} {s : Shared}
end
end L2
set_option Elab.async false
set_option linter.all false
set_option maxRecDepth 100000
set_option maxHeartbeats 4000000
namespace L2
open PySem PySem.Spec PyProof.Rows
section
variable {prog : Program} {w : World} {A : Around} {E : Value → Shared → Prop} {s : Shared}
end
def ov (H N : Hp) : Hp := fun a => (N a).or (H a)
end L2
set_option Elab.async false
set_option linter.all false
set_option maxRecDepth 100000
set_option maxHeartbeats 4000000
namespace L2
open PySem PySem.Spec PyProof.Rows
end L2
set_option Elab.async false
set_option linter.all false
set_option maxRecDepth 100000
set_option maxHeartbeats 4000000
namespace L2
open PySem PySem.Spec PyProof.Rows
def Its (x : Str) : It := ⟨fun i _ => i < x.cps.size, fun i H v H' => H' = H ∧ ∃ c, x.cps[i]? = some c ∧ v = .str ⟨#[c]⟩, fun i _ => x.cps.size ≤ i⟩
def TyS (ty : String) : Prop := ty = "str_ascii_iterator" ∨ ty = "str_iterator"
theorem turn_str {P : Program} {w : World} {K : PySem.W.Frag} {tg : Expr} (x : Str) (t : Tok) (it : Addr) : Turn P w K tg (Its x) [it] it (fun i h => ∃ ty, TyS ty ∧ h.IsStrIter it ty x t i) where
  mem := by simp
  obj := fun i h st b hb => by
    have e : b = it := by simpa using hb
    subst e
    obtain ⟨_, _, o, e, c, d⟩ := st
    exact ⟨o, e, fun v z => by rw [d] at z; cases z⟩
  keep := fun i h h' st k => by
    obtain ⟨ty, ht, o, e, r⟩ := st
    exact ⟨ty, ht, o, k it (by simp) o e, r⟩
  item := by
    intro X hP hw hK hc i pins s σ H E I hf st hg
    subst hP hw hK
    obtain ⟨ty, ht, st⟩ := st
    have hi : i < x.cps.size := hg
    have hx : x.cps[i]? = some x.cps[i] := by simp [hi]
    obtain ⟨f0, f1, f2, f3, f4, f5⟩ := hf it (by simp)
    have fin : ∀ h', h'.IsStrIter it ty x t (i + 1) → Heap.SameBut it s.heap h' → ∃ u, some (Value.str ⟨#[x.cps[i]]⟩ s.toks) = some u ∧
      wpAny (model X.prog X.w) X.A (letOwnedTupleGo tg (.ref it) u) (fun _ s2 => ∃ y H', Inv X pins σ H' s2 ∧ RelV y u ∧ (Its x).yld i H y H' ∧ (∃ ty, TyS ty ∧ s2.heap.IsStrIter it ty x t (i + 1)) ∧ ∀ b ∈ [it], H' b = none) E { s with heap := h', toks := s.toks + 1 } := by
      intro h' st' sb
      have I1 : Inv X pins σ H { s with heap := h', toks := s.toks + 1 } := I.turned (t' := s.toks + 1) (fun b o hb e => (sb.2 b hb).trans e) f0 f1 f3 f4 f5
      obtain ⟨o, e, c, d⟩ := id st'
      refine ⟨_, rfl, go_of (s := { s with heap := h', toks := s.toks + 1 }) e c d (by rcases ht with z | z <;> subst z <;> decide) ⟨.str ⟨#[x.cps[i]]⟩, H, I1, ⟨_, rfl⟩, ⟨rfl, _, hx, rfl⟩, ⟨ty, ht, st'⟩, fun b hb => (hf b hb).1⟩⟩
    rcases id ht with z | z
    · subst z
      exact wpAny_pyNext_ascii_item st hx fin
    · subst z
      exact wpAny_pyNext_wide_item st hx fin
  done := by
    intro X hP hw hK hc i pins s σ H E I hf st hg
    subst hP hw hK
    obtain ⟨ty, ht, st⟩ := st
    have hx : x.cps[i]? = none := Array.getElem?_eq_none (show x.cps.size ≤ i from hg)
    obtain ⟨f0, f1, f2, f3, f4, f5⟩ := hf it (by simp)
    rcases id ht with z | z
    · subst z
      exact wpAny_pyNext_ascii_end (I.ok.hd hc) st hx fun h' eb => ⟨rfl, I.turned (t' := s.toks) (fun b o hb e => eb b o hb e) f0 f1 f3 f4 f5⟩
    · subst z
      exact wpAny_pyNext_wide_end (I.ok.hd hc) st hx fun h' eb => ⟨rfl, I.turned (t' := s.toks) (fun b o hb e => eb b o hb e) f0 f1 f3 f4 f5⟩
  self := fun _ _ _ _ _ st h => by
    obtain ⟨ty, ht, st⟩ := st
    rcases id ht with z | z
    · subst z
      exact wpAny_pyIter_striter_ascii st h
    · subst z
      exact wpAny_pyIter_striter_wide st h
def iStr (tl : TE) : TI := fun σ H R => tl σ H fun v H1 => ∃ x, v = .str x ∧ R (Its x) H1
theorem pi_str {X : Cx} {tg l : Expr} {tl : TE} (hl : PE X l tl) : PI X tg l (iStr tl) := by
  intro pins s σ H R I h
  refine thn (hl pins s σ H _ I h) fun v s1 ⟨y, H1, I1, r1, q1⟩ => ?_
  obtain ⟨x, e, q⟩ := q1
  subst e
  obtain ⟨t, rfl⟩ := r1
  have fp : ∀ b ∈ [s1.heap.objs.size], FpOk X pins H1 b := fun b hb => by
    have e : b = s1.heap.objs.size := by simpa using hb
    subst e
    exact I1.fpOk (Nat.le_refl _) (I1.hok.fresh (Nat.le_refl _))
  cases ha : x.cps.all (· < 128)
  · refine wpAny_pyIter_wide ha ?_
    exact ⟨s1.heap.objs.size, [s1.heap.objs.size], _, _, H1, rfl, I1.kept (t' := s1.toks) fun b o e => Heap.get?_push_of_some _ e, turn_str x t _, ⟨_, .inr rfl, _, Heap.get?_push_size _ rfl, rfl, rfl⟩, fp, q⟩
  · refine wpAny_pyIter_ascii ha ?_
    exact ⟨s1.heap.objs.size, [s1.heap.objs.size], _, _, H1, rfl, I1.kept (t' := s1.toks) fun b o e => Heap.get?_push_of_some _ e, turn_str x t _, ⟨_, .inl rfl, _, Heap.get?_push_size _ rfl, rfl, rfl⟩, fp, q⟩
theorem comp_strR {x : Str} {acc : Addr} {g : TG} {tt : TT} {te : TE} {σ : L2.St} {H : Hp} {R : Hp → Prop} (Pv : Nat → Hp → Prop) (h0 : Pv 0 (upd H acc (.lst [])))
    (hs : ∀ i c H, x.cps[i]? = some c → Pv i H → g (.str ⟨#[c]⟩) σ H fun σ2 H4 => Ext σ σ2 ∧ tt σ2 H4 fun b H5 =>
      if b = true then te σ2 H5 fun y H6 => ∃ zs, H6 acc = some (.lst zs) ∧ zs.length < sizeLine ∧ Pv (i + 1) (upd H6 acc (.lst (zs ++ [y]))) else Pv (i + 1) H5) (hd : ∀ H, Pv x.cps.size H → R H) :
    ∃ W : Nat → Nat → Hp → Prop, (∃ m, W 0 m (upd H acc (.lst []))) ∧ ∀ i m H2, W i m H2 →
      ((Its x).stop i H2 ∧ R H2) ∨ ((Its x).go i H2 ∧ ∃ N : Hp → Prop, (∀ H', N H' → ∃ m', m' < m ∧ W (i + 1) m' H') ∧ ∀ x' H3, (Its x).yld i H2 x' H3 → g x' σ H3 fun σ2 H4 => Ext σ σ2 ∧ tt σ2 H4 fun b H5 =>
        if b = true then te σ2 H5 fun y H6 => ∃ zs, H6 acc = some (.lst zs) ∧ zs.length < sizeLine ∧ N (upd H6 acc (.lst (zs ++ [y])))
        else N H5) := by
  refine ⟨fun i m H => m = x.cps.size - i ∧ i ≤ x.cps.size ∧ Pv i H, ⟨x.cps.size, by simp, Nat.zero_le _, h0⟩, ?_⟩
  rintro i m H2 ⟨rfl, hi, p⟩
  by_cases hlt : i < x.cps.size
  · refine .inr ⟨hlt, Pv (i + 1), fun H' p' => ⟨x.cps.size - (i + 1), by omega, rfl, hlt, p'⟩, fun v H' y => ?_⟩
    obtain ⟨e, c, hc, ex⟩ := y
    subst e ex
    exact hs i c _ hc p
  · have e : i = x.cps.size := by omega
    subst e
    exact .inl ⟨Nat.le_refl _, hd H2 p⟩
end L2
set_option Elab.async false
set_option linter.all false
set_option maxRecDepth 100000
set_option maxHeartbeats 4000000
namespace L2
open PySem PySem.Calls PySem.Spec PyProof.Rows PySem.W
section
variable {X : Cx} {o i e f value : Expr} {pos pos' tpos apos cpos : Pos} {td ty tv tx : TE}
end
end L2
set_option Elab.async false
set_option linter.all false
set_option maxRecDepth 100000
set_option maxHeartbeats 4000000
namespace L2
open PySem PySem.Spec PyProof.Rows
end L2
namespace PyProof.Rows
open PySem PySem.Calls
end PyProof.Rows
namespace L2
open PySem PySem.Calls PySem.Spec PyProof.Rows PySem.W
section
variable {X : Cx}
end
end L2
set_option Elab.async false
set_option linter.all false
set_option maxRecDepth 100000
set_option maxHeartbeats 4000000
namespace L2
open PySem PySem.Calls PySem.Spec PyProof.Rows PySem.W
section
variable {prog : Program} {w : World} {A : Around} {E : Value → Shared → Prop} {s : Shared}
end
end L2
set_option Elab.async false
set_option linter.all false
set_option maxRecDepth 100000
set_option maxHeartbeats 4000000
namespace L2
open PySem PySem.Calls PySem.Spec PyProof.Rows PySem.W
def rStarts3 : V → List V → Hp → VK → Prop := fun x vs H Q => ∃ (z y : Str) (i : Int), x = .str z ∧ vs = [.str y, .int i] ∧ Q (.bl (Txt.startswith3 z y i)) H
theorem mt_starts3 {X : Cx} : MtM X "str.startswith" rStarts3 := by
  intro pins s σ H x xs v us Q I rx rs h
  obtain ⟨z, y, i, rfl, rfl, q⟩ := h
  obtain ⟨t, rfl⟩ := rx
  obtain ⟨u, w', rfl, ru, rw'⟩ := vals2 rs
  obtain ⟨t1, rfl⟩ := ru
  obtain ⟨t2, rfl⟩ := rw'
  exact SC.startswith3 ⟨.bl _, H, I, rfl, q⟩
def rIntS : List V → Hp → VK → Prop := fun xs H Q => ∃ (x : Str) (n : Int), xs = [.str x] ∧ x.length ≤ 640 ∧ PySem.intText? x = some n ∧ Q (.int n) H
theorem call_intS {X : Cx} : CallR X (.type "int") rIntS := by
  intro pins s σ H xs us Q I r h
  obtain ⟨x, n, rfl, hl, hn, q⟩ := h
  obtain ⟨u, rfl, ru⟩ := vals1 r
  obtain ⟨t, rfl⟩ := ru
  exact KIN.call_text hn hl ⟨.int n, H, I.tok _, ⟨_, rfl⟩, q⟩
def rStr1 : List V → Hp → VK → Prop := fun xs H Q => (∃ x : Str, xs = [.str x] ∧ Q (.str x) H) ∨ ∃ n : Int, xs = [.int n] ∧ n.natAbs.log2 < 1920 ∧ Q (.str (toString n)) H
theorem call_str1 {X : Cx} : CallR X (.type "str") rStr1 := by
  intro pins s σ H xs us Q I r h
  rcases h with ⟨x, rfl, q⟩ | ⟨n, rfl, hl, q⟩
  · obtain ⟨u, rfl, ru⟩ := vals1 r
    obtain ⟨t, rfl⟩ := ru
    exact P.str_of_str ⟨.str x, H, I, ⟨_, rfl⟩, q⟩
  · obtain ⟨u, rfl, ru⟩ := vals1 r
    obtain ⟨t, rfl⟩ := ru
    exact P.str_of_int hl ⟨.str (toString n), H, I.tok _, ⟨_, rfl⟩, q⟩
end L2
set_option Elab.async false
set_option linter.all false
set_option maxRecDepth 100000
set_option maxHeartbeats 4000000
namespace L2
open PySem
theorem starts_at {T p : Str} {i : Nat} (hi : i ≤ T.length) : Txt.startswith3 T p (i : Int) = p.cps.toList.isPrefixOf (T.cps.toList.drop i) := by
  unfold Txt.startswith3
  have e : PySem.fromIndex T.length (i : Int) = i := by
    unfold PySem.fromIndex
    rw [if_neg (by omega)]
    omega
  rw [e, StrLaws.subAt_eq]
  have hT : T.cps.toList.length = T.length := Array.length_toList
  have hp : p.cps.toList.length = p.length := Array.length_toList
  rw [Bool.eq_iff_iff, Bool.and_eq_true, List.isPrefixOf_iff_prefix, beq_iff_eq, decide_eq_true_eq]
  constructor
  · rintro ⟨_, h⟩
    rw [← h]
    exact List.take_prefix _ _
  · intro h
    have hl := h.length_le
    rw [List.length_drop] at hl
    refine ⟨by omega, ?_⟩
    obtain ⟨r, hr⟩ := h
    rw [← hr, ← hp]
    exact List.take_left' rfl
theorem small1000' {n : Nat} (h : n ≤ 4000) : n < sizeLine := by rw [sizeLine_eq]; omega
theorem slice_run {T : Str} {i : Nat} {run post : List Nat} (hd : T.cps.toList.drop i = run ++ post) (hi : i ≤ T.length) : Txt.slice T (some (i : Int)) (some ((i + run.length : Nat) : Int)) = ⟨run.toArray⟩ := by
  have hT : T.cps.toList.length = T.length := Array.length_toList
  have hl := congrArg List.length hd
  rw [List.length_drop, List.length_append] at hl
  have h := PyProof.Rows.slice_closes (x := T) (i := (i : Int)) (j := ((i + run.length : Nat) : Int)) ⟨by omega, by omega, by omega⟩
  rw [eq_of_beq h, Int.toNat_natCast, hd, show (((i + run.length : Nat) : Int) - (i : Int)).toNat = run.length by omega, List.take_left' rfl]
def rflds (T : Str) (i : Nat) : List (Str × V) := [("text", .str T), ("at", .int (i : Int))]
structure RdAt (C : Addr) (H : Hp) (r : Addr) (T : Str) (i : Nat) : Prop where
  ob : ∃ dx, H r = some (.ins C dx (rflds T i))
  le : i ≤ T.length
  few : T.length ≤ 4000
def But (r : Addr) (H H' : Hp) : Prop := ∀ b o, b ≠ r → H b = some o → H' b = some o
theorem But.refl (r : Addr) (H : Hp) : But r H H := fun _ _ _ e => e
theorem But.trans {r : Addr} {H H' H'' : Hp} (g : But r H H') (h : But r H' H'') : But r H H'' := fun b o n e => h b o n (g b o n e)
theorem But.set {r : Addr} {H : Hp} {o : HO} : But r H (upd H r o) := fun b x n e => by rw [upd_ne n]; exact e
structure TxtR (K : PySem.W.Frag) (mg : Str → Option Value) (C : Addr) : Prop where
  cl : Cls K C
  nT : NoAttr K C "text"
  nA : NoAttr K C "at"
  mgC : mg "Reader" = some (.ref C)
theorem rf_text (T : Str) (i : Nat) : (rflds T i).lookup (Str.ofString "text") = some (V.str T) := rfl
theorem rf_at (T : Str) (i : Nat) : (rflds T i).lookup (Str.ofString "at") = some (V.int (i : Int)) := by
  unfold rflds
  rw [List.lookup_cons, show ((Str.ofString "at") == (Str.ofString "text")) = false by decide +kernel]
  rfl
theorem rf_put (T : Str) (i : Nat) (v : V) : putF (Str.ofString "at") v (rflds T i) = [(Str.ofString "text", V.str T), (Str.ofString "at", v)] := by
  unfold rflds
  rw [putF, if_neg (by decide +kernel), putF, if_pos rfl]
end L2
namespace K06
open PySem PySem.Spec L2 PyProof.Rows
def top (i : Nat) : Stmt := PySem.Challenge.pw_recastle_k06_texts_read_again.main.body.getD i (.Pass ⟨0, 0, 0, 0⟩)
abbrev s_Reader___init__ : Stmt := inClass (top 20) 0
theorem sc_Reader___init__ : FnScope ["self", "text"] ["self", "text"] (defScope s_Reader___init__) := ⟨rfl, rfl, rfl, by decide +kernel, rfl, by decide +kernel, by decide +kernel⟩
abbrev s_Reader_stands : Stmt := inClass (top 20) 1
theorem sc_Reader_stands : FnScope ["self", "piece"] ["self", "piece"] (defScope s_Reader_stands) := ⟨rfl, rfl, rfl, by decide +kernel, rfl, by decide +kernel, by decide +kernel⟩
abbrev s_Reader_skipped : Stmt := inClass (top 20) 2
theorem sc_Reader_skipped : FnScope ["self", "piece"] ["self", "piece"] (defScope s_Reader_skipped) := ⟨rfl, rfl, rfl, by decide +kernel, rfl, by decide +kernel, by decide +kernel⟩
abbrev s_Reader_skip : Stmt := inClass (top 20) 3
theorem sc_Reader_skip : FnScope ["self", "piece"] ["self", "piece"] (defScope s_Reader_skip) := ⟨rfl, rfl, rfl, by decide +kernel, rfl, by decide +kernel, by decide +kernel⟩
abbrev s_Reader_run_of : Stmt := inClass (top 20) 4
theorem sc_Reader_run_of : FnScope ["self", "signs", "begin"] ["self", "signs"] (defScope s_Reader_run_of) := ⟨rfl, rfl, rfl, by decide +kernel, rfl, by decide +kernel, by decide +kernel⟩
abbrev s_Reader_skip_end : Stmt := inClass (top 20) 5
theorem sc_Reader_skip_end : FnScope ["self"] ["self"] (defScope s_Reader_skip_end) := ⟨rfl, rfl, rfl, by decide +kernel, rfl, by decide +kernel, by decide +kernel⟩
section
variable {P : Program} {w : World} {K : PySem.W.Frag} {mg : Str → Option Value} {base : Heap}
def sp_stands (C : Addr) : Sp := fun vs H Q _ => ∃ (r : Addr) (T p : Str) (i : Nat), vs = [.ref r, .str p] ∧ RdAt C H r T i ∧ Q (.bl (p.cps.toList.isPrefixOf (T.cps.toList.drop i))) H
theorem ok_stands {k : Nat} {f C : Addr} {fd : FuncData} (F : Fun K "stands" "Reader.stands" s_Reader_stands f fd) (T_Reader : TxtR K mg C) : FnOk P w K mg base CX0 (k + 1) f fd ["self", "piece"] (sp_stands C) := by
  refine F.ok sc_Reader_stands (fun vs H Q E h => ?_) (fun cdv A outer s H vs Q E hr h => ?_)
  · obtain ⟨r, T, p, i, rfl, _⟩ := h
    rfl
  obtain ⟨r, T, p, i, rfl, ⟨⟨dx, hr0⟩, hi, _⟩, q⟩ := h
  refine ⟨_, (pss_one (ps_ret (pe_bm PySem.F.plainAttrs_str PySem.F.slot_str_startswith PySem.F.type_str_startswith mt_starts3 (pe_fld (pv 0) rfl) (pa_cons (pv 1) (pa_cons (pe_fld (pv 0) rfl) pa_nil))))), ?_⟩
  refine ⟨_, rfl, r, C, dx, _, .str T, rfl, hr0, T_Reader.cl, T_Reader.nT, rf_text T i, rfl, _, rfl, _, rfl, r, C, dx, _, .int (i : Int), rfl, hr0, T_Reader.cl, T_Reader.nA, rf_at T i, T, p, (i : Int), rfl, rfl, ?_⟩
  rw [starts_at hi]
  exact q
def sp_skipped (C : Addr) : Sp := fun vs H Q _ => ∃ (r : Addr) (T p : Str) (i : Nat), vs = [.ref r, .str p] ∧ RdAt C H r T i ∧
  (p.cps.toList.isPrefixOf (T.cps.toList.drop i) = false → Q (.bl false) H) ∧ (p.cps.toList.isPrefixOf (T.cps.toList.drop i) = true → ∀ H', But r H H' → RdAt C H' r T (i + p.length) → Q (.bl true) H')
theorem ok_skipped {k : Nat} {f C g1 : Addr} {fd gd1 : FuncData} (F : Fun K "skipped" "Reader.skipped" s_Reader_skipped f fd) (T_Reader : TxtR K mg C) (z_len : mg "len" = none) (G_Reader_stands : FnM P w K mg base k C "stands" g1 gd1 ["self", "piece"] (sp_stands C)) :
    FnOk P w K mg base CX0 (k + 1) f fd ["self", "piece"] (sp_skipped C) := by
  refine F.ok sc_Reader_skipped (fun vs H Q E h => ?_) (fun cdv A outer s H vs Q E hr h => ?_)
  · obtain ⟨r, T, p, i, rfl, _⟩ := h
    rfl
  obtain ⟨r, T, p, i, rfl, rd, q0, q1⟩ := h
  obtain ⟨⟨dx, hr0⟩, hi, hf⟩ := id rd
  refine ⟨_, (pss_cons (ps_if (pt_not (pt_val (pe_meth (pv 0) T_Reader.cl G_Reader_stands.mt G_Reader_stands.ok hr G_Reader_stands.bd .nil pass0 (pa_cons (pv 1) pa_nil)))) (pss_one (ps_ret pe_bl)) pss_nil)
    (pss_cons (ps_fldaug (pv 0) (pe_callB call_len_str (by rfl) z_len PySem.boot_len (pa_cons (pv 1) pa_nil)) in_add)
    (pss_one (ps_ret pe_bl)))), ?_⟩
  refine ⟨_, rfl, r, dx, _, rfl, hr0, rfl, _, rfl, r, T, p, i, rfl, rd, ?_⟩
  refine ⟨_, rfl, ?_⟩
  cases hb : p.cps.toList.isPrefixOf (T.cps.toList.drop i) with
  | false => exact iteT (q0 hb)
  | true =>
    have hle : i + p.length ≤ T.length := by
      have h := (List.isPrefixOf_iff_prefix.mp hb).length_le
      have hT : T.cps.toList.length = T.length := Array.length_toList
      have hp : p.cps.toList.length = p.length := Array.length_toList
      rw [List.length_drop] at h
      omega
    refine iteF ?_
    refine ⟨_, rfl, r, C, dx, _, .int (i : Int), rfl, hr0, T_Reader.cl, T_Reader.nA, rf_at T i, _, rfl, p, rfl, Nat.le_of_lt (small1000' (by omega)), _, _, rfl, rfl, dx, _, hr0, (by show 2 < 1000; decide), ?_⟩
    refine q1 hb _ But.set ⟨⟨dx, ?_⟩, hle, hf⟩
    rw [upd_same, rf_put]
    rfl
def sp_skip (C : Addr) : Sp := fun vs H Q _ => ∃ (r : Addr) (T p : Str) (i : Nat), vs = [.ref r, .str p] ∧ RdAt C H r T i ∧ p.cps.toList.isPrefixOf (T.cps.toList.drop i) = true ∧ ∀ H', But r H H' → RdAt C H' r T (i + p.length) → Q .non H'
theorem ok_skip {k : Nat} {f C g1 : Addr} {fd gd1 : FuncData} (F : Fun K "skip" "Reader.skip" s_Reader_skip f fd) (T_Reader : TxtR K mg C) (G_Reader_skipped : FnM P w K mg base k C "skipped" g1 gd1 ["self", "piece"] (sp_skipped C)) :
    FnOk P w K mg base CX0 (k + 1) f fd ["self", "piece"] (sp_skip C) := by
  refine F.ok sc_Reader_skip (fun vs H Q E h => ?_) (fun cdv A outer s H vs Q E hr h => ?_)
  · obtain ⟨r, T, p, i, rfl, _⟩ := h
    rfl
  obtain ⟨r, T, p, i, rfl, rd, hb, q⟩ := h
  obtain ⟨⟨dx, hr0⟩, hi, hf⟩ := id rd
  refine ⟨_, (pss_one (ps_if (pt_not (pt_val (pe_meth (pv 0) T_Reader.cl G_Reader_skipped.mt G_Reader_skipped.ok hr G_Reader_skipped.bd .nil pass0 (pa_cons (pv 1) pa_nil)))) (pss_one ps_never) pss_nil)), ?_⟩
  refine ⟨_, rfl, r, dx, _, rfl, hr0, rfl, _, rfl, r, T, p, i, rfl, rd, (fun z => by rw [hb] at z; cases z), fun _ H' g rd' => ⟨_, rfl, iteF (q H' g rd')⟩⟩
def sp_skip_end (C : Addr) : Sp := fun vs H Q _ => ∃ (r : Addr) (T : Str), vs = [.ref r] ∧ RdAt C H r T T.length ∧ Q .non H
theorem ok_skip_end {k : Nat} {f C : Addr} {fd : FuncData} (F : Fun K "skip_end" "Reader.skip_end" s_Reader_skip_end f fd) (T_Reader : TxtR K mg C) (z_len : mg "len" = none) : FnOk P w K mg base CX0 (k + 1) f fd ["self"] (sp_skip_end C) := by
  refine F.ok sc_Reader_skip_end (fun vs H Q E h => ?_) (fun cdv A outer s H vs Q E hr h => ?_)
  · obtain ⟨r, T, rfl, _⟩ := h
    rfl
  obtain ⟨r, T, rfl, ⟨⟨dx, hr0⟩, hi, hf⟩, q⟩ := h
  refine ⟨_, (pss_one (ps_if (pt_cmpR op_lt (pe_fld (pv 0) rfl) (pe_callB call_len_str (by rfl) z_len PySem.boot_len (pa_cons (pe_fld (pv 0) rfl) pa_nil)) (nomark _)) (pss_one ps_never) pss_nil)), ?_⟩
  refine ⟨_, rfl, r, C, dx, _, .int (T.length : Int), rfl, hr0, T_Reader.cl, T_Reader.nA, rf_at T _, _, rfl, r, C, dx, _, .str T, rfl, hr0, T_Reader.cl, T_Reader.nT, rf_text T _, T, rfl, Nat.le_of_lt (small1000' (by omega)), _, _, rfl, rfl, _, rfl, ite2 (fun c => ?_) (fun _ => q)⟩
  exact absurd (of_decide_eq_true c) (by omega)
def sp_init (C : Addr) : Sp := fun vs H Q _ => ∃ (r dx : Addr) (T : Str), vs = [.ref r, .str T] ∧ H r = some (.ins C dx []) ∧ T.length ≤ 4000 ∧ ∀ H', But r H H' → RdAt C H' r T 0 → Q .non H'
theorem ok_init {k : Nat} {f C : Addr} {fd : FuncData} (F : Fun K "__init__" "Reader.__init__" s_Reader___init__ f fd) (T_Reader : TxtR K mg C) : FnOk P w K mg base CX0 (k + 1) f fd ["self", "text"] (sp_init C) := by
  refine F.ok sc_Reader___init__ (fun vs H Q E h => ?_) (fun cdv A outer s H vs Q E hr h => ?_)
  · obtain ⟨r, dx, T, rfl, _⟩ := h
    rfl
  obtain ⟨r, dx, T, rfl, hr0, hT, q⟩ := h
  refine ⟨_, (pss_cons (ps_fld (pv 0) (pv 1) rfl)
    (pss_one (ps_fld (pv 0) pe_int rfl))), ?_⟩
  refine ⟨_, rfl, _, rfl, r, C, dx, [], rfl, hr0, T_Reader.cl, T_Reader.nT, (by show 0 < 1000; decide), ?_⟩
  refine ⟨_, rfl, r, C, dx, _, rfl, upd_same, T_Reader.cl, T_Reader.nA, (by show 1 < 1000; decide), ?_⟩
  refine q _ (But.set.trans But.set) ⟨⟨dx, ?_⟩, Nat.zero_le _, hT⟩
  rw [upd_same, putF, putF, if_neg (by decide +kernel), putF]
  rfl
def sp_run (C : Addr) : Sp := fun vs H Q _ => ∃ (r : Addr) (T S : Str) (i : Nat) (run post : List Nat), vs = [.ref r, .str S] ∧ RdAt C H r T i ∧ T.cps.toList.drop i = run ++ post ∧ (∀ c ∈ run, c ∈ S.cps.toList) ∧ (∀ c ∈ post.head?, c ∉ S.cps.toList) ∧
  ∀ H', But r H H' → RdAt C H' r T (i + run.length) → Q (.str ⟨run.toArray⟩) H'
theorem ok_run_of {k : Nat} {f C : Addr} {fd : FuncData} (F : Fun K "run_of" "Reader.run_of" s_Reader_run_of f fd) (T_Reader : TxtR K mg C) (z_len : mg "len" = none) : FnOk P w K mg base CX0 (k + 1) f fd ["self", "signs"] (sp_run C) := by
  refine F.ok sc_Reader_run_of (fun vs H Q E h => ?_) (fun cdv A outer s H vs Q E hr h => ?_)
  · obtain ⟨r, T, S, i, run, post, rfl, _⟩ := h
    rfl
  obtain ⟨r, T, S, i, run, post, rfl, rd, hd, hin, hout, q⟩ := h
  obtain ⟨⟨dx, hr0⟩, hi, hf⟩ := id rd
  have hT : T.cps.toList.length = T.length := Array.length_toList
  have hlen : T.length = i + run.length + post.length := by
    have := congrArg List.length hd
    rw [List.length_drop, List.length_append] at this
    omega
  have hat : ∀ j, j < run.length + post.length → T.cps.toList[i + j]? = (run ++ post)[j]? := fun j _ => by rw [← hd, List.getElem?_drop]
  refine ⟨_, (pss_cons (ps_set (i := 2) sc_Reader_run_of.nd rfl (Or.inl rfl) (pe_fld (pv 0) rfl))
    (pss_cons (ps_while PassesOwn.never (pw_and (pt_cmpR op_lt (pe_fld (pv 0) rfl) (pe_callB call_len_str (by rfl) z_len PySem.boot_len (pa_cons (pe_fld (pv 0) rfl) pa_nil)) (nomark _)) (pw_and1 (pt_cmpR op_in_str (pe_ix ix_str (pe_fld (pv 0) rfl) (pe_fld (pv 0) rfl) (fun _ _ => rfl)) (pv 1) rfl))).pt (pss_one (ps_fldaug (pv 0) pe_int in_add)))
    (pss_one (ps_ret (pe_slice sl_str (pe_fld (pv 0) rfl) (po_some (pv 2)) (po_some (pe_fld (pv 0) rfl))))))), ?_⟩
  refine ⟨_, rfl, r, C, dx, _, .int (i : Int), rfl, hr0, T_Reader.cl, T_Reader.nA, rf_at T i, ?_⟩
  refine ⟨fun m σ' H' => ∃ j : Nat, σ' = [some (.ref r), some (.str S), some (.int (i : Int))] ∧ But r H H' ∧ RdAt C H' r T (i + j) ∧ j ≤ run.length ∧ m = run.length - j, ⟨run.length, 0, rfl, But.refl r H, rd, Nat.zero_le _, rfl⟩, ?_⟩
  rintro m σ' H1 ⟨j, rfl, g1, rd1, hj, rfl⟩
  obtain ⟨⟨dx1, hr1⟩, hi1, _⟩ := id rd1
  refine ⟨_, rfl, r, C, dx1, _, .int ((i + j : Nat) : Int), rfl, hr1, T_Reader.cl, T_Reader.nA, rf_at T _, _, rfl, r, C, dx1, _, .str T, rfl, hr1, T_Reader.cl, T_Reader.nT, rf_text T _, T, rfl, Nat.le_of_lt (small1000' (by omega)), _, _, rfl, rfl, _, rfl, ?_⟩
  refine ite2 (fun c => ?_) (fun c => ?_)
  · have c' : ((i + j : Nat) : Int) < (T.length : Int) := of_decide_eq_true c
    have hjl : j < run.length + post.length := by omega
    obtain ⟨ch, hch⟩ : ∃ ch, (run ++ post)[j]? = some ch := ⟨_, List.getElem?_eq_getElem (by rw [List.length_append]; exact hjl)⟩
    have hTc : atI T.cps.toList ((i + j : Nat) : Int) = some ch := atI_nat (by rw [hat j hjl, hch])
    refine ⟨_, rfl, r, C, dx1, _, .str T, rfl, hr1, T_Reader.cl, T_Reader.nT, rf_text T _, _, rfl, r, C, dx1, _, .int ((i + j : Nat) : Int), rfl, hr1, T_Reader.cl, T_Reader.nA, rf_at T _, T, _, ch, rfl, rfl, Nat.le_of_lt (small1000' (by omega)), hTc, _, rfl, _, _, rfl, rfl, _, rfl, ?_⟩
    rw [StrLaws.found_one]
    refine ite2 (fun c2 => ?_) (fun c2 => ?_)
    · have hjr : j < run.length := by
        rcases Nat.lt_or_ge j run.length with h | h
        · exact h
        · have e : j = run.length := by omega
          subst e
          rw [List.getElem?_append_right (Nat.le_refl _), Nat.sub_self, ← List.head?_eq_getElem?] at hch
          exact absurd (of_decide_eq_true c2) (hout ch hch)
      refine ⟨_, fun _ _ h => h, ?_⟩
      refine ⟨_, rfl, r, C, dx1, _, .int ((i + j : Nat) : Int), rfl, hr1, T_Reader.cl, T_Reader.nA, rf_at T _, _, _, rfl, rfl, dx1, _, hr1, (by show 2 < 1000; decide), ?_⟩
      refine ⟨run.length - (j + 1), by omega, j + 1, rfl, g1.trans But.set, ⟨⟨dx1, ?_⟩, by omega, hf⟩, hjr, rfl⟩
      rw [upd_same, rf_put]
      rfl
    · have hjr : j = run.length := by
        rcases Nat.lt_or_ge j run.length with h | h
        · rw [List.getElem?_append_left h] at hch
          exact absurd (decide_eq_true (hin ch (List.mem_of_getElem? hch))) c2
        · omega
      subst hjr
      refine ⟨_, rfl, r, C, dx1, _, .str T, rfl, hr1, T_Reader.cl, T_Reader.nT, rf_text T _, _, rfl, _, rfl, _, rfl, r, C, dx1, _, .int ((i + run.length : Nat) : Int), rfl, hr1, T_Reader.cl, T_Reader.nA, rf_at T _, _, rfl, T, rfl, Nat.le_of_lt (small1000' (by omega)), fun _ => ?_⟩
      rw [slice_run hd hi]
      exact q H1 g1 rd1
  · have c' : ¬ ((i + j : Nat) : Int) < (T.length : Int) := fun z => c (decide_eq_true z)
    have hjr : j = run.length := by omega
    subst hjr
    refine iteF ?_
    refine ⟨_, rfl, r, C, dx1, _, .str T, rfl, hr1, T_Reader.cl, T_Reader.nT, rf_text T _, _, rfl, _, rfl, _, rfl, r, C, dx1, _, .int ((i + run.length : Nat) : Int), rfl, hr1, T_Reader.cl, T_Reader.nA, rf_at T _, _, rfl, T, rfl, Nat.le_of_lt (small1000' (by omega)), fun _ => ?_⟩
    rw [slice_run hd hi]
    exact q H1 g1 rd1
end
end K06
set_option Elab.async false
set_option linter.all false
set_option maxRecDepth 100000
set_option maxHeartbeats 4000000
namespace L2
open PySem
def abcS : Str := Str.ofString "abcdefghijklmnopqrstuvwxyz"
def figS : Str := Str.ofString "0123456789"
def kept11 : List Str := ["let", "in", "if", "then", "else", "say", "ask", "stop", "where", "quiet", "number"]
def KeptT (K : PySem.W.Frag) (lv : Addr) : Prop := ∃ (o : Obj) (its : Array Value) (n : Nat), K.lookup lv = some o ∧ o.cls = .type "tuple" ∧ o.data = .seq its n ∧ its.size ≤ sizeLine ∧ Vals (kept11.map V.str) its.toList
structure WOk (x : Str) : Prop where
  lo : 1 ≤ x.length
  hi : x.length ≤ 8
  ab : ∀ c ∈ x.cps.toList, c ∈ abcS.cps.toList
  kp : x ∉ kept11
theorem in_kept {x : Str} (h : x ∉ kept11) : inV (.str x) (kept11.map V.str) = false := by
  cases e : inV (.str x) (kept11.map V.str) with
  | false => rfl
  | true =>
    unfold inV at e
    obtain ⟨v, hv, e2⟩ := List.any_eq_true.mp e
    obtain ⟨y, hy, rfl⟩ := List.mem_map.mp hv
    rw [eqV_str] at e2
    exact absurd (e2 ▸ hy) h
def WEnd (post : List Nat) : Prop := ∀ c ∈ post.head?, c ∉ abcS.cps.toList
structure NOk (x : Str) (n : Int) : Prop where
  lo : 1 ≤ x.length
  hi : x.length ≤ 30
  fg : ∀ c ∈ x.cps.toList, c ∈ figS.cps.toList
  zr : 1 < x.length → x.cps.toList.head? ≠ some 48
  rd : PySem.intText? x = some n
  sm : n.natAbs.log2 < 1920
def NEnd (post : List Nat) : Prop := ∀ c ∈ post.head?, c ∉ figS.cps.toList
end L2
namespace K06
open PySem PySem.Spec L2 PyProof.Rows
abbrev s_word_from : Stmt := top 23
theorem sc_word_from : FnScope ["reader", "word"] ["reader"] (defScope s_word_from) := ⟨rfl, rfl, rfl, by decide +kernel, rfl, by decide +kernel, by decide +kernel⟩
abbrev s_number_from : Stmt := top 24
theorem sc_number_from : FnScope ["reader", "figures"] ["reader"] (defScope s_number_from) := ⟨rfl, rfl, rfl, by decide +kernel, rfl, by decide +kernel, by decide +kernel⟩
section
variable {P : Program} {w : World} {K : PySem.W.Frag} {mg : Str → Option Value} {base : Heap}
def sp_word (C : Addr) : Sp := fun vs H Q _ => ∃ (r : Addr) (T x : Str) (i : Nat) (post : List Nat), vs = [.ref r] ∧ RdAt C H r T i ∧ T.cps.toList.drop i = x.cps.toList ++ post ∧ WOk x ∧ WEnd post ∧ ∀ H', But r H H' → RdAt C H' r T (i + x.length) → Q (.str x) H'
theorem ok_word_from {k : Nat} {f C g1 lv : Addr} {fd gd1 : FuncData} {tk tk2 : Tok} (F : Fun K "word_from" "word_from" s_word_from f fd) (T_Reader : TxtR K mg C) (z_len : mg "len" = none) (m_LETTERS : mg "LETTERS" = some (.str abcS tk)) (m_MOST_LETTERS : mg "MOST_LETTERS" = some (.int 8 tk2)) (m_KEPT_WORDS : mg "KEPT_WORDS" = some (.ref lv)) (hK : KeptT K lv)
    (G_Reader_run_of : FnM P w K mg base k C "run_of" g1 gd1 ["self", "signs"] (sp_run C)) : FnOk P w K mg base CX0 (k + 1) f fd ["reader"] (sp_word C) := by
  refine F.ok sc_word_from (fun vs H Q E h => ?_) (fun cdv A outer s H vs Q E hr h => ?_)
  · obtain ⟨r, T, x, i, post, rfl, _⟩ := h
    rfl
  obtain ⟨r, T, x, i, post, rfl, rd, hd, ok, we, q⟩ := h
  obtain ⟨⟨dx, hr0⟩, hi, hf⟩ := id rd
  refine ⟨_, (pss_cons (ps_set (i := 1) sc_word_from.nd rfl (Or.inl rfl) (pe_meth (pv 0) T_Reader.cl G_Reader_run_of.mt G_Reader_run_of.ok hr G_Reader_run_of.bd .nil pass0 (pa_cons (pe_glob (v := .str abcS) (by rfl) m_LETTERS ⟨_, rfl⟩) pa_nil)))
    (pss_cons (ps_if (pw_or (pt_not (pt_chain op_le op_le pe_int (pe_callB call_len_str (by rfl) z_len PySem.boot_len (pa_cons (pv 1) pa_nil)) (pe_glob (v := .int 8) (by rfl) m_MOST_LETTERS ⟨_, rfl⟩))) (pw_or1 (pt_cmpR (r := rIn K false) op_in_seq (pv 1) (pe_glob (v := .ref _) (by rfl) m_KEPT_WORDS (by rfl)) rfl))).pt (pss_one ps_never) pss_nil)
    (pss_one (ps_ret (pv 1))))), ?_⟩
  have lx : x.cps.toList.length = x.length := Array.length_toList
  have ex : (⟨x.cps.toList.toArray⟩ : Str) = x := by cases x; simp
  refine ⟨_, rfl, r, dx, _, rfl, hr0, rfl, r, T, abcS, i, x.cps.toList, post, rfl, rd, hd, ok.ab, we, fun H1 g1 rd1 => ?_⟩
  rw [ex]
  rw [lx] at rd1
  have h1 := ok.lo
  have h2 := ok.hi
  refine ⟨_, rfl, x, rfl, line1000 (by omega), _, _, rfl, rfl, _, rfl, ?_⟩
  rw [decide_eq_true (show (1 : Int) ≤ (x.length : Int) by omega)]
  refine iteT ⟨_, _, rfl, rfl, _, rfl, ?_⟩
  rw [decide_eq_true (show (x.length : Int) ≤ 8 by omega)]
  refine iteF ?_
  refine ⟨_, rfl, lv, kept11.map V.str, rfl, .inr (.inr hK), rfl, rfl, _, rfl, ?_⟩
  show if inV (.str x) (kept11.map V.str) = true then _ else _
  rw [show inV (.str x) (kept11.map V.str) = false from in_kept ok.kp]
  exact iteF ⟨_, rfl, q H1 g1 rd1⟩
def sp_number (C : Addr) : Sp := fun vs H Q _ => ∃ (r : Addr) (T x : Str) (n : Int) (i : Nat) (post : List Nat), vs = [.ref r] ∧ RdAt C H r T i ∧ T.cps.toList.drop i = x.cps.toList ++ post ∧ NOk x n ∧ NEnd post ∧ ∀ H', But r H H' → RdAt C H' r T (i + x.length) → Q (.int n) H'
theorem ok_number_from {k : Nat} {f C g1 : Addr} {fd gd1 : FuncData} {tk tk2 : Tok} (F : Fun K "number_from" "number_from" s_number_from f fd) (T_Reader : TxtR K mg C) (z_len : mg "len" = none) (z_int : mg "int" = none) (m_FIGURES : mg "FIGURES" = some (.str figS tk)) (m_MOST_FIGURES : mg "MOST_FIGURES" = some (.int 30 tk2))
    (G_Reader_run_of : FnM P w K mg base k C "run_of" g1 gd1 ["self", "signs"] (sp_run C)) : FnOk P w K mg base CX0 (k + 1) f fd ["reader"] (sp_number C) := by
  refine F.ok sc_number_from (fun vs H Q E h => ?_) (fun cdv A outer s H vs Q E hr h => ?_)
  · obtain ⟨r, T, x, n, i, post, rfl, _⟩ := h
    rfl
  obtain ⟨r, T, x, n, i, post, rfl, rd, hd, ok, we, q⟩ := h
  obtain ⟨⟨dx, hr0⟩, hi, hf⟩ := id rd
  refine ⟨_, (pss_cons (ps_set (i := 1) sc_number_from.nd rfl (Or.inl rfl) (pe_meth (pv 0) T_Reader.cl G_Reader_run_of.mt G_Reader_run_of.ok hr G_Reader_run_of.bd .nil pass0 (pa_cons (pe_glob (v := .str figS) (by rfl) m_FIGURES ⟨_, rfl⟩) pa_nil)))
    (pss_cons (ps_if (pt_cmpR op_gt (pe_callB call_len_str (by rfl) z_len PySem.boot_len (pa_cons (pv 1) pa_nil)) (pe_glob (v := .int 30) (by rfl) m_MOST_FIGURES ⟨_, rfl⟩) (nomark _)) (pss_one ps_never) pss_nil)
    (pss_cons (ps_if (pw_and (pt_cmpR op_gt (pe_callB call_len_str (by rfl) z_len PySem.boot_len (pa_cons (pv 1) pa_nil)) pe_int (nomark _)) (pw_and1 (pt_cmpR op_eq (pe_ix ix_str (pv 1) pe_int (fun _ _ => rfl)) pe_str (nomark _)))).pt (pss_one ps_never) pss_nil)
    (pss_one (ps_ret (pe_callTy call_intS (by rfl) z_int PyProof.Rows.boot_int (pa_cons (pv 1) pa_nil))))))), ?_⟩
  have lx : x.cps.toList.length = x.length := Array.length_toList
  have ex : (⟨x.cps.toList.toArray⟩ : Str) = x := by cases x; simp
  refine ⟨_, rfl, r, dx, _, rfl, hr0, rfl, r, T, figS, i, x.cps.toList, post, rfl, rd, hd, ok.fg, we, fun H1 g1 rd1 => ?_⟩
  rw [ex]
  rw [lx] at rd1
  have h1 := ok.lo
  have h2 := ok.hi
  refine ⟨_, rfl, x, rfl, line1000 (by omega), _, _, rfl, rfl, _, rfl, ite2 (fun c => ?_) (fun _ => ?_)⟩
  · exact absurd (of_decide_eq_true c) (by omega)
  obtain ⟨ch, hch⟩ : ∃ ch, x.cps.toList[0]? = some ch := ⟨_, List.getElem?_eq_getElem (by omega)⟩
  refine ⟨_, rfl, x, rfl, line1000 (by omega), _, _, rfl, rfl, _, rfl, ite2 (fun c => ?_) (fun c => ?_)⟩
  · have c' : 1 < x.length := by have := of_decide_eq_true c; omega
    refine ⟨_, rfl, x, 0, ch, rfl, rfl, line1000 (by omega), atI_nat (j := 0) hch, rfl, _, rfl, ite2 (fun c2 => ?_) (fun _ => ?_)⟩
    · have e : V.str ⟨#[ch]⟩ = V.str "0" := of_decide_eq_true c2
      injection e with e
      have e3 : ch = 48 := by
        have := congrArg (fun z : Str => z.cps.toList) e
        have z0 : (Str.ofString "0").cps.toList = [48] := by decide +kernel
        rw [z0] at this
        simpa using this
      exact absurd (by rw [List.head?_eq_getElem?, hch, e3]) (ok.zr c')
    · exact ⟨_, rfl, x, n, rfl, by omega, ok.rd, q H1 g1 rd1⟩
  · exact iteF ⟨_, rfl, x, n, rfl, by omega, ok.rd, q H1 g1 rd1⟩
end
end K06
set_option Elab.async false
set_option linter.all false
set_option maxRecDepth 100000
set_option maxHeartbeats 4000000
namespace L2
open PySem
inductive PLf where
  | num (x : Str) (n : Int) | word (x : Str)
def PLf.txt : PLf → Str
  | .num x _ => x
  | .word x => x
def PLf.ok : PLf → Prop
  | .num x n => NOk x n
  | .word x => WOk x
def PLf.items : PLf → List V
  | .num _ n => [.str "num", .int n]
  | .word x => [.str "name", .str x]
def LEnd (post : List Nat) : Prop := WEnd post ∧ NEnd post
theorem fig_not_abc : ∀ c ∈ abcS.cps.toList, c ∉ figS.cps.toList := by decide +kernel
theorem But.tk {C : Addr} {r : Addr} {H H' : Hp} {dx : Addr} {fs : List (Str × V)} (hr : H r = some (.ins C dx fs)) (g : But r H H') : Tk H H' := fun b ys e => g b _ (fun z => by rw [z, hr] at e; cases e) e
theorem one_pre (c : Nat) (l : List Nat) : [c].isPrefixOf l = decide (l.head? = some c) := by
  cases l with
  | nil => rfl
  | cons d l =>
    show (c == d && List.isPrefixOf [] l) = _
    rw [List.isPrefixOf_nil_left, Bool.and_true]
    by_cases h : c = d
    · subst h; simp
    · rw [beq_eq_false_iff_ne.mpr h]
      simp
      exact fun z => h z.symm
end L2
namespace K06
open PySem PySem.Spec L2 PyProof.Rows
abbrev s_plain_leaf_from : Stmt := top 25
theorem sc_plain_leaf_from : FnScope ["reader"] ["reader"] (defScope s_plain_leaf_from) := ⟨rfl, rfl, rfl, by decide +kernel, rfl, by decide +kernel, by decide +kernel⟩
section
variable {P : Program} {w : World} {K : PySem.W.Frag} {mg : Str → Option Value} {base : Heap}
def sp_pleaf (C : Addr) : Sp := fun vs H Q _ => ∃ (r : Addr) (T : Str) (l : PLf) (i : Nat) (post : List Nat), vs = [.ref r] ∧ RdAt C H r T i ∧ T.cps.toList.drop i = l.txt.cps.toList ++ post ∧ l.ok ∧ LEnd post ∧ ∀ (p : Addr) (H' : Hp), But r H H' → RdAt C H' r T (i + l.txt.length) → H' p = some (.tup l.items) → p ≠ r → Q (.ref p) H'
theorem ok_pleaf {k : Nat} {f C g1 g2 g3 : Addr} {fd gd1 gd2 gd3 : FuncData} {tk : Tok} (F : Fun K "plain_leaf_from" "plain_leaf_from" s_plain_leaf_from f fd) (T_Reader : TxtR K mg C) (z_any : mg "any" = none) (m_FIGURES : mg "FIGURES" = some (.str figS tk))
    (G_Reader_stands : FnM P w K mg base k C "stands" g1 gd1 ["self", "piece"] (sp_stands C)) (G_number_from : FnB P w K mg base k "number_from" g2 gd2 ["reader"] (sp_number C)) (G_word_from : FnB P w K mg base k "word_from" g3 gd3 ["reader"] (sp_word C)) :
    FnOk P w K mg base CX0 (k + 1) f fd ["reader"] (sp_pleaf C) := by
  refine F.ok sc_plain_leaf_from (fun vs H Q E h => ?_) (fun cdv A outer s H vs Q E hr h => ?_)
  · obtain ⟨r, T, l, i, post, rfl, _⟩ := h
    rfl
  obtain ⟨r, T, l, i, post, rfl, rd, hd, ok, we, q⟩ := h
  obtain ⟨⟨dx, hr0⟩, hi, hf⟩ := id rd
  refine ⟨_, (pss_cons (ps_if (pt_val (pe_callB (call_anyL rfl) (by rfl) z_any PyProof.Rows.boot_any (pa_cons (pe_compB ["figure", "reader"] [none, some 0] rfl (pi_str (pe_glob (v := .str figS) (by rfl) m_FIGURES ⟨_, rfl⟩)) (fun _ _ _ _ _ => (pg_name (i := 0) (show List.Nodup (["figure", "reader"] : List Str) by decide +kernel) rfl (Or.inl rfl))) (fun _ _ _ _ _ => pts_nil) (fun _ _ _ _ _ => (pe_meth (pv 1) T_Reader.cl G_Reader_stands.mt G_Reader_stands.ok hr G_Reader_stands.bd .nil pass0 (pa_cons (pv 0) pa_nil))) rfl) pa_nil))) (pss_one (ps_ret (pe_tup (pa_cons pe_str (pa_cons (pe_call G_number_from.ok hr (by rfl) G_number_from.gl G_number_from.kp G_number_from.bd .nil pass0 (pa_cons (pv 0) pa_nil)) pa_nil)) : PE _ _ _))) pss_nil)
    (pss_one (ps_ret (pe_tup (pa_cons pe_str (pa_cons (pe_call G_word_from.ok hr (by rfl) G_word_from.gl G_word_from.kp G_word_from.bd .nil pass0 (pa_cons (pv 0) pa_nil)) pa_nil)) : PE _ _ _)))), ?_⟩
  refine ⟨figS, rfl, fun acc hacc => ?_⟩
  have nar : r ≠ acc := ne_of_none hr0 hacc
  refine comp_strR (x := figS) (fun j H' => Same H H' ∧ H' acc = some (.lst (((figS.cps.toList.take j).map fun c => [c].isPrefixOf (T.cps.toList.drop i)).map V.bl))) ⟨same_upd hacc, upd_same⟩ ?_ ?_
  · rintro j c H1 hj ⟨g1, ea⟩
    obtain ⟨dx1, hr1⟩ : ∃ dx, H1 r = some (.ins C dx (rflds T i)) := ⟨dx, g1 _ _ hr0⟩
    have hc : figS.cps.toList[j]? = some c := by rw [Array.getElem?_toList]; exact hj
    have hj10 : j < 10 := by
      have h1 := (List.getElem?_eq_some_iff.mp hc).1
      have h2 : figS.cps.toList.length = 10 := by decide +kernel
      omega
    refine ⟨.skip (.keep .nil), ?_⟩
    refine ⟨_, rfl, r, dx1, _, rfl, hr1, rfl, _, rfl, r, T, ⟨#[c]⟩, i, rfl, ⟨⟨dx1, hr1⟩, hi, hf⟩, ?_⟩
    refine ⟨_, ea, small1000 (by rw [List.length_map, List.length_map, List.length_take]; omega), same_set g1 hacc, ?_⟩
    rw [upd_same, take_next hc, List.map_append, List.map_append]
    rfl
  · rintro H1 ⟨g1, ea⟩
    have e10 : figS.cps.toList.take figS.cps.size = figS.cps.toList := List.take_of_length_le (by rw [Array.length_toList]; exact Nat.le_refl _)
    rw [e10] at ea
    have b1 : But r H H1 := fun b o _ e => g1 _ _ e
    have rd1 : RdAt C H1 r T i := ⟨⟨dx, g1 _ _ hr0⟩, hi, hf⟩
    have d2 : 2 ≤ sizeLine := by decide
    refine ⟨acc, _, rfl, ea, _, rfl, ?_⟩
    rw [List.any_map]
    have hany : ∀ b, (figS.cps.toList.any (id ∘ fun c => [c].isPrefixOf (T.cps.toList.drop i))) = b ↔ (decide (∃ c ∈ figS.cps.toList, (T.cps.toList.drop i).head? = some c) = b) := fun b => by
      have : (figS.cps.toList.any (id ∘ fun c => [c].isPrefixOf (T.cps.toList.drop i))) = decide (∃ c ∈ figS.cps.toList, (T.cps.toList.drop i).head? = some c) := by
        rw [Bool.eq_iff_iff, List.any_eq_true, decide_eq_true_eq]
        constructor
        · rintro ⟨c, hc, h⟩
          have h' : [c].isPrefixOf (T.cps.toList.drop i) = true := h
          rw [one_pre] at h'
          exact ⟨c, hc, of_decide_eq_true h'⟩
        · rintro ⟨c, hc, h⟩
          refine ⟨c, hc, ?_⟩
          show [c].isPrefixOf (T.cps.toList.drop i) = true
          rw [one_pre]
          exact decide_eq_true h
      rw [this]
    cases l with
    | num x n =>
      have ok' : NOk x n := ok
      have lx : x.cps.toList.length = x.length := Array.length_toList
      have h1 := ok'.lo
      obtain ⟨c, hc⟩ : ∃ c, x.cps.toList.head? = some c := by
        cases hx : x.cps.toList with
        | nil => rw [hx] at lx; simp at lx; omega
        | cons c r => exact ⟨c, rfl⟩
      have hh : (T.cps.toList.drop i).head? = some c := by
        rw [hd]
        show (x.cps.toList ++ post).head? = some c
        rw [List.head?_append, hc]
        rfl
      rw [(hany true).mpr (decide_eq_true ⟨c, ok'.fg c (List.mem_of_mem_head? hc), hh⟩)]
      refine iteT ⟨_, rfl, r, T, x, n, i, post, rfl, rd1, hd, ok', we.2, fun H2 b2 rd2 => ⟨d2, fun p hp => ?_⟩⟩
      obtain ⟨⟨dx2, hr2⟩, _, _⟩ := id rd2
      have npr : p ≠ r := fun z => by rw [z, hr2] at hp; cases hp
      exact q p _ ((b1.trans b2).trans fun b o _ e => same_upd hp _ _ e) ⟨⟨dx2, same_upd hp _ _ hr2⟩, rd2.le, hf⟩ upd_same npr
    | word x =>
      have ok' : WOk x := ok
      have lx : x.cps.toList.length = x.length := Array.length_toList
      have h1 := ok'.lo
      obtain ⟨c, hc⟩ : ∃ c, x.cps.toList.head? = some c := by
        cases hx : x.cps.toList with
        | nil => rw [hx] at lx; simp at lx; omega
        | cons c r => exact ⟨c, rfl⟩
      have hh : (T.cps.toList.drop i).head? = some c := by
        rw [hd]
        show (x.cps.toList ++ post).head? = some c
        rw [List.head?_append, hc]
        rfl
      rw [(hany false).mpr (decide_eq_false (by
        rintro ⟨c', hc', e⟩
        rw [hh] at e
        cases e
        exact fig_not_abc c (ok'.ab c (List.mem_of_mem_head? hc)) hc'))]
      refine iteF ⟨_, rfl, r, T, x, i, post, rfl, rd1, hd, ok', we.1, fun H2 b2 rd2 => ⟨d2, fun p hp => ?_⟩⟩
      obtain ⟨⟨dx2, hr2⟩, _, _⟩ := id rd2
      have npr : p ≠ r := fun z => by rw [z, hr2] at hp; cases hp
      exact q p _ ((b1.trans b2).trans fun b o _ e => same_upd hp _ _ e) ⟨⟨dx2, same_upd hp _ _ hr2⟩, rd2.le, hf⟩ upd_same npr
end
end K06
set_option Elab.async false
set_option linter.all false
set_option maxRecDepth 100000
set_option maxHeartbeats 4000000
namespace L2
open PySem
def numT (n : Int) : Str := Str.ofString (toString n)
def txA : Atom → List Nat
  | .name x => x.cps.toList
  | .num n => (numT n).cps.toList
  | .gap g => 63 :: g.cps.toList
def AOk : Atom → Prop
  | .name x => WOk x
  | .num n => NOk (numT n) n
  | .gap g => WOk g
theorem q_len : (Str.ofString "?").length = 1 := by decide +kernel
theorem q_list : (Str.ofString "?").cps.toList = [63] := by decide +kernel
theorem fig_not_q : 63 ∉ figS.cps.toList ∧ 63 ∉ abcS.cps.toList := by decide +kernel
theorem head_in {x : Str} (h : 1 ≤ x.length) (post : List Nat) : ∃ c, c ∈ x.cps.toList ∧ (x.cps.toList ++ post).head? = some c := by
  have lx : x.cps.toList.length = x.length := Array.length_toList
  cases hx : x.cps.toList with
  | nil => rw [hx] at lx; simp at lx; omega
  | cons c r => exact ⟨c, List.mem_cons_self, rfl⟩
theorem PLf.head {l : PLf} (ok : l.ok) (post : List Nat) : ∃ c, (c ∈ figS.cps.toList ∨ c ∈ abcS.cps.toList) ∧ (l.txt.cps.toList ++ post).head? = some c := by
  cases l with
  | num x n => obtain ⟨c, hc, e⟩ := head_in (NOk.lo ok) post; exact ⟨c, .inl (NOk.fg ok c hc), e⟩
  | word x => obtain ⟨c, hc, e⟩ := head_in (WOk.lo ok) post; exact ⟨c, .inr (WOk.ab ok c hc), e⟩
theorem PLf.noq {l : PLf} (ok : l.ok) (post : List Nat) : (Str.ofString "?").cps.toList.isPrefixOf (l.txt.cps.toList ++ post) = false := by
  obtain ⟨c, hc, e⟩ := PLf.head ok post
  rw [q_list, one_pre, e]
  refine decide_eq_false fun z => ?_
  cases z
  exact hc.elim fig_not_q.1 fig_not_q.2
end L2
namespace K06
open PySem PySem.Spec L2 PyProof.Rows
abbrev s_atom_from : Stmt := top 26
theorem sc_atom_from : FnScope ["reader"] ["reader"] (defScope s_atom_from) := ⟨rfl, rfl, rfl, by decide +kernel, rfl, by decide +kernel, by decide +kernel⟩
section
variable {P : Program} {w : World} {K : PySem.W.Frag} {mg : Str → Option Value} {base : Heap}
def sp_atom (C : Addr) : Sp := fun vs H Q _ => ∃ (r : Addr) (T : Str) (a : Atom) (i : Nat) (post : List Nat), vs = [.ref r] ∧ RdAt C H r T i ∧ T.cps.toList.drop i = txA a ++ post ∧ AOk a ∧ LEnd post ∧ ∀ (v : V) (H' : Hp), But r H H' → RdAt C H' r T (i + (txA a).length) → AtRep H' a v → Q v H'
theorem ok_atom {k : Nat} {f C g1 g2 g3 : Addr} {fd gd1 gd2 gd3 : FuncData} (F : Fun K "atom_from" "atom_from" s_atom_from f fd) (T_Reader : TxtR K mg C)
    (G_Reader_skipped : FnM P w K mg base k C "skipped" g1 gd1 ["self", "piece"] (sp_skipped C)) (G_plain_leaf_from : FnB P w K mg base k "plain_leaf_from" g2 gd2 ["reader"] (sp_pleaf C)) (G_word_from : FnB P w K mg base k "word_from" g3 gd3 ["reader"] (sp_word C)) :
    FnOk P w K mg base CX0 (k + 1) f fd ["reader"] (sp_atom C) := by
  refine F.ok sc_atom_from (fun vs H Q E h => ?_) (fun cdv A outer s H vs Q E hr h => ?_)
  · obtain ⟨r, T, a, i, post, rfl, _⟩ := h
    rfl
  obtain ⟨r, T, a, i, post, rfl, rd, hd, ok, we, q⟩ := h
  obtain ⟨⟨dx, hr0⟩, hi, hf⟩ := id rd
  refine ⟨_, (pss_cons (ps_if (pt_val (pe_meth (pv 0) T_Reader.cl G_Reader_skipped.mt G_Reader_skipped.ok hr G_Reader_skipped.bd .nil pass0 (pa_cons pe_str pa_nil))) (pss_one (ps_ret (pe_tup (pa_cons pe_str (pa_cons (pe_call G_word_from.ok hr (by rfl) G_word_from.gl G_word_from.kp G_word_from.bd .nil pass0 (pa_cons (pv 0) pa_nil)) (pa_cons (pe_tup pa_nil : PE _ _ _) pa_nil))) : PE _ _ _))) pss_nil)
    (pss_one (ps_ret (pe_call G_plain_leaf_from.ok hr (by rfl) G_plain_leaf_from.gl G_plain_leaf_from.kp G_plain_leaf_from.bd .nil pass0 (pa_cons (pv 0) pa_nil))))), ?_⟩
  have plain : ∀ (l : PLf), txA a = l.txt.cps.toList → l.ok → (∀ (p : Addr) (H' : Hp), H' p = some (.tup l.items) → AtRep H' a (.ref p)) → (Str.ofString "?").cps.toList.isPrefixOf (T.cps.toList.drop i) = false ∧ ∀ (p : Addr) (H' : Hp), But r H H' → RdAt C H' r T (i + l.txt.length) → H' p = some (.tup l.items) → p ≠ r → Q (.ref p) H' := fun l e lok mk => by
    refine ⟨by rw [hd, e]; exact PLf.noq lok post, fun p H' b rd' hp _ => q _ H' b ?_ (mk p H' hp)⟩
    rw [e, Array.length_toList]
    exact rd'
  refine ⟨_, rfl, r, dx, _, rfl, hr0, rfl, r, T, "?", i, rfl, rd, fun hq => ?_, fun hq H1 b1 rd1 => ?_⟩
  · refine ⟨_, rfl, iteF ⟨_, rfl, ?_⟩⟩
    cases a with
    | name x => exact ⟨r, T, .word x, i, post, rfl, rd, hd, ok, we, (plain (.word x) rfl ok fun p H' e => ⟨p, rfl, e⟩).2⟩
    | num n => exact ⟨r, T, .num (numT n) n, i, post, rfl, rd, hd, ok, we, (plain (.num (numT n) n) rfl ok fun p H' e => ⟨p, rfl, e⟩).2⟩
    | gap g =>
      rw [hd, q_list, one_pre] at hq
      exact absurd hq (by simp [txA])
  · cases a with
    | name x => rw [(plain (.word x) rfl ok fun p H' e => ⟨p, rfl, e⟩).1] at hq; cases hq
    | num n => rw [(plain (.num (numT n) n) rfl ok fun p H' e => ⟨p, rfl, e⟩).1] at hq; cases hq
    | gap g =>
      refine ⟨_, rfl, iteT ?_⟩
      rw [q_len] at rd1
      have hd1 : T.cps.toList.drop (i + 1) = g.cps.toList ++ post := by
        have : T.cps.toList.drop (i + 1) = (T.cps.toList.drop i).drop 1 := by rw [List.drop_drop]
        rw [this, hd]
        rfl
      refine ⟨_, rfl, r, T, g, i + 1, post, rfl, rd1, hd1, ok, we.1, fun H2 b2 rd2 => ?_⟩
      have el : i + 1 + g.length = i + (txA (.gap g)).length := by
        show _ = i + (g.cps.toList.length + 1)
        rw [Array.length_toList]
        show i + 1 + g.cps.size = _
        omega
      rw [el] at rd2
      obtain ⟨⟨dx2, hr2⟩, le2, _⟩ := id rd2
      refine ⟨(by show 0 ≤ sizeLine; decide), fun p0 hp0 => ⟨(by show 3 ≤ sizeLine; decide), fun p hp => ?_⟩⟩
      have s1 := same_upd (o := .tup []) hp0
      have s2 := same_upd (o := .tup [.str "gap", .str g, .ref p0]) hp
      refine q _ _ ((b1.trans b2).trans fun b o _ e => s2 _ _ (s1 _ _ e)) ⟨⟨dx2, s2 _ _ (s1 _ _ hr2)⟩, le2, hf⟩ ⟨p, p0, rfl, upd_same, s2 _ _ upd_same⟩
end
end K06
set_option Elab.async false
set_option linter.all false
set_option maxRecDepth 100000
set_option maxHeartbeats 4000000
namespace L2
open PySem PySem.Spec PyProof.Rows
section
variable {aA dl el wl : Addr}
end
section
variable {C : Addr} {H H' : Hp} {p aA dl el wl : Addr} {ds es ws : List V}
end
theorem paired_append {α : Type} {F : α → V → Prop} : ∀ {as bs : List α} {us vs : List V}, Paired F as us → Paired F bs vs → Paired F (as ++ bs) (us ++ vs)
  | _, _, _, _, .nil, h => h
  | _, _, _, _, .cons r t, h => .cons r (paired_append t h)
section
variable {C : Addr} {H H' : Hp} {p aA dl el wl : Addr} {a : En} {W : List Item} {E : List Int} {D : List DRow}
end
theorem paired_len {α : Type} {F : α → V → Prop} {as : List α} {us : List V} (h : Paired F as us) : us.length = as.length := h.length.symm
end L2
set_option Elab.async false
set_option linter.all false
set_option maxRecDepth 100000
set_option maxHeartbeats 4000000
namespace L2
open PySem
def moreA (as : List Atom) : List Nat := as.flatMap fun a => 32 :: txA a
def txAs : List Atom → List Nat
  | [] => []
  | a :: as => 91 :: (txA a ++ (moreA as ++ [93]))
theorem But.put {r la : Addr} {H H' : Hp} {o : HO} (g : But r H H') (h : H la = none) : But r H (upd H' la o) := fun b x n e => by
  rw [upd_ne (fun z => by rw [z, h] at e; cases e)]
  exact g b x n e
theorem br_list : (Str.ofString "[").cps.toList = [91] ∧ (Str.ofString " ").cps.toList = [32] ∧ (Str.ofString "]").cps.toList = [93] := by decide +kernel
theorem br_len : (Str.ofString "[").length = 1 ∧ (Str.ofString " ").length = 1 ∧ (Str.ofString "]").length = 1 := by decide +kernel
theorem end_of {c : Nat} {l : List Nat} (h : c = 32 ∨ c = 93 ∨ c = 41) : LEnd (c :: l) := by
  have k : ∀ d ∈ [32, 93, 41], d ∉ abcS.cps.toList ∧ d ∉ figS.cps.toList := by decide +kernel
  have hc := k c (by rcases h with rfl | rfl | rfl <;> simp)
  exact ⟨fun d hd => by cases hd; exact hc.1, fun d hd => by cases hd; exact hc.2⟩
theorem more_end (as : List Atom) (post : List Nat) : LEnd (moreA as ++ (93 :: post)) := by
  cases as with
  | nil => exact end_of (.inr (.inl rfl))
  | cons a as => exact end_of (.inl rfl)
theorem drop_more {T l m : List Nat} {i : Nat} (h : T.drop i = l ++ m) : T.drop (i + l.length) = m := by
  rw [← List.drop_drop, h]
  exact List.drop_left' rfl
end L2
namespace K06
open PySem PySem.Spec L2 PyProof.Rows
abbrev s_atoms_from : Stmt := top 27
theorem sc_atoms_from : FnScope ["reader", "atoms"] ["reader"] (defScope s_atoms_from) := ⟨rfl, rfl, rfl, by decide +kernel, rfl, by decide +kernel, by decide +kernel⟩
section
variable {P : Program} {w : World} {K : PySem.W.Frag} {mg : Str → Option Value} {base : Heap}
def sp_atoms (C : Addr) : Sp := fun vs H Q _ => ∃ (r : Addr) (T : Str) (as : List Atom) (i : Nat) (post : List Nat), vs = [.ref r] ∧ RdAt C H r T i ∧ T.cps.toList.drop i = txAs as ++ post ∧ (∀ a ∈ as, AOk a) ∧ as.length ≤ 900 ∧ (∀ c ∈ post.head?, c ≠ 91) ∧
  ∀ (p : Addr) (us : List V) (H' : Hp), But r H H' → RdAt C H' r T (i + (txAs as).length) → H' p = some (.tup us) → Paired (AtRep H') as us → Q (.ref p) H'
theorem ok_atoms {k : Nat} {f C g1 g2 g3 : Addr} {fd gd1 gd2 gd3 : FuncData} (F : Fun K "atoms_from" "atoms_from" s_atoms_from f fd) (T_Reader : TxtR K mg C) (z_tuple : mg "tuple" = none)
    (G_Reader_skipped : FnM P w K mg base k C "skipped" g1 gd1 ["self", "piece"] (sp_skipped C)) (G_Reader_skip : FnM P w K mg base k C "skip" g2 gd2 ["self", "piece"] (sp_skip C)) (G_atom_from : FnB P w K mg base k "atom_from" g3 gd3 ["reader"] (sp_atom C)) :
    FnOk P w K mg base CX0 (k + 1) f fd ["reader"] (sp_atoms C) := by
  refine F.ok sc_atoms_from (fun vs H Q E h => ?_) (fun cdv A outer s H vs Q E hr h => ?_)
  · obtain ⟨r, T, as, i, post, rfl, _⟩ := h
    rfl
  obtain ⟨r, T, as, i, post, rfl, rd, hd, ok, hl, hp, q⟩ := h
  obtain ⟨⟨dx, hr0⟩, hi, hf⟩ := id rd
  refine ⟨_, (pss_cons (ps_if (pt_not (pt_val (pe_meth (pv 0) T_Reader.cl G_Reader_skipped.mt G_Reader_skipped.ok hr G_Reader_skipped.bd .nil pass0 (pa_cons pe_str pa_nil)))) (pss_one (ps_ret (pe_tup pa_nil : PE _ _ _))) pss_nil)
    (pss_cons (ps_set (i := 1) sc_atoms_from.nd rfl (Or.inl rfl) (pe_lst (pa_cons (pe_call G_atom_from.ok hr (by rfl) G_atom_from.gl G_atom_from.kp G_atom_from.bd .nil pass0 (pa_cons (pv 0) pa_nil)) pa_nil) : PE _ _ _))
    (pss_cons (ps_while PassesOwn.never (pt_val (pe_meth (pv 0) T_Reader.cl G_Reader_skipped.mt G_Reader_skipped.ok hr G_Reader_skipped.bd .nil pass0 (pa_cons pe_str pa_nil))) (pss_one (ps_expr (pe_bm PySem.F.plainAttrs_list PySem.F.slot_list_append PySem.F.type_list_append mt_append (pv 1) (pa_cons (pe_call G_atom_from.ok hr (by rfl) G_atom_from.gl G_atom_from.kp G_atom_from.bd .nil pass0 (pa_cons (pv 0) pa_nil)) pa_nil)))))
    (pss_cons (ps_expr (pe_meth (pv 0) T_Reader.cl G_Reader_skip.mt G_Reader_skip.ok hr G_Reader_skip.bd .nil pass0 (pa_cons pe_str pa_nil)))
    (pss_one (ps_ret (pe_callTy call_tuple_of (by rfl) z_tuple PyProof.Rows.boot_tuple (pa_cons (pv 1) pa_nil)))))))), ?_⟩
  refine ⟨_, rfl, r, dx, _, rfl, hr0, rfl, r, T, "[", i, rfl, rd, fun hq => ?_, fun hq H1 b1 rd1 => ?_⟩
  · refine ⟨_, rfl, iteT ⟨(by show 0 ≤ sizeLine; decide), fun p hp0 => ?_⟩⟩
    cases as with
    | cons a as =>
      rw [hd, br_list.1, one_pre] at hq
      exact absurd hq (by simp [txAs])
    | nil =>
      have s1 := same_upd (o := .tup []) hp0
      exact q p [] _ (fun b o _ e => s1 _ _ e) ⟨⟨dx, s1 _ _ hr0⟩, hi, hf⟩ upd_same .nil
  · refine ⟨_, rfl, iteF ?_⟩
    cases as with
    | nil =>
      rw [hd, br_list.1, one_pre] at hq
      exact absurd rfl (hp 91 (by have := of_decide_eq_true hq; simpa [txAs] using this))
    | cons a as =>
      rw [br_len.1] at rd1
      have hd1 : T.cps.toList.drop (i + 1) = txA a ++ (moreA as ++ (93 :: post)) := by
        rw [← List.drop_drop, hd]
        simp [txAs]
      refine ⟨_, rfl, r, T, a, i + 1, _, rfl, rd1, hd1, ok a List.mem_cons_self, more_end as post, fun v H2 b2 rd2 ra => ⟨(by show 1 ≤ sizeLine; decide), fun la hla => ?_⟩⟩
      obtain ⟨⟨dx2, hr2⟩, le2, _⟩ := id rd2
      have s3 := same_upd (o := .lst [v]) hla
      have hlaH : H la = none := by
        cases e : H la with
        | none => rfl
        | some o =>
          by_cases z : la = r
          · rw [z, hr2] at hla; cases hla
          · rw [(b1.trans b2) la o z e] at hla; cases hla
      have nlr : la ≠ r := fun z => by rw [z, hr2] at hla; cases hla
      have hd2 := drop_more hd1
      refine ⟨fun m σ' H' => ∃ (dn rs : List Atom) (us : List V) (j : Nat), σ' = [some (.ref r), some (.ref la)] ∧ dn ++ rs = a :: as ∧ But r H H' ∧ RdAt C H' r T j ∧ T.cps.toList.drop j = moreA rs ++ (93 :: post) ∧ H' la = some (.lst us) ∧ Paired (AtRep H') dn us ∧ m = rs.length ∧ j + (moreA rs).length + 1 = i + (txAs (a :: as)).length,
        ⟨as.length, [a], as, [v], i + 1 + (txA a).length, rfl, rfl, ((b1.trans b2).trans fun b o _ e => s3 _ _ e), ⟨⟨dx2, s3 _ _ hr2⟩, le2, hf⟩, hd2, upd_same, .cons (ra.mono s3.tk) .nil, rfl, by simp [txAs]; omega⟩, ?_⟩
      rintro m σ' H3 ⟨dn, rs, us, j, rfl, hdr, b3, rd3, hd3, ela, pa, rfl, hj⟩
      obtain ⟨⟨dx3, hr3⟩, le3, _⟩ := id rd3
      have lus : us.length = dn.length := paired_len pa
      have ltot : dn.length + rs.length = as.length + 1 := by have := congrArg List.length hdr; simpa using this
      refine ⟨_, rfl, r, dx3, _, rfl, hr3, rfl, r, T, " ", j, rfl, rd3, fun hq3 => ?_, fun hq3 H4 b4 rd4 => ?_⟩
      · refine ⟨_, rfl, iteF ?_⟩
        cases rs with
        | cons a' rs' =>
          rw [hd3, br_list.2.1, one_pre] at hq3
          exact absurd hq3 (by simp [moreA])
        | nil =>
          have hpre : (Str.ofString "]").cps.toList.isPrefixOf (T.cps.toList.drop j) = true := by
            rw [hd3, br_list.2.2, one_pre]
            simp [moreA]
          refine ⟨_, rfl, r, dx3, _, rfl, hr3, rfl, r, T, "]", j, rfl, rd3, hpre, fun H4 b4 rd4 => ?_⟩
          have ela4 := b4 _ _ nlr ela
          refine ⟨_, rfl, la, us, rfl, .inl ⟨SqL.of ela4, fun p hp4 => ?_⟩⟩
          have s5 := same_upd (o := .tup us) hp4
          obtain ⟨⟨dx4, hr4⟩, le4, _⟩ := id rd4
          have tk4 : Tk H3 H4 := But.tk hr3 b4
          have ed : dn = a :: as := by rw [List.append_nil] at hdr; exact hdr
          have ej : j + (Str.ofString "]").length = i + (txAs (a :: as)).length := by rw [br_len.2.2]; simpa [moreA] using hj
          rw [ej] at hr4 le4
          refine q p us _ ((b3.trans b4).trans fun b o _ e => s5 _ _ e) ⟨⟨dx4, s5 _ _ hr4⟩, le4, hf⟩ upd_same ?_
          rw [← ed]
          exact Paired.mapP pa fun _ _ z => z.mono (tk4.trans s5.tk)
      · refine ⟨_, rfl, iteT ?_⟩
        cases rs with
        | nil =>
          rw [hd3, br_list.2.1, one_pre] at hq3
          exact absurd hq3 (by simp [moreA])
        | cons a' rs' =>
          rw [br_len.2.1] at rd4
          have ela4 := b4 _ _ nlr ela
          have hd4 : T.cps.toList.drop (j + 1) = txA a' ++ (moreA rs' ++ (93 :: post)) := by
            rw [← List.drop_drop, hd3]
            simp [moreA]
          have oka : AOk a' := ok a' (by rw [← hdr]; simp)
          refine ⟨_, fun _ _ h => h, ?_⟩
          refine ⟨_, rfl, .inl ⟨rfl, _, SqL.of ela4⟩, _, rfl, r, T, a', j + 1, _, rfl, rd4, hd4, oka, more_end rs' post, fun v' H5 b5 rd5 ra' => ?_⟩
          have ela5 := b5 _ _ nlr ela4
          obtain ⟨⟨dx4, hr4⟩, _, _⟩ := id rd4
          obtain ⟨⟨dx5, hr5⟩, le5, _⟩ := id rd5
          refine ⟨la, us, _, rfl, rfl, ela5, small1000 (by simp at ltot hl; omega), ?_⟩
          have tk : Tk H3 (upd H5 la (.lst (us ++ [v']))) := (But.tk hr3 b4).trans ((But.tk hr4 b5).trans (Tk.lst ela5))
          refine ⟨rs'.length, by simp, dn ++ [a'], rs', us ++ [v'], j + 1 + (txA a').length, rfl, by simp [hdr], ((b3.trans b4).trans b5).put hlaH, ⟨⟨dx5, by rw [upd_ne (Ne.symm nlr)]; exact hr5⟩, le5, hf⟩, drop_more hd4, upd_same, ?_, rfl, ?_⟩
          · exact paired_append (Paired.mapP pa fun _ _ z => z.mono tk) (.cons (ra'.mono (Tk.lst ela5)) .nil)
          · rw [← hj]; simp [moreA]; omega
end
end K06
set_option Elab.async false
set_option linter.all false
set_option maxRecDepth 100000
set_option maxHeartbeats 4000000
namespace L2
open PySem
def tx (s : String) : List Nat := (Str.ofString s).cps.toList
def bwT : Bin → String
  | .add => " + "
  | .sub => " - "
  | .mul => " * "
  | .thn => " ; "
def txT : Tr → List Nat
  | .num n => (numT n).cps.toList
  | .name x => x.cps.toList
  | .ask x => tx "(ask " ++ (x.cps.toList ++ [41])
  | .stop x => tx "(stop " ++ (x.cps.toList ++ [41])
  | .gap g as => 63 :: (g.cps.toList ++ txAs as)
  | .say a => tx "(say " ++ (txT a ++ [41])
  | .bin o a b => 40 :: (txT a ++ (tx (bwT o) ++ (txT b ++ [41])))
  | .ite a b c => tx "(if " ++ (txT a ++ (tx " then " ++ (txT b ++ (tx " else " ++ (txT c ++ [41])))))
  | .lett x a b => tx "(let " ++ (x.cps.toList ++ (tx " = " ++ (txT a ++ (tx " in " ++ (txT b ++ [41])))))
def TOk : Tr → Prop
  | .num n => NOk (numT n) n
  | .name x => WOk x
  | .ask x => WOk x
  | .stop x => WOk x
  | .gap g as => WOk g ∧ (∀ a ∈ as, AOk a) ∧ as.length ≤ 900
  | .say a => TOk a
  | .bin _ a b => TOk a ∧ TOk b
  | .ite a b c => TOk a ∧ TOk b ∧ TOk c
  | .lett x a b => WOk x ∧ TOk a ∧ TOk b
def dpT : Tr → Nat
  | .say a => dpT a + 1
  | .bin _ a b => max (dpT a) (dpT b) + 1
  | .ite a b c => max (dpT a) (max (dpT b) (dpT c)) + 1
  | .lett _ a b => max (dpT a) (dpT b) + 1
  | _ => 0
def SEnd (post : List Nat) : Prop := ∀ c ∈ post.head?, c = 32 ∨ c = 41
theorem pre_app (s l : List Nat) : s.isPrefixOf (s ++ l) = true := List.isPrefixOf_iff_prefix.mpr (List.prefix_append s l)
theorem tx_len (s : String) : (tx s).length = (Str.ofString s).length := Array.length_toList
theorem send_tx {s : String} (h : (tx s).head? = some 32) (l : List Nat) : SEnd (tx s ++ l) := by
  intro c hc
  rw [List.head?_append, h] at hc
  cases hc
  exact .inl rfl
theorem send_close (l : List Nat) : SEnd (41 :: l) := fun c hc => by cases hc; exact .inr rfl
end L2
namespace K06
open PySem PySem.Spec L2 PyProof.Rows
abbrev s_if_from : Stmt := top 30
theorem sc_if_from : FnScope ["reader", "asked", "first"] ["reader"] (defScope s_if_from) := ⟨rfl, rfl, rfl, by decide +kernel, rfl, by decide +kernel, by decide +kernel⟩
abbrev s_let_from : Stmt := top 31
theorem sc_let_from : FnScope ["reader", "name", "first"] ["reader"] (defScope s_let_from) := ⟨rfl, rfl, rfl, by decide +kernel, rfl, by decide +kernel, by decide +kernel⟩
section
variable {P : Program} {w : World} {K : PySem.W.Frag} {mg : Str → Option Value} {base : Heap}
def sp_shape (C : Addr) (n : Nat) : Sp := fun vs H Q _ => ∃ (r : Addr) (T : Str) (t : Tr) (i : Nat) (post : List Nat), vs = [.ref r] ∧ RdAt C H r T i ∧ T.cps.toList.drop i = txT t ++ post ∧ TOk t ∧ SEnd post ∧ dpT t < n ∧
  ∀ (v : V) (H' : Hp), But r H H' → RdAt C H' r T (i + (txT t).length) → Rep H' t v → Q v H'
def sp_if (C : Addr) (n : Nat) : Sp := fun vs H Q _ => ∃ (r : Addr) (T : Str) (a b c : Tr) (i : Nat) (post : List Nat), vs = [.ref r] ∧ RdAt C H r T i ∧ T.cps.toList.drop i = txT a ++ (tx " then " ++ (txT b ++ (tx " else " ++ (txT c ++ 41 :: post)))) ∧ TOk a ∧ TOk b ∧ TOk c ∧ dpT a < n ∧ dpT b < n ∧ dpT c < n ∧
  ∀ (v : V) (H' : Hp) (j : Nat), But r H H' → RdAt C H' r T j → T.cps.toList.drop j = 41 :: post → Rep H' (.ite a b c) v → Q v H'
theorem ok_if {k n : Nat} {f C g1 g2 : Addr} {fd gd1 gd2 : FuncData} (F : Fun K "if_from" "if_from" s_if_from f fd) (T_Reader : TxtR K mg C) (G_Reader_skip : FnM P w K mg base k C "skip" g1 gd1 ["self", "piece"] (sp_skip C)) (G_shape_from : FnB P w K mg base k "shape_from" g2 gd2 ["reader"] (sp_shape C n)) :
    FnOk P w K mg base CX0 (k + 1) f fd ["reader"] (sp_if C n) := by
  refine F.ok sc_if_from (fun vs H Q E h => ?_) (fun cdv A outer s H vs Q E hr h => ?_)
  · obtain ⟨r, T, a, b, c, i, post, rfl, _⟩ := h
    rfl
  obtain ⟨r, T, a, b, c, i, post, rfl, rd, hd, ka, kb, kc, da, db, dc, q⟩ := h
  obtain ⟨⟨dx, hr0⟩, hi, hf⟩ := id rd
  refine ⟨_, (pss_cons (ps_set (i := 1) sc_if_from.nd rfl (Or.inl rfl) (pe_call G_shape_from.ok hr (by rfl) G_shape_from.gl G_shape_from.kp G_shape_from.bd .nil pass0 (pa_cons (pv 0) pa_nil)))
    (pss_cons (ps_expr (pe_meth (pv 0) T_Reader.cl G_Reader_skip.mt G_Reader_skip.ok hr G_Reader_skip.bd .nil pass0 (pa_cons pe_str pa_nil)))
    (pss_cons (ps_set (i := 2) sc_if_from.nd rfl (Or.inl rfl) (pe_call G_shape_from.ok hr (by rfl) G_shape_from.gl G_shape_from.kp G_shape_from.bd .nil pass0 (pa_cons (pv 0) pa_nil)))
    (pss_cons (ps_expr (pe_meth (pv 0) T_Reader.cl G_Reader_skip.mt G_Reader_skip.ok hr G_Reader_skip.bd .nil pass0 (pa_cons pe_str pa_nil)))
    (pss_one (ps_ret (pe_tup (pa_cons pe_str (pa_cons (pv 1) (pa_cons (pv 2) (pa_cons (pe_call G_shape_from.ok hr (by rfl) G_shape_from.gl G_shape_from.kp G_shape_from.bd .nil pass0 (pa_cons (pv 0) pa_nil)) pa_nil)))) : PE _ _ _))))))), ?_⟩
  refine ⟨_, rfl, r, T, a, i, _, rfl, rd, hd, ka, send_tx (by decide +kernel) _, da, fun va H1 b1 rd1 ra => ?_⟩
  have hd1 := drop_more hd
  obtain ⟨⟨dx1, hr1⟩, _, _⟩ := id rd1
  refine ⟨_, rfl, r, dx1, _, rfl, hr1, rfl, r, T, " then ", _, rfl, rd1, by rw [hd1]; exact pre_app _ _, fun H2 b2 rd2 => ?_⟩
  have hd2 := drop_more hd1
  rw [tx_len] at hd2
  obtain ⟨⟨dx2, hr2⟩, _, _⟩ := id rd2
  refine ⟨_, rfl, r, T, b, _, _, rfl, rd2, hd2, kb, send_tx (by decide +kernel) _, db, fun vb H3 b3 rd3 rb => ?_⟩
  have hd3 := drop_more hd2
  obtain ⟨⟨dx3, hr3⟩, _, _⟩ := id rd3
  refine ⟨_, rfl, r, dx3, _, rfl, hr3, rfl, r, T, " else ", _, rfl, rd3, by rw [hd3]; exact pre_app _ _, fun H4 b4 rd4 => ?_⟩
  have hd4 := drop_more hd3
  rw [tx_len] at hd4
  obtain ⟨⟨dx4, hr4⟩, _, _⟩ := id rd4
  refine ⟨_, rfl, _, rfl, _, rfl, r, T, c, _, _, rfl, rd4, hd4, kc, send_close _, dc, fun vc H5 b5 rd5 rc => ⟨(by show 4 ≤ sizeLine; decide), fun p hp => ?_⟩⟩
  have hd5 := drop_more hd4
  obtain ⟨⟨dx5, hr5⟩, le5, _⟩ := id rd5
  have s6 := same_upd (o := .tup [.str "if", va, vb, vc]) hp
  have t5 := But.tk hr4 b5
  have t4 := But.tk hr3 b4
  have t3 := But.tk hr2 b3
  have t2 := But.tk hr1 b2
  exact q _ _ _ ((((b1.trans b2).trans b3).trans (b4.trans b5)).trans fun b o _ e => s6 _ _ e) ⟨⟨dx5, s6 _ _ hr5⟩, le5, hf⟩ hd5 ⟨p, va, vb, vc, rfl, upd_same, ra.mono (t2.trans (t3.trans (t4.trans (t5.trans s6.tk)))), rb.mono (t4.trans (t5.trans s6.tk)), rc.mono s6.tk⟩
def sp_let (C : Addr) (n : Nat) : Sp := fun vs H Q _ => ∃ (r : Addr) (T x : Str) (a b : Tr) (i : Nat) (post : List Nat), vs = [.ref r] ∧ RdAt C H r T i ∧ T.cps.toList.drop i = x.cps.toList ++ (tx " = " ++ (txT a ++ (tx " in " ++ (txT b ++ 41 :: post)))) ∧ WOk x ∧ TOk a ∧ TOk b ∧ dpT a < n ∧ dpT b < n ∧
  ∀ (v : V) (H' : Hp) (j : Nat), But r H H' → RdAt C H' r T j → T.cps.toList.drop j = 41 :: post → Rep H' (.lett x a b) v → Q v H'
theorem ok_let {k n : Nat} {f C g1 g2 g3 : Addr} {fd gd1 gd2 gd3 : FuncData} (F : Fun K "let_from" "let_from" s_let_from f fd) (T_Reader : TxtR K mg C) (G_Reader_skip : FnM P w K mg base k C "skip" g1 gd1 ["self", "piece"] (sp_skip C)) (G_shape_from : FnB P w K mg base k "shape_from" g2 gd2 ["reader"] (sp_shape C n))
    (G_word_from : FnB P w K mg base k "word_from" g3 gd3 ["reader"] (sp_word C)) : FnOk P w K mg base CX0 (k + 1) f fd ["reader"] (sp_let C n) := by
  refine F.ok sc_let_from (fun vs H Q E h => ?_) (fun cdv A outer s H vs Q E hr h => ?_)
  · obtain ⟨r, T, x, a, b, i, post, rfl, _⟩ := h
    rfl
  obtain ⟨r, T, x, a, b, i, post, rfl, rd, hd, kx, ka, kb, da, db, q⟩ := h
  obtain ⟨⟨dx, hr0⟩, hi, hf⟩ := id rd
  refine ⟨_, (pss_cons (ps_set (i := 1) sc_let_from.nd rfl (Or.inl rfl) (pe_call G_word_from.ok hr (by rfl) G_word_from.gl G_word_from.kp G_word_from.bd .nil pass0 (pa_cons (pv 0) pa_nil)))
    (pss_cons (ps_expr (pe_meth (pv 0) T_Reader.cl G_Reader_skip.mt G_Reader_skip.ok hr G_Reader_skip.bd .nil pass0 (pa_cons pe_str pa_nil)))
    (pss_cons (ps_set (i := 2) sc_let_from.nd rfl (Or.inl rfl) (pe_call G_shape_from.ok hr (by rfl) G_shape_from.gl G_shape_from.kp G_shape_from.bd .nil pass0 (pa_cons (pv 0) pa_nil)))
    (pss_cons (ps_expr (pe_meth (pv 0) T_Reader.cl G_Reader_skip.mt G_Reader_skip.ok hr G_Reader_skip.bd .nil pass0 (pa_cons pe_str pa_nil)))
    (pss_one (ps_ret (pe_tup (pa_cons pe_str (pa_cons (pv 1) (pa_cons (pv 2) (pa_cons (pe_call G_shape_from.ok hr (by rfl) G_shape_from.gl G_shape_from.kp G_shape_from.bd .nil pass0 (pa_cons (pv 0) pa_nil)) pa_nil)))) : PE _ _ _))))))), ?_⟩
  have lx : x.cps.toList.length = x.length := Array.length_toList
  have we : WEnd (tx " = " ++ (txT a ++ (tx " in " ++ (txT b ++ 41 :: post)))) := fun c hc => by
    have e : tx " = " = [32, 61, 32] := by decide +kernel
    rw [e] at hc
    cases hc
    exact (end_of (c := 32) (l := []) (.inl rfl)).1 32 rfl
  refine ⟨_, rfl, r, T, x, i, _, rfl, rd, hd, kx, we, fun H1 b1 rd1 => ?_⟩
  have hd1 := drop_more hd
  rw [lx] at hd1
  obtain ⟨⟨dx1, hr1⟩, _, _⟩ := id rd1
  refine ⟨_, rfl, r, dx1, _, rfl, hr1, rfl, r, T, " = ", _, rfl, rd1, by rw [hd1]; exact pre_app _ _, fun H2 b2 rd2 => ?_⟩
  have hd2 := drop_more hd1
  rw [tx_len] at hd2
  obtain ⟨⟨dx2, hr2⟩, _, _⟩ := id rd2
  refine ⟨_, rfl, r, T, a, _, _, rfl, rd2, hd2, ka, send_tx (by decide +kernel) _, da, fun va H3 b3 rd3 ra => ?_⟩
  have hd3 := drop_more hd2
  obtain ⟨⟨dx3, hr3⟩, _, _⟩ := id rd3
  refine ⟨_, rfl, r, dx3, _, rfl, hr3, rfl, r, T, " in ", _, rfl, rd3, by rw [hd3]; exact pre_app _ _, fun H4 b4 rd4 => ?_⟩
  have hd4 := drop_more hd3
  rw [tx_len] at hd4
  obtain ⟨⟨dx4, hr4⟩, _, _⟩ := id rd4
  refine ⟨_, rfl, _, rfl, _, rfl, r, T, b, _, _, rfl, rd4, hd4, kb, send_close _, db, fun vb H5 b5 rd5 rb => ⟨(by show 4 ≤ sizeLine; decide), fun p hp => ?_⟩⟩
  have hd5 := drop_more hd4
  obtain ⟨⟨dx5, hr5⟩, le5, _⟩ := id rd5
  have s6 := same_upd (o := .tup [.str "let", .str x, va, vb]) hp
  have t5 := But.tk hr4 b5
  have t4 := But.tk hr3 b4
  exact q _ _ _ ((((b1.trans b2).trans b3).trans (b4.trans b5)).trans fun b o _ e => s6 _ _ e) ⟨⟨dx5, s6 _ _ hr5⟩, le5, hf⟩ hd5 ⟨p, va, vb, rfl, upd_same, ra.mono (t4.trans (t5.trans s6.tk)), rb.mono s6.tk⟩
end
end K06
set_option Elab.async false
set_option linter.all false
set_option maxRecDepth 100000
set_option maxHeartbeats 4000000
namespace L2
open PySem
def brT : Tr → Option (List Nat)
  | .ask x => some (tx "ask " ++ x.cps.toList)
  | .stop x => some (tx "stop " ++ x.cps.toList)
  | .say a => some (tx "say " ++ txT a)
  | .bin o a b => some (txT a ++ (tx (bwT o) ++ txT b))
  | .ite a b c => some (tx "if " ++ (txT a ++ (tx " then " ++ (txT b ++ (tx " else " ++ txT c)))))
  | .lett x a b => some (tx "let " ++ (x.cps.toList ++ (tx " = " ++ (txT a ++ (tx " in " ++ txT b)))))
  | _ => none
theorem tx_open : tx "(ask " = 40 :: tx "ask " ∧ tx "(stop " = 40 :: tx "stop " ∧ tx "(say " = 40 :: tx "say " ∧ tx "(if " = 40 :: tx "if " ∧ tx "(let " = 40 :: tx "let " := by decide +kernel
theorem br_txt {t : Tr} {l : List Nat} (h : brT t = some l) : txT t = 40 :: (l ++ [41]) := by
  obtain ⟨e1, e2, e3, e4, e5⟩ := tx_open
  cases t <;> simp [brT] at h <;> subst h <;> simp [txT, e1, e2, e3, e4, e5]
theorem par_list : (Str.ofString "(").cps.toList = [40] ∧ (Str.ofString ")").cps.toList = [41] ∧ (Str.ofString "(").length = 1 ∧ (Str.ofString ")").length = 1 := by decide +kernel
theorem send_lend {post : List Nat} (h : SEnd post) : LEnd post ∧ ∀ c ∈ post.head?, c ≠ 91 := by
  cases post with
  | nil => exact ⟨⟨(fun c hc => by cases hc), (fun c hc => by cases hc)⟩, (fun c hc => by cases hc)⟩
  | cons d l =>
    have hd := h d rfl
    refine ⟨end_of (hd.elim .inl fun z => .inr (.inr z)), fun c hc => ?_⟩
    cases hc
    rcases hd with rfl | rfl <;> decide
theorem not_par : 40 ∉ figS.cps.toList ∧ 40 ∉ abcS.cps.toList := by decide +kernel
theorem PLf.nopar {l : PLf} (ok : l.ok) (post : List Nat) : (Str.ofString "(").cps.toList.isPrefixOf (l.txt.cps.toList ++ post) = false := by
  obtain ⟨c, hc, e⟩ := PLf.head ok post
  rw [par_list.1, one_pre, e]
  refine decide_eq_false fun z => ?_
  cases z
  exact hc.elim not_par.1 not_par.2
end L2
namespace K06
open PySem PySem.Spec L2 PyProof.Rows
abbrev s_shape_from : Stmt := top 28
theorem sc_shape_from : FnScope ["reader", "tree", "gap"] ["reader"] (defScope s_shape_from) := ⟨rfl, rfl, rfl, by decide +kernel, rfl, by decide +kernel, by decide +kernel⟩
section
variable {P : Program} {w : World} {K : PySem.W.Frag} {mg : Str → Option Value} {base : Heap}
def sp_brk (C : Addr) (n : Nat) : Sp := fun vs H Q _ => ∃ (r : Addr) (T : Str) (t : Tr) (l : List Nat) (i : Nat) (post : List Nat), vs = [.ref r] ∧ RdAt C H r T i ∧ brT t = some l ∧ T.cps.toList.drop i = l ++ 41 :: post ∧ TOk t ∧ dpT t < n ∧
  ∀ (v : V) (H' : Hp), But r H H' → RdAt C H' r T (i + l.length) → Rep H' t v → Q v H'
theorem ok_shape {k n : Nat} {f C g1 g2 g3 g4 g5 g6 : Addr} {fd gd1 gd2 gd3 gd4 gd5 gd6 : FuncData} (F : Fun K "shape_from" "shape_from" s_shape_from f fd) (T_Reader : TxtR K mg C) (G_Reader_skipped : FnM P w K mg base k C "skipped" g1 gd1 ["self", "piece"] (sp_skipped C)) (G_Reader_skip : FnM P w K mg base k C "skip" g2 gd2 ["self", "piece"] (sp_skip C))
    (G_bracket_from : FnB P w K mg base k "bracket_from" g3 gd3 ["reader"] (sp_brk C n)) (G_word_from : FnB P w K mg base k "word_from" g4 gd4 ["reader"] (sp_word C)) (G_atoms_from : FnB P w K mg base k "atoms_from" g5 gd5 ["reader"] (sp_atoms C)) (G_plain_leaf_from : FnB P w K mg base k "plain_leaf_from" g6 gd6 ["reader"] (sp_pleaf C)) :
    FnOk P w K mg base CX0 (k + 1) f fd ["reader"] (sp_shape C n) := by
  refine F.ok sc_shape_from (fun vs H Q E h => ?_) (fun cdv A outer s H vs Q E hr h => ?_)
  · obtain ⟨r, T, t, i, post, rfl, _⟩ := h
    rfl
  obtain ⟨r, T, t, i, post, rfl, rd, hd, ok, se, dn, q⟩ := h
  obtain ⟨⟨dx, hr0⟩, hi, hf⟩ := id rd
  refine ⟨_, (pss_cons (ps_if (pt_val (pe_meth (pv 0) T_Reader.cl G_Reader_skipped.mt G_Reader_skipped.ok hr G_Reader_skipped.bd .nil pass0 (pa_cons pe_str pa_nil))) (pss_cons (ps_set (i := 1) sc_shape_from.nd rfl (Or.inl rfl) (pe_call G_bracket_from.ok hr (by rfl) G_bracket_from.gl G_bracket_from.kp G_bracket_from.bd .nil pass0 (pa_cons (pv 0) pa_nil)))
    (pss_cons (ps_expr (pe_meth (pv 0) T_Reader.cl G_Reader_skip.mt G_Reader_skip.ok hr G_Reader_skip.bd .nil pass0 (pa_cons pe_str pa_nil)))
    (pss_one (ps_ret (pv 1))))) pss_nil)
    (pss_cons (ps_if (pt_val (pe_meth (pv 0) T_Reader.cl G_Reader_skipped.mt G_Reader_skipped.ok hr G_Reader_skipped.bd .nil pass0 (pa_cons pe_str pa_nil))) (pss_cons (ps_set (i := 2) sc_shape_from.nd rfl (Or.inl rfl) (pe_call G_word_from.ok hr (by rfl) G_word_from.gl G_word_from.kp G_word_from.bd .nil pass0 (pa_cons (pv 0) pa_nil)))
    (pss_one (ps_ret (pe_tup (pa_cons pe_str (pa_cons (pv 2) (pa_cons (pe_call G_atoms_from.ok hr (by rfl) G_atoms_from.gl G_atoms_from.kp G_atoms_from.bd .nil pass0 (pa_cons (pv 0) pa_nil)) pa_nil))) : PE _ _ _)))) pss_nil)
    (pss_one (ps_ret (pe_call G_plain_leaf_from.ok hr (by rfl) G_plain_leaf_from.gl G_plain_leaf_from.kp G_plain_leaf_from.bd .nil pass0 (pa_cons (pv 0) pa_nil)))))), ?_⟩
  obtain ⟨le, n91⟩ := send_lend se
  have plain : ∀ (l : PLf), txT t = l.txt.cps.toList → l.ok → (∀ (p : Addr) (H' : Hp), H' p = some (.tup l.items) → Rep H' t (.ref p)) → (Str.ofString "(").cps.toList.isPrefixOf (T.cps.toList.drop i) = false ∧ (Str.ofString "?").cps.toList.isPrefixOf (T.cps.toList.drop i) = false ∧ T.cps.toList.drop i = l.txt.cps.toList ++ post ∧ ∀ (p : Addr) (H' : Hp), But r H H' → RdAt C H' r T (i + l.txt.length) → H' p = some (.tup l.items) → p ≠ r → Q (.ref p) H' := fun l e lok mk => by
    refine ⟨by rw [hd, e]; exact PLf.nopar lok post, by rw [hd, e]; exact PLf.noq lok post, by rw [hd, e], fun p H' b rd' hp _ => q _ H' b ?_ (mk p H' hp)⟩
    rw [e, Array.length_toList]
    exact rd'
  have brk : ∀ l, brT t = some l → (Str.ofString "(").cps.toList.isPrefixOf (T.cps.toList.drop i) = true := fun l h => by
    rw [hd, br_txt h, par_list.1, one_pre]
    simp
  refine ⟨_, rfl, r, dx, _, rfl, hr0, rfl, r, T, "(", i, rfl, rd, fun hq => ?_, fun hq H1 b1 rd1 => ?_⟩
  · refine ⟨_, rfl, iteF ?_⟩
    refine ⟨_, rfl, r, dx, _, rfl, hr0, rfl, r, T, "?", i, rfl, rd, fun hq2 => ?_, fun hq2 H1 b1 rd1 => ?_⟩
    · refine ⟨_, rfl, iteF ⟨_, rfl, ?_⟩⟩
      have nb : ∀ l, brT t = some l → False := fun l h => by rw [brk l h] at hq; cases hq
      cases t with
      | num m =>
        obtain ⟨_, _, h3, h4⟩ := plain (.num (numT m) m) rfl ok fun p H' e => ⟨p, rfl, e⟩
        exact ⟨r, T, .num (numT m) m, i, post, rfl, rd, h3, ok, le, h4⟩
      | name x =>
        obtain ⟨_, _, h3, h4⟩ := plain (.word x) rfl ok fun p H' e => ⟨p, rfl, e⟩
        exact ⟨r, T, .word x, i, post, rfl, rd, h3, ok, le, h4⟩
      | gap g as =>
        rw [hd, q_list, one_pre] at hq2
        exact absurd hq2 (by simp [txT])
      | _ => exact (nb _ rfl).elim
    · refine ⟨_, rfl, iteT ?_⟩
      have nb : ∀ l, brT t = some l → False := fun l h => by rw [brk l h] at hq; cases hq
      cases t with
      | num m => rw [(plain (.num (numT m) m) rfl ok fun p H' e => ⟨p, rfl, e⟩).2.1] at hq2; cases hq2
      | name x => rw [(plain (.word x) rfl ok fun p H' e => ⟨p, rfl, e⟩).2.1] at hq2; cases hq2
      | gap g as =>
        obtain ⟨kg, kas, las⟩ := ok
        rw [q_len] at rd1
        have lg : g.cps.toList.length = g.length := Array.length_toList
        have hd1 : T.cps.toList.drop (i + 1) = g.cps.toList ++ (txAs as ++ post) := by
          rw [← List.drop_drop, hd]
          simp [txT]
        have we : WEnd (txAs as ++ post) := by
          cases as with
          | nil => exact le.1
          | cons a as =>
            intro c hc
            cases hc
            exact (show 91 ∉ abcS.cps.toList by decide +kernel)
        refine ⟨_, rfl, r, T, g, i + 1, _, rfl, rd1, hd1, kg, we, fun H2 b2 rd2 => ?_⟩
        have hd2 := drop_more hd1
        rw [lg] at hd2
        refine ⟨_, rfl, _, rfl, r, T, as, _, post, rfl, rd2, hd2, kas, las, n91, fun p us H3 b3 rd3 hp pu => ⟨(by show 3 ≤ sizeLine; decide), fun p2 hp2 => ?_⟩⟩
        obtain ⟨⟨dx3, hr3⟩, le3, _⟩ := id rd3
        have s4 := same_upd (o := .tup [.str "gap", .str g, .ref p]) hp2
        have el : i + 1 + g.length + (txAs as).length = i + (txT (.gap g as)).length := by simp [txT, lg]; omega
        rw [el] at hr3 le3
        have lu : us.length = as.length := paired_len pu
        exact q _ _ (((b1.trans b2).trans b3).trans fun b o _ e => s4 _ _ e) ⟨⟨dx3, s4 _ _ hr3⟩, le3, hf⟩ ⟨p2, p, us, rfl, upd_same, s4 _ _ hp, by omega, Paired.mapP pu fun _ _ z => z.mono s4.tk⟩
      | _ => exact (nb _ rfl).elim
  · refine ⟨_, rfl, iteT ?_⟩
    rw [par_list.2.2.1] at rd1
    have nl : brT t = none → False := fun h => by
      cases t with
      | num m => rw [(plain (.num (numT m) m) rfl ok fun p H' e => ⟨p, rfl, e⟩).1] at hq; cases hq
      | name x => rw [(plain (.word x) rfl ok fun p H' e => ⟨p, rfl, e⟩).1] at hq; cases hq
      | gap g as =>
        rw [hd, par_list.1, one_pre] at hq
        exact absurd hq (by simp [txT])
      | _ => cases h
    cases hb : brT t with
    | none => exact (nl hb).elim
    | some l =>
      have e9 := br_txt hb
      have hd1 : T.cps.toList.drop (i + 1) = l ++ 41 :: post := by
        rw [← List.drop_drop, hd, e9]
        simp
      refine ⟨_, rfl, r, T, t, l, i + 1, post, rfl, rd1, hb, hd1, ok, dn, fun v H2 b2 rd2 rv => ?_⟩
      obtain ⟨⟨dx2, hr2⟩, _, _⟩ := id rd2
      have hd2 := drop_more hd1
      refine ⟨_, rfl, r, dx2, _, rfl, hr2, rfl, r, T, ")", _, rfl, rd2, (by rw [hd2, par_list.2.1, one_pre]; simp), fun H3 b3 rd3 => ?_⟩
      have el : i + 1 + l.length + (Str.ofString ")").length = i + (txT t).length := by rw [par_list.2.2.2, e9]; simp; omega
      rw [el] at rd3
      exact ⟨_, rfl, q v H3 ((b1.trans b2).trans b3) rd3 (rv.mono (But.tk hr2 b3))⟩
end
end K06
set_option Elab.async false
set_option linter.all false
set_option maxRecDepth 100000
set_option maxHeartbeats 4000000
namespace L2
open PySem
theorem blank_no : 32 ∉ abcS.cps.toList := by decide +kernel
theorem run_same : ∀ {k x rest s : List Nat}, (∀ c ∈ k, c ∈ abcS.cps.toList) → (∀ c ∈ x, c ∈ abcS.cps.toList) → WEnd rest → k ++ 32 :: s = x ++ rest → x = k
  | [], [], _, _, _, _, _, _ => rfl
  | [], d :: x, rest, s, _, hx, _, e => by
    have h : 32 = d := by simpa using congrArg List.head? e
    exact absurd (hx d List.mem_cons_self) (by rw [← h]; exact blank_no)
  | c :: k, [], rest, s, hk, _, hr, e => by
    have h : rest.head? = some c := by
      have := congrArg List.head? e
      simpa using this.symm
    exact absurd (hk c List.mem_cons_self) (hr c h)
  | c :: k, d :: x, rest, s, hk, hx, hr, e => by
    have h : c = d ∧ k ++ 32 :: s = x ++ rest := by simpa using e
    rw [h.1, run_same (fun a ha => hk a (List.mem_cons_of_mem _ ha)) (fun a ha => hx a (List.mem_cons_of_mem _ ha)) hr h.2]
def opens : List String := ["ask", "stop", "say", "if", "let"]
theorem open_tx : ∀ s ∈ opens, tx (s ++ " ") = tx s ++ [32] ∧ (∀ c ∈ tx s, c ∈ abcS.cps.toList) ∧ Str.ofString s ∈ kept11 := by decide +kernel
theorem str_of_list {x : Str} {l : List Nat} (h : x.cps.toList = l) : x = ⟨l.toArray⟩ := by cases x; simp at h ⊢; rw [← h]
theorem no_open_word {x : Str} (ok : WOk x) {rest : List Nat} (hr : WEnd rest) {s : String} (hs : s ∈ opens) : (tx (s ++ " ")).isPrefixOf (x.cps.toList ++ rest) = false := by
  obtain ⟨e1, e2, e3⟩ := open_tx s hs
  cases h : (tx (s ++ " ")).isPrefixOf (x.cps.toList ++ rest) with
  | false => rfl
  | true =>
    obtain ⟨r, hr2⟩ := List.isPrefixOf_iff_prefix.mp h
    rw [e1, List.append_assoc] at hr2
    have e4 := run_same e2 ok.ab hr hr2
    have e5 : x = Str.ofString s := by
      have a := str_of_list e4
      have b := str_of_list (x := Str.ofString s) rfl
      rw [a, b]
      rfl
    exact absurd (e5 ▸ e3) ok.kp
theorem open_head : ∀ s ∈ opens, ∃ c, (tx (s ++ " ")).head? = some c ∧ c ∈ abcS.cps.toList := by
  intro s hs
  simp only [opens, List.mem_cons, List.not_mem_nil, or_false] at hs
  rcases hs with rfl | rfl | rfl | rfl | rfl
  · exact ⟨97, by decide +kernel, by decide +kernel⟩
  · exact ⟨115, by decide +kernel, by decide +kernel⟩
  · exact ⟨115, by decide +kernel, by decide +kernel⟩
  · exact ⟨105, by decide +kernel, by decide +kernel⟩
  · exact ⟨108, by decide +kernel, by decide +kernel⟩
theorem no_open_head {l : List Nat} {d : Nat} (h : l.head? = some d) (hd : d ∉ abcS.cps.toList) {s : String} (hs : s ∈ opens) : (tx (s ++ " ")).isPrefixOf l = false := by
  obtain ⟨c, e, hc⟩ := open_head s hs
  cases h2 : (tx (s ++ " ")).isPrefixOf l with
  | false => rfl
  | true =>
    obtain ⟨r, hr⟩ := List.isPrefixOf_iff_prefix.mp h2
    rw [← hr, List.head?_append, e] at h
    cases h
    exact absurd hc hd
theorem fig_abc : ∀ c ∈ figS.cps.toList, c ∉ abcS.cps.toList := by decide +kernel
theorem marks_no : 63 ∉ abcS.cps.toList ∧ 40 ∉ abcS.cps.toList := by decide +kernel
theorem no_open_tree {a : Tr} (ok : TOk a) {rest : List Nat} (hr : SEnd rest) {s : String} (hs : s ∈ opens) : (tx (s ++ " ")).isPrefixOf (txT a ++ rest) = false := by
  obtain ⟨e1, e2, e3, e4, e5⟩ := tx_open
  cases a with
  | num n =>
    obtain ⟨c, hc, e⟩ := head_in (NOk.lo ok) rest
    exact no_open_head e (fig_abc c (NOk.fg ok c hc)) hs
  | name x => exact no_open_word ok (send_lend hr).1.1 hs
  | gap g as => exact no_open_head (d := 63) rfl marks_no.1 hs
  | ask x => exact no_open_head (d := 40) (by simp [txT, e1]) marks_no.2 hs
  | stop x => exact no_open_head (d := 40) (by simp [txT, e2]) marks_no.2 hs
  | say a => exact no_open_head (d := 40) (by simp [txT, e3]) marks_no.2 hs
  | bin o a b => exact no_open_head (d := 40) rfl marks_no.2 hs
  | ite a b c => exact no_open_head (d := 40) (by simp [txT, e4]) marks_no.2 hs
  | lett x a b => exact no_open_head (d := 40) (by simp [txT, e5]) marks_no.2 hs
def kwT : Tr → Option String
  | .ask _ => some "ask"
  | .stop _ => some "stop"
  | .say _ => some "say"
  | .ite _ _ _ => some "if"
  | .lett _ _ _ => some "let"
  | _ => none
theorem kw_apart : ∀ s ∈ opens, ∀ s' ∈ opens, (tx (s ++ " ")).isPrefixOf (tx (s' ++ " ")) = decide (s = s') := by decide +kernel
theorem kw_pre {s s' : String} (hs : s ∈ opens) (hs' : s' ∈ opens) (m : List Nat) : (tx (s ++ " ")).isPrefixOf (tx (s' ++ " ") ++ m) = decide (s' = s) := by
  by_cases c : s' = s
  · subst c
    rw [pre_app, decide_eq_true rfl]
  · rw [decide_eq_false c]
    cases h : (tx (s ++ " ")).isPrefixOf (tx (s' ++ " ") ++ m) with
    | false => rfl
    | true =>
      have h1 := List.isPrefixOf_iff_prefix.mp h
      have h2 : tx (s' ++ " ") <+: tx (s' ++ " ") ++ m := List.prefix_append _ _
      rcases Nat.le_total (tx (s ++ " ")).length (tx (s' ++ " ")).length with hl | hl
      · have h3 := List.isPrefixOf_iff_prefix.mpr (List.prefix_of_prefix_length_le h1 h2 hl)
        rw [kw_apart s hs s' hs'] at h3
        exact absurd (of_decide_eq_true h3).symm c
      · have h3 := List.isPrefixOf_iff_prefix.mpr (List.prefix_of_prefix_length_le h2 h1 hl)
        rw [kw_apart s' hs' s hs] at h3
        exact absurd (of_decide_eq_true h3) c
theorem pre_kw {t : Tr} {l : List Nat} (hb : brT t = some l) (ok : TOk t) (post : List Nat) {s : String} (hs : s ∈ opens) : (tx (s ++ " ")).isPrefixOf (l ++ 41 :: post) = decide (kwT t = some s) := by
  cases t <;> simp only [brT, Option.some.injEq, reduceCtorEq] at hb <;> subst hb <;> simp only [kwT, Option.some.injEq]
  case ask x => rw [List.append_assoc]; exact kw_pre (s' := "ask") hs (by decide) _
  case stop x => rw [List.append_assoc]; exact kw_pre (s' := "stop") hs (by decide) _
  case say a => rw [List.append_assoc]; exact kw_pre (s' := "say") hs (by decide) _
  case bin o a b =>
    rw [List.append_assoc, no_open_tree ok.1 ?_ hs]
    · simp
    · rw [List.append_assoc]
      exact send_tx (by cases o <;> decide +kernel) _
  case ite a b c => rw [List.append_assoc]; exact kw_pre (s' := "if") hs (by decide) _
  case lett x a b => rw [List.append_assoc]; exact kw_pre (s' := "let") hs (by decide) _
end L2
set_option Elab.async false
set_option linter.all false
set_option maxRecDepth 100000
set_option maxHeartbeats 4000000
namespace L2
open PySem
theorem same_place {T l m post : List Nat} {i j : Nat} (h1 : T.drop i = l ++ 41 :: post) (h2 : T.drop j = 41 :: post) : j = i + l.length := by
  have a := congrArg List.length h1
  have b := congrArg List.length h2
  rw [List.length_drop, List.length_append, List.length_cons] at a
  rw [List.length_drop, List.length_cons] at b
  omega
end L2
namespace K06
open PySem PySem.Spec L2 PyProof.Rows
abbrev s_bracket_from : Stmt := top 29
theorem sc_bracket_from : FnScope ["reader", "sign"] ["reader"] (defScope s_bracket_from) := ⟨rfl, rfl, rfl, by decide +kernel, rfl, by decide +kernel, by decide +kernel⟩
section
variable {P : Program} {w : World} {K : PySem.W.Frag} {mg : Str → Option Value} {base : Heap}
def sp_two (C : Addr) (n : Nat) : Sp := fun vs H Q _ => ∃ (r : Addr) (T : Str) (o : Bin) (a b : Tr) (i : Nat) (post : List Nat), vs = [.ref r] ∧ RdAt C H r T i ∧ T.cps.toList.drop i = txT a ++ (tx (bwT o) ++ (txT b ++ 41 :: post)) ∧ TOk a ∧ TOk b ∧ dpT a < n ∧ dpT b < n ∧
  ∀ (v : V) (H' : Hp) (j : Nat), But r H H' → RdAt C H' r T j → T.cps.toList.drop j = 41 :: post → Rep H' (.bin o a b) v → Q v H'
theorem ok_bracket {k n : Nat} {f C g1 g2 g3 g4 g5 g6 : Addr} {fd gd1 gd2 gd3 gd4 gd5 gd6 : FuncData} (F : Fun K "bracket_from" "bracket_from" s_bracket_from f fd) (T_Reader : TxtR K mg C) (G_Reader_skipped : FnM P w K mg base k C "skipped" g1 gd1 ["self", "piece"] (sp_skipped C))
    (G_word_from : FnB P w K mg base k "word_from" g2 gd2 ["reader"] (sp_word C)) (G_shape_from : FnB P w K mg base k "shape_from" g3 gd3 ["reader"] (sp_shape C n)) (G_if_from : FnB P w K mg base k "if_from" g4 gd4 ["reader"] (sp_if C n)) (G_let_from : FnB P w K mg base k "let_from" g5 gd5 ["reader"] (sp_let C n)) (G_two_from : FnB P w K mg base k "two_from" g6 gd6 ["reader"] (sp_two C n)) :
    FnOk P w K mg base CX0 (k + 1) f fd ["reader"] (sp_brk C (n + 1)) := by
  refine F.ok sc_bracket_from (fun vs H Q E h => ?_) (fun cdv A outer s H vs Q E hr h => ?_)
  · obtain ⟨r, T, t, l, i, post, rfl, _⟩ := h
    rfl
  obtain ⟨r, T, t, l, i, post, rfl, rd, hb, hd, ok, dn, q⟩ := h
  obtain ⟨⟨dx, hr0⟩, hi, hf⟩ := id rd
  refine ⟨_, (pss_cons (ps_for PassesOwn.never rfl (pi_tup (pe_tup (pa_cons pe_str (pa_cons pe_str pa_nil)) : PE _ _ _)) (pg_name (i := 1) sc_bracket_from.nd rfl (Or.inl rfl)) (pss_one (ps_if (pt_val (pe_meth (pv 0) T_Reader.cl G_Reader_skipped.mt G_Reader_skipped.ok hr G_Reader_skipped.bd .nil pass0 (pa_cons (pe_op op_add_str (pv 1) pe_str) pa_nil))) (pss_one (ps_ret (pe_tup (pa_cons (pv 1) (pa_cons (pe_call G_word_from.ok hr (by rfl) G_word_from.gl G_word_from.kp G_word_from.bd .nil pass0 (pa_cons (pv 0) pa_nil)) pa_nil)) : PE _ _ _))) pss_nil)))
    (pss_cons (ps_if (pt_val (pe_meth (pv 0) T_Reader.cl G_Reader_skipped.mt G_Reader_skipped.ok hr G_Reader_skipped.bd .nil pass0 (pa_cons pe_str pa_nil))) (pss_one (ps_ret (pe_tup (pa_cons pe_str (pa_cons (pe_call G_shape_from.ok hr (by rfl) G_shape_from.gl G_shape_from.kp G_shape_from.bd .nil pass0 (pa_cons (pv 0) pa_nil)) pa_nil)) : PE _ _ _))) pss_nil)
    (pss_cons (ps_if (pt_val (pe_meth (pv 0) T_Reader.cl G_Reader_skipped.mt G_Reader_skipped.ok hr G_Reader_skipped.bd .nil pass0 (pa_cons pe_str pa_nil))) (pss_one (ps_ret (pe_call G_if_from.ok hr (by rfl) G_if_from.gl G_if_from.kp G_if_from.bd .nil pass0 (pa_cons (pv 0) pa_nil)))) pss_nil)
    (pss_cons (ps_if (pt_val (pe_meth (pv 0) T_Reader.cl G_Reader_skipped.mt G_Reader_skipped.ok hr G_Reader_skipped.bd .nil pass0 (pa_cons pe_str pa_nil))) (pss_one (ps_ret (pe_call G_let_from.ok hr (by rfl) G_let_from.gl G_let_from.kp G_let_from.bd .nil pass0 (pa_cons (pv 0) pa_nil)))) pss_nil)
    (pss_one (ps_ret (pe_call G_two_from.ok hr (by rfl) G_two_from.gl G_two_from.kp G_two_from.bd .nil pass0 (pa_cons (pv 0) pa_nil)))))))), ?_⟩
  have pk : ∀ s ∈ opens, (tx (s ++ " ")).isPrefixOf (T.cps.toList.drop i) = decide (kwT t = some s) := fun s hs => by rw [hd]; exact pre_kw hb ok post hs
  refine ⟨(by show 2 ≤ sizeLine; decide), fun tp htp => ⟨tp, rfl, ⟨_, SqT.of upd_same⟩, ?_⟩⟩
  have s0 := same_upd (o := .tup [.str "ask", .str "stop"]) htp
  have b0 : But r H (upd H tp (.tup [.str "ask", .str "stop"])) := fun b o _ e => s0 _ _ e
  have rd0 : RdAt C (upd H tp (.tup [.str "ask", .str "stop"])) r T i := ⟨⟨dx, s0 _ _ hr0⟩, hi, hf⟩
  have et : (upd H tp (.tup [.str "ask", .str "stop"])) tp = some (.tup [.str "ask", .str "stop"]) := upd_same
  generalize upd H tp (.tup [.str "ask", .str "stop"]) = H0 at s0 b0 rd0 et ⊢
  have hr00 := s0 _ _ hr0
  refine for_tup (xs := [V.str "ask", V.str "stop"]) (fun j σ' H' => ∃ s1 : Option V, σ' = [some (.ref r), s1] ∧ H' = H0 ∧ (1 ≤ j → kwT t ≠ some "ask") ∧ (2 ≤ j → kwT t ≠ some "stop")) ⟨none, rfl, rfl, (by omega), (by omega)⟩ ?_ ?_ ?_
  · rintro j σ' H' _ ⟨s1, rfl, rfl, _⟩
    exact SqT.of et
  · rintro j x σ' H' hx ⟨s1, rfl, rfl, n1, n2⟩
    have hj : j < 2 := (List.getElem?_eq_some_iff.mp hx).1
    rcases (show j = 0 ∨ j = 1 by omega) with rfl | rfl
    · cases hx
      refine ⟨_, rfl, r, dx, _, rfl, hr00, rfl, _, rfl, _, _, rfl, rfl, line1000 (by decide +kernel), r, T, _, i, rfl, rd0, fun hq => ?_, fun hq H1 b1 rd1 => ?_⟩
      · have e : (Str.ofString "ask" ++ Str.ofString " ").cps.toList = tx ("ask" ++ " ") := by decide +kernel
        rw [e, pk "ask" (by decide)] at hq
        exact ⟨_, rfl, iteF ⟨_, rfl, rfl, fun _ => of_decide_eq_false hq, fun z => by omega⟩⟩
      · have e : (Str.ofString "ask" ++ Str.ofString " ").cps.toList = tx ("ask" ++ " ") := by decide +kernel
        rw [e, pk "ask" (by decide)] at hq
        have hk := of_decide_eq_true hq
        cases t <;> simp only [kwT, reduceCtorEq, Option.some.injEq, String.reduceEq] at hk
        rename_i x
        cases hb
        rw [List.append_assoc] at hd
        have hd1 := drop_more hd
        have e2 : (tx "ask ").length = (Str.ofString "ask" ++ Str.ofString " ").length := by decide +kernel
        rw [e2] at hd1
        have lx : x.cps.toList.length = x.length := Array.length_toList
        refine ⟨_, rfl, iteT ⟨_, rfl, _, rfl, r, T, x, _, _, rfl, rd1, hd1, ok, (end_of (.inr (.inr rfl))).1, fun H2 b2 rd2 => ⟨(by show 2 ≤ sizeLine; decide), fun p hp => ?_⟩⟩⟩
        have el : i + (Str.ofString "ask" ++ Str.ofString " ").length + x.length = i + (tx "ask " ++ x.cps.toList).length := by rw [List.length_append, lx, e2]; omega
        rw [el] at rd2
        obtain ⟨⟨dx2, hr2⟩, le2, _⟩ := id rd2
        have s3 := same_upd (o := .tup [.str "ask", .str x]) hp
        exact q _ _ (((b0.trans b1).trans b2).trans fun b o _ e => s3 _ _ e) ⟨⟨dx2, s3 _ _ hr2⟩, le2, hf⟩ ⟨p, rfl, upd_same⟩
    · cases hx
      refine ⟨_, rfl, r, dx, _, rfl, hr00, rfl, _, rfl, _, _, rfl, rfl, line1000 (by decide +kernel), r, T, _, i, rfl, rd0, fun hq => ?_, fun hq H1 b1 rd1 => ?_⟩
      · have e : (Str.ofString "stop" ++ Str.ofString " ").cps.toList = tx ("stop" ++ " ") := by decide +kernel
        rw [e, pk "stop" (by decide)] at hq
        exact ⟨_, rfl, iteF ⟨_, rfl, rfl, fun _ => n1 (by omega), fun _ => of_decide_eq_false hq⟩⟩
      · have e : (Str.ofString "stop" ++ Str.ofString " ").cps.toList = tx ("stop" ++ " ") := by decide +kernel
        rw [e, pk "stop" (by decide)] at hq
        have hk := of_decide_eq_true hq
        cases t <;> simp only [kwT, reduceCtorEq, Option.some.injEq, String.reduceEq] at hk
        rename_i x
        cases hb
        rw [List.append_assoc] at hd
        have hd1 := drop_more hd
        have e2 : (tx "stop ").length = (Str.ofString "stop" ++ Str.ofString " ").length := by decide +kernel
        rw [e2] at hd1
        have lx : x.cps.toList.length = x.length := Array.length_toList
        refine ⟨_, rfl, iteT ⟨_, rfl, _, rfl, r, T, x, _, _, rfl, rd1, hd1, ok, (end_of (.inr (.inr rfl))).1, fun H2 b2 rd2 => ⟨(by show 2 ≤ sizeLine; decide), fun p hp => ?_⟩⟩⟩
        have el : i + (Str.ofString "stop" ++ Str.ofString " ").length + x.length = i + (tx "stop " ++ x.cps.toList).length := by rw [List.length_append, lx, e2]; omega
        rw [el] at rd2
        obtain ⟨⟨dx2, hr2⟩, le2, _⟩ := id rd2
        have s3 := same_upd (o := .tup [.str "stop", .str x]) hp
        exact q _ _ (((b0.trans b1).trans b2).trans fun b o _ e => s3 _ _ e) ⟨⟨dx2, s3 _ _ hr2⟩, le2, hf⟩ ⟨p, rfl, upd_same⟩
  · rintro σ' H' ⟨s1, rfl, rfl, n1, n2⟩
    have k1 := n1 (by decide)
    have k2 := n2 (by decide)
    refine ⟨_, rfl, r, dx, _, rfl, hr00, rfl, r, T, "say ", i, rfl, rd0, fun hq => ?_, fun hq H1 b1 rd1 => ?_⟩
    · have k3 : kwT t ≠ some "say" := of_decide_eq_false (by rw [← pk "say" (by decide)]; exact hq)
      refine ⟨_, rfl, iteF ?_⟩
      refine ⟨_, rfl, r, dx, _, rfl, hr00, rfl, r, T, "if ", i, rfl, rd0, fun hq2 => ?_, fun hq2 H1 b1 rd1 => ?_⟩
      · have k4 : kwT t ≠ some "if" := of_decide_eq_false (by rw [← pk "if" (by decide)]; exact hq2)
        refine ⟨_, rfl, iteF ?_⟩
        refine ⟨_, rfl, r, dx, _, rfl, hr00, rfl, r, T, "let ", i, rfl, rd0, fun hq3 => ?_, fun hq3 H1 b1 rd1 => ?_⟩
        · have k5 : kwT t ≠ some "let" := of_decide_eq_false (by rw [← pk "let" (by decide)]; exact hq3)
          refine ⟨_, rfl, iteF ⟨_, rfl, ?_⟩⟩
          cases t <;> simp only [brT, reduceCtorEq, Option.some.injEq] at hb <;> (try exact absurd rfl k1) <;> (try exact absurd rfl k2) <;> (try exact absurd rfl k3) <;> (try exact absurd rfl k4) <;> (try exact absurd rfl k5)
          rename_i o a b
          subst hb
          have hd' : T.cps.toList.drop i = txT a ++ (tx (bwT o) ++ (txT b ++ 41 :: post)) := by rw [hd]; simp
          have dd : max (dpT a) (dpT b) + 1 < n + 1 := dn
          exact ⟨r, T, o, a, b, i, post, rfl, rd0, hd', ok.1, ok.2, by omega, by omega, fun v H2 j b2 rd2 hj rv => q v H2 (b0.trans b2) (by rw [← same_place (m := []) hd hj]; exact rd2) rv⟩
        · have hk := of_decide_eq_true (by rw [← pk "let" (by decide)]; exact hq3)
          cases t <;> simp only [kwT, reduceCtorEq, Option.some.injEq, String.reduceEq] at hk
          rename_i x a b
          cases hb
          have hd' : T.cps.toList.drop i = tx "let " ++ (x.cps.toList ++ (tx " = " ++ (txT a ++ (tx " in " ++ (txT b ++ 41 :: post))))) := by rw [hd]; simp
          have hd1 := drop_more hd'
          rw [tx_len] at hd1
          have dd : max (dpT a) (dpT b) + 1 < n + 1 := dn
          exact ⟨_, rfl, iteT ⟨_, rfl, r, T, x, a, b, _, post, rfl, rd1, hd1, ok.1, ok.2.1, ok.2.2, by omega, by omega, fun v H2 j b2 rd2 hj rv => q v H2 ((b0.trans b1).trans b2) (by rw [← same_place (m := []) hd hj]; exact rd2) rv⟩⟩
      · have hk := of_decide_eq_true (by rw [← pk "if" (by decide)]; exact hq2)
        cases t <;> simp only [kwT, reduceCtorEq, Option.some.injEq, String.reduceEq] at hk
        rename_i a b c
        cases hb
        have hd' : T.cps.toList.drop i = tx "if " ++ (txT a ++ (tx " then " ++ (txT b ++ (tx " else " ++ (txT c ++ 41 :: post))))) := by rw [hd]; simp
        have hd1 := drop_more hd'
        rw [tx_len] at hd1
        have dd : max (dpT a) (max (dpT b) (dpT c)) + 1 < n + 1 := dn
        exact ⟨_, rfl, iteT ⟨_, rfl, r, T, a, b, c, _, post, rfl, rd1, hd1, ok.1, ok.2.1, ok.2.2, by omega, by omega, by omega, fun v H2 j b2 rd2 hj rv => q v H2 ((b0.trans b1).trans b2) (by rw [← same_place (m := []) hd hj]; exact rd2) rv⟩⟩
    · have hk := of_decide_eq_true (by rw [← pk "say" (by decide)]; exact hq)
      cases t <;> simp only [kwT, reduceCtorEq, Option.some.injEq, String.reduceEq] at hk
      rename_i a
      cases hb
      rw [List.append_assoc] at hd
      have hd1 := drop_more hd
      rw [tx_len] at hd1
      have dd : dpT a + 1 < n + 1 := dn
      refine ⟨_, rfl, iteT ⟨_, rfl, r, T, a, _, _, rfl, rd1, hd1, ok, send_close _, by omega, fun v H2 b2 rd2 rv => ⟨(by show 2 ≤ sizeLine; decide), fun p hp => ?_⟩⟩⟩
      have el : i + (Str.ofString "say ").length + (txT a).length = i + (tx "say " ++ txT a).length := by rw [List.length_append, tx_len]; omega
      rw [el] at rd2
      obtain ⟨⟨dx2, hr2⟩, le2, _⟩ := id rd2
      have s3 := same_upd (o := .tup [.str "say", v]) hp
      exact q _ _ (((b0.trans b1).trans b2).trans fun b o _ e => s3 _ _ e) ⟨⟨dx2, s3 _ _ hr2⟩, le2, hf⟩ ⟨p, v, rfl, upd_same, rv.mono s3.tk⟩
end
end K06
set_option Elab.async false
set_option linter.all false
set_option maxRecDepth 100000
set_option maxHeartbeats 4000000
namespace L2
open PySem PySem.Spec PyProof.Rows
structure KDicW (K : PySem.W.Frag) (P : Params) (d : Addr) (ks : List Str) : Prop where
  ex : ∃ (es : Array DictEntry) (n : Nat), K.lookup d = some ⟨.type "dict", none, .dict es n, #[]⟩ ∧ PySem.W.KeysLit P es.toList ∧ Paired (fun (x : Str) (e : DictEntry) => ∃ t, e.key = .str x t) ks es.toList
  nd : ks.Nodup
  sy : (d == sysModules) = false
theorem KDicW.dic {K : PySem.W.Frag} {P : Params} {d : Addr} {ks : List Str} (h : KDicW K P d ks) : KDic K P d := by
  obtain ⟨es, n, h1, h2, _⟩ := h.ex
  exact ⟨⟨es, n, h1, h2⟩, h.sy⟩
theorem kw_pairs {P : Program} {w : World} : ∀ {ks : List Str} {l : List DictEntry}, Paired (fun (x : Str) (e : DictEntry) => ∃ t, e.key = .str x t) ks l → ∃ kvs : List (Str × Value), kvs.map (·.1) = ks ∧ PySem.Pairs (PySem.strKind P w) l kvs
  | _, _, .nil => ⟨[], rfl, .nil⟩
  | _, _, @Paired.cons _ _ _ a e _ _ ⟨t, h⟩ r => by
    obtain ⟨kvs, e1, e2⟩ := kw_pairs (P := P) (w := w) r
    exact ⟨(a, e.val) :: kvs, by rw [List.map_cons, e1], .cons (by rw [h]; exact PySem.strKind_is P w a t) rfl e2⟩
theorem kw_at {X : Cx} {pins : List (Addr × Obj)} {σ : L2.St} {H : Hp} {s : Shared} {d : Addr} {ks : List Str} {es : Array DictEntry} {n : Nat} (I : Inv X pins σ H s) (hl : X.K.lookup d = some ⟨.type "dict", none, .dict es n, #[]⟩) (hk : PySem.W.KeysLit X.w.params es.toList)
    (hp : Paired (fun (x : Str) (e : DictEntry) => ∃ t, e.key = .str x t) ks es.toList) (nd : ks.Nodup) : ∃ kvs : List (Str × Value), kvs.map (·.1) = ks ∧ s.heap.DictAt (PySem.strKind X.prog X.w) d kvs n := by
  obtain ⟨kvs, e1, e2⟩ := kw_pairs (P := X.prog) (w := X.w) hp
  refine ⟨kvs, e1, _, es, I.kIn _ _ hl, ⟨rfl, rfl, rfl⟩, rfl, fun e he => ?_, e2, by rw [e1]; exact nd⟩
  obtain ⟨x, t, h1, h2⟩ := hk.all e (Array.mem_toList_iff.mpr he)
  exact ⟨x, by rw [h1]; exact PySem.strKind_is X.prog X.w x t, h2⟩
def Itk (ks : List Str) : It := ⟨fun i _ => i < ks.length, fun i H x H' => H' = H ∧ ∃ p, ks[i]? = some p ∧ x = .str p, fun i _ => ks.length ≤ i⟩
theorem turn_dictK {P : Program} {w : World} {K : PySem.W.Frag} {tg : Expr} (d it : Addr) {ks : List Str} {es : Array DictEntry} {n : Nat} (hl : K.lookup d = some ⟨.type "dict", none, .dict es n, #[]⟩) (hk : PySem.W.KeysLit w.params es.toList)
    (hp : Paired (fun (x : Str) (e : DictEntry) => ∃ t, e.key = .str x t) ks es.toList) (nd : ks.Nodup) : Turn P w K tg (Itk ks) [it] it (fun i h => h.IsKeyIter it d i ks.length n) where
  mem := by simp
  obj := fun i h st b hb => by
    have e : b = it := by simpa using hb
    subst e
    obtain ⟨ob, e, c, d⟩ := st
    exact ⟨ob, e, fun v z => by rw [d] at z; cases z⟩
  keep := fun i h h' st k => by
    obtain ⟨ob, e, r⟩ := st
    exact ⟨ob, k it (by simp) ob e, r⟩
  item := by
    intro X hP hw hK hc i pins s σ H E I hf hit hg
    subst hP hw hK
    obtain ⟨kvs, ek, hm⟩ := kw_at I hl hk hp nd
    have hlen : ks.length = kvs.length := by rw [← ek, List.length_map]
    have hg' : i < ks.length := hg
    have hi : i < kvs.length := by omega
    have hv : kvs[i]? = some (kvs[i].1, kvs[i].2) := List.getElem?_eq_getElem hi
    have hks : ks[i]? = some kvs[i].1 := by rw [← ek, List.getElem?_map, hv]; rfl
    obtain ⟨f0, f1, f2, f3, f4, f5⟩ := hf it (by simp)
    rw [hlen] at hit
    refine wpAny_pyNext_dict_item hit hm hv fun key h' hk' hit' sb => ?_
    have I1 : Inv X pins σ H { s with heap := h' } := I.turned (t' := s.toks) (fun b o hb e => (sb.2 b hb).trans e) f0 f1 f3 f4 f5
    obtain ⟨ob, e, c, dd⟩ := id hit'
    rw [← hlen] at hit'
    obtain ⟨t, et⟩ := PySem.Value.isStrOf_shape hk'
    subst et
    exact ⟨_, rfl, go_of (s := { s with heap := h' }) e c dd (by decide) ⟨.str kvs[i].1, H, I1, ⟨t, rfl⟩, ⟨rfl, _, hks, rfl⟩, hit', fun b hb => (hf b hb).1⟩⟩
  done := by
    intro X hP hw hK hc i pins s σ H E I hf hit hg
    subst hP hw hK
    obtain ⟨kvs, ek, hm⟩ := kw_at I hl hk hp nd
    have hlen : ks.length = kvs.length := by rw [← ek, List.length_map]
    have hg' : ks.length ≤ i := hg
    obtain ⟨f0, f1, f2, f3, f4, f5⟩ := hf it (by simp)
    rw [hlen] at hit
    exact wpAny_pyNext_dict_end (I.ok.hd hc) hit hm (List.getElem?_eq_none (by omega)) fun h' eb => ⟨rfl, I.turned (t' := s.toks) (fun b o hb e => eb b o hb e) f0 f1 f3 f4 f5⟩
  self := fun A i s Q E hit h => by
    refine wpAny_pyIter_slot hit.typeIs F.slot_dict_keyiterator_iter (wpAny_call_entry F.slot_dict_keyiterator_iter hit.typeIs F.entry_dict_keyiterator_iter ?_ (F.args_dict_keyiterator_iter_1 _))
    show wpAny _ _ (ret (.ref it)) _ _ s
    exact wpAny_pure ⟨_, rfl, "dict_keyiterator", _, hit.typeIs, F.slot_dict_keyiterator_next.lookup, h⟩
def iDictK (d : Addr) (ks : List Str) (tl : TE) : TI := fun σ H R => tl σ H fun x H1 => x = .ref d ∧ R (Itk ks) H1
theorem pi_dictK {X : Cx} {tg l : Expr} {tl : TE} {d : Addr} {ks : List Str} (k : KDicW X.K X.w.params d ks) (hl : PE X l tl) : PI X tg l (iDictK d ks tl) := by
  intro pins s σ H R I h
  refine thn (hl pins s σ H _ I h) fun v s1 ⟨x, H1, I1, r1, q1⟩ => ?_
  obtain ⟨e, q⟩ := q1
  subst e
  cases r1
  obtain ⟨es, n, h1, h2, h3⟩ := k.ex
  obtain ⟨kvs, ek, hm⟩ := kw_at I1 h1 h2 h3 k.nd
  have hlen : ks.length = kvs.length := by rw [← ek, List.length_map]
  refine wpAny_pyIter_dict k.sy hm ?_
  refine ⟨s1.heap.objs.size, [s1.heap.objs.size], _, _, H1, rfl, I1.kept (t' := s1.toks) fun b o e => Heap.get?_push_of_some _ e, turn_dictK d _ h1 h2 h3 k.nd, ⟨_, Heap.get?_push_size _ rfl, rfl, by rw [hlen]; rfl⟩, fun b hb => ?_, q⟩
  have e : b = s1.heap.objs.size := by simpa using hb
  subst e
  exact I1.fpOk (Nat.le_refl _) (I1.hok.fresh (Nat.le_refl _))
theorem for_dictK {ks : List Str} {g : TG} {tb : TS} {D : Ends} {σ : L2.St} {H : Hp} (Pv : Nat → L2.St → Hp → Prop) (h0 : Pv 0 σ H)
    (hs : ∀ i p σ H, ks[i]? = some p → Pv i σ H → g (.str p) σ H fun σ2 H2 => tb { D with nx := Pv (i + 1), ct := Pv (i + 1), bk := D.nx } σ2 H2) (hd : ∀ σ H, Pv ks.length σ H → D.nx σ H) :
    ∃ W : Nat → Nat → L2.St → Hp → Prop, (∃ m, W 0 m σ H) ∧ ∀ i m σ H, W i m σ H →
      ((Itk ks).stop i H ∧ D.nx σ H) ∨ ((Itk ks).go i H ∧ ∃ N : L2.St → Hp → Prop, (∀ σ' H', N σ' H' → ∃ m', m' < m ∧ W (i + 1) m' σ' H') ∧ ∀ x H', (Itk ks).yld i H x H' → g x σ H' fun σ2 H2 => tb { D with nx := N, ct := N, bk := D.nx } σ2 H2) := by
  refine ⟨fun i m σ H => m = ks.length - i ∧ i ≤ ks.length ∧ Pv i σ H, ⟨ks.length, by simp, Nat.zero_le _, h0⟩, ?_⟩
  rintro i m σ H ⟨rfl, hi, p⟩
  by_cases hlt : i < ks.length
  · refine .inr ⟨hlt, Pv (i + 1), fun σ' H' p' => ⟨ks.length - (i + 1), by omega, rfl, hlt, p'⟩, fun x H' y => ?_⟩
    obtain ⟨e, p', hp', ex⟩ := y
    subst e ex
    exact hs i p' σ _ hp' p
  · have e : i = ks.length := by omega
    subst e
    exact .inl ⟨Nat.le_refl _, hd σ H p⟩
def tRevL (K : PySem.W.Frag) (te : TE) (tk : TO) : TE := fun σ H Q => te σ H fun x H1 => tk σ H1 fun k H2 => k = some (-1) ∧ ∃ a xs, x = .ref a ∧ SqL K H2 a xs ∧ ∀ p, H2 p = none → Q (.ref p) (upd H2 p (.lst xs.reverse))
theorem vals_rev : ∀ {xs : List V} {us : List Value}, Vals xs us → Vals xs.reverse us.reverse
  | _, _, .nil => .nil
  | _, _, .cons r t => by
    rw [List.reverse_cons, List.reverse_cons]
    exact (vals_rev t).append (.cons r .nil)
theorem pe_revL {X : Cx} {e st : Expr} {te : TE} {tk : TO} {p2 pos : Pos} (he : PE X e te) (hk : PO X (some st) tk) : PE X (.Subscript e (.Slice none none (some st) p2) pos) (tRevL X.K te tk) := by
  intro pins s σ H Q I h
  refine Subscript_ (thn (he pins s σ H _ I h) fun v s1 ⟨x, H1, I1, r1, q1⟩ => ?_)
  refine wpAny_Slice ?_
  rw [evalPart_none]
  refine wpAny_pure (wpAny_pure (thn (hk pins s1 σ H1 _ I1 q1) fun vk s3 ⟨k, H3, I3, pk, q3⟩ => ?_))
  obtain ⟨rfl, a, xs, rfl, hx, q⟩ := q3
  cases r1
  have I4 : Inv X pins σ H3 { s3 with heap := s3.heap.push { cls := .type "slice", data := .fields #[.none, .none, vk] } } := I3.kept (t' := s3.toks) fun b ob q => Heap.get?_push_of_some _ q
  obtain ⟨its, r, ht, hz⟩ := I4.list hx
  have hlen := r.length
  show wpAny (model X.prog X.w) X.A (subscriptTail e (.Slice none none (some st) p2) (.ref a) (.ref s3.heap.objs.size)) (EP X pins σ Q) X.xe { s3 with heap := s3.heap.push { cls := .type "slice", data := .fields #[.none, .none, vk] } }
  refine tail_any (ops := [.ref a, .ref s3.heap.objs.size]) ht.isList.typeIs slot_list_getitem.lookup ?_ (by with_unfolding_all rfl)
  refine wpAny_getItem_list_slice ht.isList (Heap.IsSliceOf.new ..) .none .none pk (by decide) ?_ (by rw [List.size_toArray] <;> omega)
  rw [PySem.W.krv_pick]
  refine ⟨.ref _, _, I4.laid (t' := s3.toks) (o := .lst xs.reverse) (fun b ob q => Heap.get?_push_of_some _ q) (Nat.le_refl _) ?_, rfl, q _ (I4.hok.fresh (Nat.le_refl _))⟩
  exact ⟨by rw [List.length_reverse]; exact hz, _, 0, vals_rev r, Heap.get?_push_size _ rfl⟩
theorem for_str {x : Str} {g : TG} {tb : TS} {D : Ends} {σ : L2.St} {H : Hp} (Pv : Nat → L2.St → Hp → Prop) (h0 : Pv 0 σ H)
    (hs : ∀ i c σ H, x.cps[i]? = some c → Pv i σ H → g (.str ⟨#[c]⟩) σ H fun σ2 H2 => tb { D with nx := Pv (i + 1), ct := Pv (i + 1), bk := D.nx } σ2 H2) (hd : ∀ σ H, Pv x.cps.size σ H → D.nx σ H) :
    ∃ W : Nat → Nat → L2.St → Hp → Prop, (∃ m, W 0 m σ H) ∧ ∀ i m σ H, W i m σ H →
      ((Its x).stop i H ∧ D.nx σ H) ∨ ((Its x).go i H ∧ ∃ N : L2.St → Hp → Prop, (∀ σ' H', N σ' H' → ∃ m', m' < m ∧ W (i + 1) m' σ' H') ∧ ∀ x' H', (Its x).yld i H x' H' → g x' σ H' fun σ2 H2 => tb { D with nx := N, ct := N, bk := D.nx } σ2 H2) := by
  refine ⟨fun i m σ H => m = x.cps.size - i ∧ i ≤ x.cps.size ∧ Pv i σ H, ⟨x.cps.size, by simp, Nat.zero_le _, h0⟩, ?_⟩
  rintro i m σ H ⟨rfl, hi, p⟩
  by_cases hlt : i < x.cps.size
  · refine .inr ⟨hlt, Pv (i + 1), fun σ' H' p' => ⟨x.cps.size - (i + 1), by omega, rfl, hlt, p'⟩, fun v H' y => ?_⟩
    obtain ⟨e, c, hc, ex⟩ := y
    subst e ex
    exact hs i c σ _ hc p
  · have e : i = x.cps.size := by omega
    subst e
    exact .inl ⟨Nat.le_refl _, hd σ H p⟩
end L2
set_option Elab.async false
set_option linter.all false
set_option maxRecDepth 100000
set_option maxHeartbeats 4000000
namespace L2
open PySem
def bins : List Bin := [.add, .sub, .mul, .thn]
def betw : List Str := ["add", "sub", "mul", "then"]
theorem betw_at {i : Nat} {p : Str} (h : betw[i]? = some p) : ∃ o, bins[i]? = some o ∧ p = o.s := by
  have hi : i < 4 := (List.getElem?_eq_some_iff.mp h).1
  rcases (show i = 0 ∨ i = 1 ∨ i = 2 ∨ i = 3 by omega) with rfl | rfl | rfl | rfl <;> (cases h; exact ⟨_, rfl, rfl⟩)
theorem bins_in (o : Bin) : ∃ i, i < 4 ∧ bins[i]? = some o := by
  cases o
  · exact ⟨0, by decide, rfl⟩
  · exact ⟨1, by decide, rfl⟩
  · exact ⟨2, by decide, rfl⟩
  · exact ⟨3, by decide, rfl⟩
theorem bw_lists : tx " + " = [32, 43, 32] ∧ tx " - " = [32, 45, 32] ∧ tx " * " = [32, 42, 32] ∧ tx " ; " = [32, 59, 32] := by decide +kernel
theorem bw_miss {o p : Bin} (h : o ≠ p) (m : List Nat) : (tx (bwT o)).isPrefixOf (tx (bwT p) ++ m) = false := by
  obtain ⟨e1, e2, e3, e4⟩ := bw_lists
  cases o <;> cases p <;> first | exact absurd rfl h | (simp only [bwT, e1, e2, e3, e4]; rfl)
def KBtw (K : PySem.W.Frag) (d : Addr) : Prop := ∀ o : Bin, ∃ t, PySem.W.nsIn K d o.s = some (some (.str (Str.ofString (bwT o)) t))
end L2
namespace K06
open PySem PySem.Spec L2 PyProof.Rows
abbrev s_two_from : Stmt := top 32
theorem sc_two_from : FnScope ["reader", "first", "sign"] ["reader"] (defScope s_two_from) := ⟨rfl, rfl, rfl, by decide +kernel, rfl, by decide +kernel, by decide +kernel⟩
section
variable {P : Program} {w : World} {K : PySem.W.Frag} {mg : Str → Option Value} {base : Heap}
theorem ok_two {k n : Nat} {f C bd g1 g2 : Addr} {fd gd1 gd2 : FuncData} (F : Fun K "two_from" "two_from" s_two_from f fd) (T_Reader : TxtR K mg C) (m_BETWEEN : mg "BETWEEN" = some (.ref bd)) (h_BETWEEN : KDicW K w.params bd betw) (hB : KBtw K bd)
    (G_Reader_skipped : FnM P w K mg base k C "skipped" g1 gd1 ["self", "piece"] (sp_skipped C)) (G_shape_from : FnB P w K mg base k "shape_from" g2 gd2 ["reader"] (sp_shape C n)) :
    FnOk P w K mg base CX0 (k + 1) f fd ["reader"] (sp_two C n) := by
  refine F.ok sc_two_from (fun vs H Q E h => ?_) (fun cdv A outer s H vs Q E hr h => ?_)
  · obtain ⟨r, T, o, a, b, i, post, rfl, _⟩ := h
    rfl
  obtain ⟨r, T, o, a, b, i, post, rfl, rd, hd, ka, kb, da, db, q⟩ := h
  refine ⟨_, (pss_cons (ps_set (i := 1) sc_two_from.nd rfl (Or.inl rfl) (pe_call G_shape_from.ok hr (by rfl) G_shape_from.gl G_shape_from.kp G_shape_from.bd .nil pass0 (pa_cons (pv 0) pa_nil)))
    (pss_cons (ps_for PassesOwn.never rfl (pi_dictK h_BETWEEN (pe_glob (v := .ref _) (by rfl) m_BETWEEN (by rfl))) (pg_name (i := 2) sc_two_from.nd rfl (Or.inl rfl)) (pss_one (ps_if (pt_val (pe_meth (pv 0) T_Reader.cl G_Reader_skipped.mt G_Reader_skipped.ok hr G_Reader_skipped.bd .nil pass0 (pa_cons (pe_ix (ix_kd h_BETWEEN.dic) (pe_glob (v := .ref _) (by rfl) m_BETWEEN (by rfl)) (pv 2) (fun _ _ => rfl)) pa_nil))) (pss_one (ps_ret (pe_tup (pa_cons (pv 2) (pa_cons (pv 1) (pa_cons (pe_call G_shape_from.ok hr (by rfl) G_shape_from.gl G_shape_from.kp G_shape_from.bd .nil pass0 (pa_cons (pv 0) pa_nil)) pa_nil))) : PE _ _ _))) pss_nil)))
    (pss_one ps_never))), ?_⟩
  refine ⟨_, rfl, r, T, a, i, _, rfl, rd, hd, ka, send_tx (by cases o <;> decide +kernel) _, da, fun va H1 b1 rd1 ra => ?_⟩
  have hd1 := drop_more hd
  obtain ⟨⟨dx1, hr1⟩, _, hf⟩ := id rd1
  refine ⟨rfl, ?_⟩
  refine for_dictK (ks := betw) (fun j σ' H' => ∃ s2 : Option V, σ' = [some (.ref r), some va, s2] ∧ H' = H1 ∧ ∀ j', j' < j → bins[j']? ≠ some o) ⟨none, rfl, rfl, fun j' h => absurd h (Nat.not_lt_zero _)⟩ ?_ ?_
  · rintro j p σ' H' hp ⟨s2, rfl, rfl, nb⟩
    obtain ⟨o', ho', rfl⟩ := betw_at hp
    obtain ⟨t, hB'⟩ := hB o'
    refine ⟨_, rfl, r, dx1, _, rfl, hr1, rfl, _, rfl, _, _, .str (Str.ofString (bwT o')), rfl, rfl, hB', ⟨_, rfl⟩, r, T, _, _, rfl, rd1, fun hq => ?_, fun hq H2 b2 rd2 => ?_⟩
    · refine ⟨_, rfl, iteF ⟨_, rfl, rfl, fun j' hj' => ?_⟩⟩
      rcases Nat.lt_or_ge j' j with h | h
      · exact nb j' h
      · have e : j' = j := by omega
        subst e
        rw [ho']
        intro z
        cases z
        rw [hd1] at hq
        exact absurd hq (by rw [show (Str.ofString (bwT o)).cps.toList = tx (bwT o) from rfl, pre_app]; decide)
    · have eo : o' = o := by
        refine Classical.byContradiction fun z => ?_
        rw [hd1] at hq
        exact absurd hq (by rw [show (Str.ofString (bwT o')).cps.toList = tx (bwT o') from rfl, bw_miss z]; decide)
      subst eo
      have hd2 := drop_more hd1
      rw [tx_len] at hd2
      obtain ⟨⟨dx2, hr2⟩, _, _⟩ := id rd2
      refine ⟨_, rfl, iteT ⟨_, rfl, _, rfl, _, rfl, r, T, b, _, _, rfl, rd2, hd2, kb, send_close _, db, fun vb H3 b3 rd3 rb => ⟨(by show 3 ≤ sizeLine; decide), fun p hp => ?_⟩⟩⟩
      have hd3 := drop_more hd2
      obtain ⟨⟨dx3, hr3⟩, le3, _⟩ := id rd3
      have s4 := same_upd (o := .tup [.str o'.s, va, vb]) hp
      have t3 := But.tk hr2 b3
      have t2 := But.tk hr1 b2
      exact q _ _ _ (((b1.trans b2).trans b3).trans fun b o _ e => s4 _ _ e) ⟨⟨dx3, s4 _ _ hr3⟩, le3, hf⟩ hd3 ⟨p, va, vb, rfl, upd_same, ra.mono (t2.trans (t3.trans s4.tk)), rb.mono s4.tk⟩
  · rintro σ' H' ⟨s2, rfl, rfl, nb⟩
    obtain ⟨j, hj, e⟩ := bins_in o
    exact absurd e (nb j hj)
end
end K06
set_option Elab.async false
set_option linter.all false
set_option maxRecDepth 100000
set_option maxHeartbeats 4000000
namespace K06
open PySem PySem.Spec L2 PyProof.Rows
section
variable {P : Program} {w : World} {K : PySem.W.Frag} {mg : Str → Option Value} {base : Heap}
theorem no_shape {k : Nat} {f C : Addr} {fd : FuncData} : FnOk P w K mg base CX0 k f fd ["reader"] (sp_shape C 0) := by
  have no : ∀ vs H Q E, ¬ sp_shape C 0 vs H Q E := fun vs H Q E h => by
    obtain ⟨r, T, t, i, post, _, _, _, _, _, h1, _⟩ := h
    omega
  exact ⟨fun vs H Q E h => absurd h (no vs H Q E), fun A outer s H args us vs Q E _ _ _ _ h => absurd h (no vs H Q E)⟩
theorem all_shape {k : Nat} {C f0 f1 f2 f3 f4 bd g1 g2 g3 g4 g5 : Addr} {fd0 fd1 fd2 fd3 fd4 gd1 gd2 gd3 gd4 gd5 : FuncData} (F0 : Fun K "shape_from" "shape_from" s_shape_from f0 fd0) (F1 : Fun K "bracket_from" "bracket_from" s_bracket_from f1 fd1) (F2 : Fun K "if_from" "if_from" s_if_from f2 fd2) (F3 : Fun K "let_from" "let_from" s_let_from f3 fd3) (F4 : Fun K "two_from" "two_from" s_two_from f4 fd4)
    (b0 : Binds K fd0 ["reader"] []) (b1 : Binds K fd1 ["reader"] []) (b2 : Binds K fd2 ["reader"] []) (b3 : Binds K fd3 ["reader"] []) (b4 : Binds K fd4 ["reader"] []) (m0 : mg "shape_from" = some (.ref f0)) (m1 : mg "bracket_from" = some (.ref f1)) (m2 : mg "if_from" = some (.ref f2)) (m3 : mg "let_from" = some (.ref f3)) (m4 : mg "two_from" = some (.ref f4))
    (T_Reader : TxtR K mg C) (m_BETWEEN : mg "BETWEEN" = some (.ref bd)) (h_BETWEEN : KDicW K w.params bd betw) (hB : KBtw K bd)
    (G1 : FnM P w K mg base k C "skipped" g1 gd1 ["self", "piece"] (sp_skipped C)) (G2 : FnM P w K mg base k C "skip" g2 gd2 ["self", "piece"] (sp_skip C)) (G3 : FnB P w K mg base k "word_from" g3 gd3 ["reader"] (sp_word C)) (G4 : FnB P w K mg base k "atoms_from" g4 gd4 ["reader"] (sp_atoms C)) (G5 : FnB P w K mg base k "plain_leaf_from" g5 gd5 ["reader"] (sp_pleaf C)) :
    ∀ n : Nat, FnB P w K mg base (k + 3 * n) "shape_from" f0 fd0 ["reader"] (sp_shape C n)
  | 0 => ⟨no_shape, b0, F0.kp, m0⟩
  | n + 1 => by
    have S := all_shape F0 F1 F2 F3 F4 b0 b1 b2 b3 b4 m0 m1 m2 m3 m4 T_Reader m_BETWEEN h_BETWEEN hB G1 G2 G3 G4 G5 n
    have l0 : k ≤ k + 3 * n := Nat.le_add_right _ _
    have l1 : k ≤ k + 3 * n + 1 := Nat.le_trans l0 (Nat.le_add_right _ _)
    have l2 : k ≤ k + 3 * n + 1 + 1 := Nat.le_trans l1 (Nat.le_add_right _ _)
    have I : FnB P w K mg base (k + 3 * n + 1) "if_from" f2 fd2 ["reader"] (sp_if C n) := ⟨ok_if F2 T_Reader (G2.up l0) S, b2, F2.kp, m2⟩
    have L : FnB P w K mg base (k + 3 * n + 1) "let_from" f3 fd3 ["reader"] (sp_let C n) := ⟨ok_let F3 T_Reader (G2.up l0) S (G3.up l0), b3, F3.kp, m3⟩
    have W : FnB P w K mg base (k + 3 * n + 1) "two_from" f4 fd4 ["reader"] (sp_two C n) := ⟨ok_two F4 T_Reader m_BETWEEN h_BETWEEN hB (G1.up l0) S, b4, F4.kp, m4⟩
    have B : FnB P w K mg base (k + 3 * n + 1 + 1) "bracket_from" f1 fd1 ["reader"] (sp_brk C (n + 1)) := ⟨ok_bracket F1 T_Reader (G1.up l1) (G3.up l1) (S.up (Nat.le_add_right _ _)) I L W, b1, F1.kp, m1⟩
    exact ⟨ok_shape F0 T_Reader (G1.up l2) (G2.up l2) B (G3.up l2) (G4.up l2) (G5.up l2), b0, F0.kp, m0⟩
end
end K06
set_option Elab.async false
set_option linter.all false
set_option maxRecDepth 100000
set_option maxHeartbeats 4000000
namespace L2
open PySem
def moS (p : Nat × Nat) (c : Nat) : Nat × Nat := if c = 40 then (max p.1 (p.2 + 1), p.2 + 1) else if c = 41 then (max p.1 (p.2 - 1), p.2 - 1) else (max p.1 p.2, p.2)
def Bal (l : List Nat) (d : Nat) : Prop := ∀ m c, ∃ m', l.foldl moS (m, c) = (m', c) ∧ m' ≤ max m (c + d)
theorem Bal.app {l l' : List Nat} {d : Nat} (h : Bal l d) (h' : Bal l' d) : Bal (l ++ l') d := fun m c => by
  obtain ⟨m1, e1, b1⟩ := h m c
  obtain ⟨m2, e2, b2⟩ := h' m1 c
  exact ⟨m2, by rw [List.foldl_append, e1, e2], by omega⟩
theorem Bal.up {l : List Nat} {d d' : Nat} (h : Bal l d) (hd : d ≤ d') : Bal l d' := fun m c => by
  obtain ⟨m1, e1, b1⟩ := h m c
  exact ⟨m1, e1, by omega⟩
theorem Bal.plain : ∀ {l : List Nat}, (∀ c ∈ l, c ≠ 40 ∧ c ≠ 41) → ∀ {d : Nat}, Bal l d
  | [], _, d => fun m c => ⟨m, rfl, by omega⟩
  | x :: l, h, d => fun m c => by
    obtain ⟨h1, h2⟩ := h x List.mem_cons_self
    obtain ⟨m', e, b⟩ := Bal.plain (l := l) (fun c hc => h c (List.mem_cons_of_mem _ hc)) (d := d) (max m c) c
    refine ⟨m', ?_, by omega⟩
    rw [List.foldl_cons]
    unfold moS
    rw [if_neg h1, if_neg h2]
    exact e
theorem Bal.wrap {l : List Nat} {d : Nat} (h : Bal l d) : Bal (40 :: (l ++ [41])) (d + 1) := fun m c => by
  obtain ⟨m1, e1, b1⟩ := h (max m (c + 1)) (c + 1)
  refine ⟨max m1 c, ?_, by omega⟩
  rw [List.foldl_cons, List.foldl_append]
  have e0 : moS (m, c) 40 = (max m (c + 1), c + 1) := rfl
  rw [e0, e1]
  rfl
def opT : Tr → Nat
  | .ask _ => 1
  | .stop _ => 1
  | .say a => opT a + 1
  | .bin _ a b => max (opT a) (opT b) + 1
  | .ite a b c => max (opT a) (max (opT b) (opT c)) + 1
  | .lett _ a b => max (opT a) (opT b) + 1
  | _ => 0
theorem abc_bal : ∀ c ∈ abcS.cps.toList, c ≠ 40 ∧ c ≠ 41 := by decide +kernel
theorem fig_bal : ∀ c ∈ figS.cps.toList, c ≠ 40 ∧ c ≠ 41 := by decide +kernel
theorem tx_bal : ∀ s ∈ ["ask ", "stop ", "say ", "if ", " then ", " else ", "let ", " = ", " in ", " + ", " - ", " * ", " ; "], ∀ c ∈ tx s, c ≠ 40 ∧ c ≠ 41 := by decide +kernel
theorem WOk.bal {x : Str} (h : WOk x) {d : Nat} : Bal x.cps.toList d := Bal.plain fun c hc => abc_bal c (h.ab c hc)
theorem NOk.bal {x : Str} {n : Int} (h : NOk x n) {d : Nat} : Bal x.cps.toList d := Bal.plain fun c hc => fig_bal c (h.fg c hc)
theorem one_bal {c d : Nat} (h : c ≠ 40 ∧ c ≠ 41) : Bal [c] d := Bal.plain fun x hx => by rw [List.mem_singleton.mp hx]; exact h
theorem Bal.cons {c d : Nat} {l : List Nat} (h : c ≠ 40 ∧ c ≠ 41) (hl : Bal l d) : Bal (c :: l) d := (one_bal h).app hl
theorem txb {s : String} (h : s ∈ ["ask ", "stop ", "say ", "if ", " then ", " else ", "let ", " = ", " in ", " + ", " - ", " * ", " ; "]) {d : Nat} : Bal (tx s) d := Bal.plain (tx_bal s h)
theorem AOk.bal {a : Atom} (h : AOk a) {d : Nat} : Bal (txA a) d := by
  cases a with
  | name x => exact WOk.bal h
  | num n => exact NOk.bal h
  | gap g => exact Bal.cons (by decide) (WOk.bal h)
theorem more_bal : ∀ {as : List Atom}, (∀ a ∈ as, AOk a) → ∀ {d : Nat}, Bal (moreA as) d
  | [], _, d => Bal.plain fun c hc => by cases hc
  | a :: as, h, d => by
    show Bal (32 :: txA a ++ moreA as) d
    exact (Bal.cons (by decide) (AOk.bal (h a List.mem_cons_self))).app (more_bal fun x hx => h x (List.mem_cons_of_mem _ hx))
theorem atoms_bal {as : List Atom} (h : ∀ a ∈ as, AOk a) {d : Nat} : Bal (txAs as) d := by
  cases as with
  | nil => exact Bal.plain fun c hc => by cases hc
  | cons a as => exact Bal.cons (by decide) ((AOk.bal (h a List.mem_cons_self)).app ((more_bal fun x hx => h x (List.mem_cons_of_mem _ hx)).app (one_bal (by decide))))
theorem tree_bal : ∀ {t : Tr}, TOk t → Bal (txT t) (opT t)
  | .num n, h => NOk.bal h
  | .name x, h => WOk.bal h
  | .gap g as, h => Bal.cons (by decide) ((WOk.bal h.1).app (atoms_bal h.2.1))
  | .ask x, h => by rw [br_txt rfl]; exact Bal.wrap ((txb (by decide)).app (WOk.bal h))
  | .stop x, h => by rw [br_txt rfl]; exact Bal.wrap ((txb (by decide)).app (WOk.bal h))
  | .say a, h => by rw [br_txt rfl]; exact Bal.wrap ((txb (by decide)).app (tree_bal (t := a) h))
  | .bin o a b, h => by
    rw [br_txt rfl]
    exact Bal.wrap (((tree_bal h.1).up (Nat.le_max_left _ _)).app ((txb (by cases o <;> decide)).app ((tree_bal h.2).up (Nat.le_max_right _ _))))
  | .ite a b c, h => by
    rw [br_txt rfl]
    exact Bal.wrap ((txb (by decide)).app (((tree_bal h.1).up (by omega)).app ((txb (by decide)).app (((tree_bal h.2.1).up (by omega)).app ((txb (by decide)).app ((tree_bal h.2.2).up (by omega)))))))
  | .lett x a b, h => by
    rw [br_txt rfl]
    exact Bal.wrap ((txb (by decide)).app ((WOk.bal h.1).app ((txb (by decide)).app (((tree_bal h.2.1).up (by omega)).app ((txb (by decide)).app ((tree_bal h.2.2).up (by omega)))))))
theorem par_eq {c : Nat} : (V.str ⟨#[c]⟩ = V.str "(" ↔ c = 40) ∧ (V.str ⟨#[c]⟩ = V.str ")" ↔ c = 41) := by
  have e1 : (Str.ofString "(") = ⟨#[40]⟩ := by decide +kernel
  have e2 : (Str.ofString ")") = ⟨#[41]⟩ := by decide +kernel
  constructor
  · constructor
    · intro h; injection h with h; rw [e1] at h; injection h with h; simpa using h
    · intro h; rw [h]; exact congrArg V.str e1.symm
  · constructor
    · intro h; injection h with h; rw [e2] at h; injection h with h; simpa using h
    · intro h; rw [h]; exact congrArg V.str e2.symm
theorem max_nat (a b : Nat) : (if (b : Int) > (a : Int) then (b : Int) else (a : Int)) = ((max a b : Nat) : Int) := by split <;> omega
theorem max_pred (a : Nat) : (if (0 : Int) > (a : Int) - 1 then (0 : Int) else (a : Int) - 1) = ((a - 1 : Nat) : Int) := by split <;> omega
end L2
namespace K06
open PySem PySem.Spec L2 PyProof.Rows
abbrev s_most_open : Stmt := top 21
theorem sc_most_open : FnScope ["text", "most", "count", "sign"] ["text"] (defScope s_most_open) := ⟨rfl, rfl, rfl, by decide +kernel, rfl, by decide +kernel, by decide +kernel⟩
abbrev s_begun : Stmt := top 22
theorem sc_begun : FnScope ["text"] ["text"] (defScope s_begun) := ⟨rfl, rfl, rfl, by decide +kernel, rfl, by decide +kernel, by decide +kernel⟩
abbrev s_read : Stmt := top 33
theorem sc_read : FnScope ["text", "reader", "tree"] ["text"] (defScope s_read) := ⟨rfl, rfl, rfl, by decide +kernel, rfl, by decide +kernel, by decide +kernel⟩
section
variable {P : Program} {w : World} {K : PySem.W.Frag} {mg : Str → Option Value} {base : Heap}
def sp_most : Sp := fun vs H Q _ => ∃ (T : Str) (d : Nat), vs = [.str T] ∧ Bal T.cps.toList d ∧ ∀ m : Nat, m ≤ d → Q (.int (m : Int)) H
theorem ok_most {k : Nat} {f : Addr} {fd : FuncData} (F : Fun K "most_open" "most_open" s_most_open f fd) (z_max : mg "max" = none) : FnOk P w K mg base CX0 (k + 1) f fd ["text"] sp_most := by
  refine F.ok sc_most_open (fun vs H Q E h => ?_) (fun cdv A outer s H vs Q E hr h => ?_)
  · obtain ⟨T, d, rfl, _⟩ := h
    rfl
  obtain ⟨T, d, rfl, bal, q⟩ := h
  refine ⟨_, (pss_cons (ps_set (i := 1) sc_most_open.nd rfl (Or.inl rfl) pe_int)
    (pss_cons (ps_set (i := 2) sc_most_open.nd rfl (Or.inl rfl) pe_int)
    (pss_cons (ps_for PassesOwn.never rfl (pi_str (pv 0)) (pg_name (i := 3) sc_most_open.nd rfl (Or.inl rfl)) (pss_cons (ps_if (pt_cmpR op_eq (pv 3) pe_str (nomark _)) (pss_one (ps_aug (i := 2) sc_most_open.nd rfl (Or.inl rfl) pe_int ip_add)) (pss_one (ps_if (pt_cmpR op_eq (pv 3) pe_str (nomark _)) (pss_one (ps_set (i := 2) sc_most_open.nd rfl (Or.inl rfl) (pe_callB (call_max2 rfl) (by rfl) z_max PyProof.Rows.boot_max (pa_cons (pe_op op_sub (pv 2) pe_int) (pa_cons pe_int pa_nil))))) pss_nil)))
    (pss_one (ps_set (i := 1) sc_most_open.nd rfl (Or.inl rfl) (pe_callB (call_max2 rfl) (by rfl) z_max PyProof.Rows.boot_max (pa_cons (pv 1) (pa_cons (pv 2) pa_nil)))))))
    (pss_one (ps_ret (pv 1)))))), ?_⟩
  refine ⟨_, rfl, _, rfl, ?_⟩
  refine for_str (x := T) (fun i σ' H' => ∃ s3 : Option V, σ' = [some (.str T), some (.int (((T.cps.toList.take i).foldl moS (0, 0)).1 : Int)), some (.int (((T.cps.toList.take i).foldl moS (0, 0)).2 : Int)), s3] ∧ H' = H) ⟨none, rfl, rfl⟩ ?_ ?_
  · rintro i c σ' H' hc ⟨s3, rfl, rfl⟩
    have hc' : T.cps.toList[i]? = some c := by rw [Array.getElem?_toList]; exact hc
    have en : (T.cps.toList.take (i + 1)).foldl moS (0, 0) = moS ((T.cps.toList.take i).foldl moS (0, 0)) c := by
      rw [take_next hc', List.foldl_append]
      rfl
    generalize (T.cps.toList.take i).foldl moS (0, 0) = p at en ⊢
    rw [en]
    refine ⟨_, rfl, rfl, _, rfl, ite2 (fun z => ?_) (fun z => ?_)⟩
    · have e : c = 40 := par_eq.1.mp (of_decide_eq_true z)
      have e2 : moS p c = (max p.1 (p.2 + 1), p.2 + 1) := by rw [e]; rfl
      refine ⟨_, rfl, _, _, rfl, rfl, _, rfl, _, rfl, _, _, rfl, some (.str ⟨#[c]⟩), ?_, rfl⟩
      rw [e2]
      have := max_nat p.1 (p.2 + 1)
      rw [show ((p.2 + 1 : Nat) : Int) = (p.2 : Int) + 1 from rfl] at this ⊢
      rw [this]
      rfl
    · have n1 : c ≠ 40 := fun h => z (decide_eq_true (par_eq.1.mpr h))
      refine ⟨_, rfl, rfl, _, rfl, ite2 (fun z2 => ?_) (fun z2 => ?_)⟩
      · have e : c = 41 := par_eq.2.mp (of_decide_eq_true z2)
        have e2 : moS p c = (max p.1 (p.2 - 1), p.2 - 1) := by rw [e]; rfl
        refine ⟨_, rfl, _, _, rfl, rfl, _, _, rfl, _, rfl, _, rfl, _, _, rfl, some (.str ⟨#[c]⟩), ?_, rfl⟩
        rw [e2]
        dsimp only
        rw [max_pred, max_nat]
        rfl
      · have n2 : c ≠ 41 := fun h => z2 (decide_eq_true (par_eq.2.mpr h))
        have e2 : moS p c = (max p.1 p.2, p.2) := by unfold moS; rw [if_neg n1, if_neg n2]
        refine ⟨_, rfl, _, rfl, _, _, rfl, some (.str ⟨#[c]⟩), ?_, rfl⟩
        rw [e2, max_nat]
        rfl
  · rintro σ' H' ⟨s3, rfl, rfl⟩
    obtain ⟨m', e, b⟩ := bal 0 0
    have et : T.cps.toList.take T.cps.size = T.cps.toList := List.take_of_length_le (by rw [Array.length_toList]; exact Nat.le_refl _)
    rw [et, e]
    exact ⟨_, rfl, q m' (by omega)⟩
def sp_begun (C : Addr) : Sp := fun vs H Q _ => ∃ (T : Str), vs = [.str T] ∧ T.length ≤ 2000 ∧ Bal T.cps.toList 16 ∧ ∀ (r : Addr) (H' : Hp), Same H H' → H r = none → RdAt C H' r T 0 → Q (.ref r) H'
theorem ok_begun {k : Nat} {f C g1 g2 : Addr} {fd gd1 gd2 : FuncData} {tk tk2 : Tok} (F : Fun K "begun" "begun" s_begun f fd) (z_len : mg "len" = none) (m_MOST_SIGNS : mg "MOST_SIGNS" = some (.int 2000 tk)) (m_MOST_OPEN : mg "MOST_OPEN" = some (.int 16 tk2)) (T_Reader : TxtR K mg C) (MK_Reader : Mk K C g2)
    (G_most_open : FnB P w K mg base (k + 1) "most_open" g1 gd1 ["text"] sp_most) (G_Reader___init__ : FnM P w K mg base k C "__init__" g2 gd2 ["self", "text"] (sp_init C)) : FnOk P w K mg base CX0 (k + 1 + 1) f fd ["text"] (sp_begun C) := by
  refine F.ok sc_begun (fun vs H Q E h => ?_) (fun cdv A outer s H vs Q E hr h => ?_)
  · obtain ⟨T, rfl, _⟩ := h
    rfl
  obtain ⟨T, rfl, hT, bal, q⟩ := h
  refine ⟨_, (pss_cons (ps_if (pt_cmpR op_gt (pe_callB call_len_str (by rfl) z_len PySem.boot_len (pa_cons (pv 0) pa_nil)) (pe_glob (v := .int 2000) (by rfl) m_MOST_SIGNS ⟨_, rfl⟩) (nomark _)) (pss_one ps_never) pss_nil)
    (pss_cons (ps_if (pt_cmpR op_gt (pe_call G_most_open.ok hr (by rfl) G_most_open.gl G_most_open.kp G_most_open.bd .nil pass0 (pa_cons (pv 0) pa_nil)) (pe_glob (v := .int 16) (by rfl) m_MOST_OPEN ⟨_, rfl⟩) (nomark _)) (pss_one ps_never) pss_nil)
    (pss_one (ps_ret (pe_make MK_Reader G_Reader___init__.ok hr (by rfl) T_Reader.mgC G_Reader___init__.bd .nil pass0 (pa_cons (pv 0) pa_nil)))))), ?_⟩
  refine ⟨_, rfl, T, rfl, Nat.le_of_lt (small1000' (by omega)), _, _, rfl, rfl, _, rfl, ite2 (fun c => ?_) (fun _ => ?_)⟩
  · exact absurd (of_decide_eq_true c) (by omega)
  refine ⟨_, rfl, T, 16, rfl, bal, fun m hm => ⟨_, _, rfl, rfl, _, rfl, ite2 (fun c => ?_) (fun _ => ?_)⟩⟩
  · exact absurd (of_decide_eq_true c) (by omega)
  refine ⟨_, rfl, ?_⟩
  intro x dx nx ndx nex
  refine ⟨x, dx, T, rfl, upd_same, by omega, fun H1 b1 rd1 => ⟨rfl, ?_⟩⟩
  refine q x H1 (fun b o e => ?_) nx rd1
  have nb : b ≠ x := ne_of_none e nx
  have nd : b ≠ dx := ne_of_none e ndx
  exact b1 b o nb (by rw [upd_ne nb, upd_ne nd]; exact e)
def sp_read (n : Nat) : Sp := fun vs H Q _ => ∃ (T : Str) (t : Tr), vs = [.str T] ∧ T.cps.toList = txT t ∧ TOk t ∧ T.length ≤ 2000 ∧ opT t ≤ 16 ∧ dpT t < n ∧ ∀ (v : V) (H' : Hp), Same H H' → Rep H' t v → Q v H'
theorem ok_read {k n : Nat} {f C g1 g2 g3 : Addr} {fd gd1 gd2 gd3 : FuncData} (F : Fun K "read" "read" s_read f fd) (T_Reader : TxtR K mg C) (G_begun : FnB P w K mg base k "begun" g1 gd1 ["text"] (sp_begun C)) (G_shape_from : FnB P w K mg base k "shape_from" g2 gd2 ["reader"] (sp_shape C n))
    (G_Reader_skip_end : FnM P w K mg base k C "skip_end" g3 gd3 ["self"] (sp_skip_end C)) : FnOk P w K mg base CX0 (k + 1) f fd ["text"] (sp_read n) := by
  refine F.ok sc_read (fun vs H Q E h => ?_) (fun cdv A outer s H vs Q E hr h => ?_)
  · obtain ⟨T, t, rfl, _⟩ := h
    rfl
  obtain ⟨T, t, rfl, hT, ok, hl, ho, hn, q⟩ := h
  refine ⟨_, (pss_cons (ps_set (i := 1) sc_read.nd rfl (Or.inl rfl) (pe_call G_begun.ok hr (by rfl) G_begun.gl G_begun.kp G_begun.bd .nil pass0 (pa_cons (pv 0) pa_nil)))
    (pss_cons (ps_set (i := 2) sc_read.nd rfl (Or.inl rfl) (pe_call G_shape_from.ok hr (by rfl) G_shape_from.gl G_shape_from.kp G_shape_from.bd .nil pass0 (pa_cons (pv 1) pa_nil)))
    (pss_cons (ps_expr (pe_meth0 (pv 1) T_Reader.cl G_Reader_skip_end.mt G_Reader_skip_end.ok hr G_Reader_skip_end.bd .nil pass0))
    (pss_one (ps_ret (pv 2)))))), ?_⟩
  have lT : T.cps.toList.length = T.length := Array.length_toList
  refine ⟨_, rfl, T, rfl, hl, by rw [hT]; exact (tree_bal ok).up ho, fun r H1 g1 nr rd1 => ?_⟩
  refine ⟨_, rfl, r, T, t, 0, [], rfl, rd1, by rw [List.drop_zero, List.append_nil, hT], ok, (fun c hc => by cases hc), hn, fun v H2 b2 rd2 rv => ?_⟩
  rw [Nat.zero_add, ← hT, lT] at rd2
  obtain ⟨⟨dx2, hr2⟩, _, _⟩ := id rd2
  refine ⟨_, rfl, r, dx2, _, rfl, hr2, rfl, r, T, rfl, rd2, ?_⟩
  exact ⟨_, rfl, q v H2 (fun b o e => b2 b o (ne_of_none e nr) (g1 b o e)) rv⟩
end
end K06
set_option Elab.async false
set_option linter.all false
set_option maxRecDepth 100000
set_option maxHeartbeats 4000000
namespace L2
open PySem
theorem dig_split {m : Nat} (h : 10 ≤ m) : Nat.toDigits 10 m = Nat.toDigits 10 (m / 10) ++ [Nat.digitChar (m % 10)] := by
  have hm : m % 10 < 10 := Nat.mod_lt m (by decide)
  have t : Nat.toDigits 10 (m / 10) ++ Nat.toDigits 10 (m % 10) = Nat.toDigits 10 (10 * (m / 10) + m % 10) := Nat.toDigits_append_toDigits (by decide) (by omega) hm
  rw [Nat.div_add_mod, Nat.toDigits_of_lt_base hm] at t
  exact t.symm
theorem dig_len : ∀ (k m : Nat), m < 10 ^ (k + 1) → (Nat.toDigits 10 m).length ≤ k + 1
  | 0, m, h => by
    rw [Nat.toDigits_of_lt_base (by simpa using h)]
    exact Nat.le_refl _
  | k + 1, m, h => by
    by_cases c : m < 10
    · rw [Nat.toDigits_of_lt_base c]
      simp
    · rw [dig_split (by omega), List.length_append]
      have := dig_len k (m / 10) (by rw [Nat.pow_succ] at h; omega)
      simp only [List.length_singleton]
      omega
theorem dig_char : ∀ d : Nat, d < 10 → 1 ≤ d → (Nat.digitChar d).toNat ≠ 48 := by decide
theorem dig_head (m : Nat) (h : 1 ≤ m) : ((Nat.toDigits 10 m).map Char.toNat).head? ≠ some 48 := by
  induction m using Nat.strongRecOn with
  | _ m ih =>
    by_cases c : m < 10
    · rw [Nat.toDigits_of_lt_base c]
      intro z
      have z' : (Nat.digitChar m).toNat = 48 := by simpa using z
      exact dig_char m c h z'
    · rw [dig_split (by omega), List.map_append, List.head?_append]
      have e := ih (m / 10) (by omega) (by omega)
      have hl := PySem.toDigits_len_ge 10 (m / 10)
      cases hx : (Nat.toDigits 10 (m / 10)).map Char.toNat with
      | nil =>
        rw [List.map_eq_nil_iff.mp hx] at hl
        exact absurd hl (by decide)
      | cons a l =>
        rw [hx] at e
        simpa using e
theorem fig_mem : ∀ c : Nat, 48 ≤ c → c ≤ 57 → c ∈ figS.cps.toList := by
  intro c h1 h2
  have k : ∀ i : Nat, i < 10 → (48 + i) ∈ figS.cps.toList := by decide +kernel
  have := k (c - 48) (by omega)
  rwa [show 48 + (c - 48) = c by omega] at this
theorem abits {n : Int} (h0 : 0 ≤ n) (h1 : n < 10 ^ 30) : n.natAbs.log2 < 1920 := by
  rcases Nat.eq_zero_or_pos n.natAbs with z | p
  · rw [z]; decide
  · rw [Nat.log2_lt (Nat.ne_of_gt p)]
    have : n.natAbs < 10 ^ 30 := by
      have : ((10 ^ 30 : Nat) : Int) = 10 ^ 30 := by decide
      omega
    exact Nat.lt_trans this (by decide)
theorem num_ok {n : Int} (h0 : 0 ≤ n) (h1 : n < 10 ^ 30) : NOk (numT n) n := by
  obtain ⟨m, rfl⟩ := Int.eq_ofNat_of_zero_le h0
  have hm : m < 10 ^ (29 + 1) := by
    have : ((m : Nat) : Int) < ((10 ^ 30 : Nat) : Int) := by rw [show ((10 ^ 30 : Nat) : Int) = 10 ^ 30 by decide]; exact h1
    exact Int.ofNat_lt.mp this
  have es : (numT ((m : Nat) : Int)).cps.toList = (Nat.toDigits 10 m).map Char.toNat := PySem.W.KIN.signs_num m
  have ll : (numT ((m : Nat) : Int)).cps.toList.length = (numT ((m : Nat) : Int)).length := Array.length_toList
  have l1 := PySem.toDigits_len_ge 10 m
  have l2 := dig_len 29 m hm
  have hd : ∀ c ∈ (numT ((m : Nat) : Int)).cps.toList, 48 ≤ c ∧ c ≤ 57 := fun c hc => by
    rw [es] at hc
    obtain ⟨ch, hch, e⟩ := List.mem_map.mp hc
    have r := PyProof.Rows.digit_range (Nat.isDigit_of_mem_toDigits (by decide) (by decide) hch)
    rw [← e]
    exact r
  rw [es, List.length_map] at ll
  refine ⟨by omega, by omega, fun c hc => fig_mem c (hd c hc).1 (hd c hc).2, fun h => ?_, ?_, abits h0 h1⟩
  · rw [es]
    refine dig_head m ?_
    cases m with
    | zero => rw [← ll, Nat.toDigits_of_lt_base (by decide)] at h; exact absurd h (by decide)
    | succ m => omega
  · have hne : (numT ((m : Nat) : Int)).cps.toList ≠ [] := by
      rw [es]
      intro e
      rw [List.map_eq_nil_iff.mp e] at l1
      exact absurd l1 (by decide)
    have e := PySem.intText_digits hd hne (by omega)
    rw [es, PySem.W.KIN.val_back] at e
    exact e
def sOf (l : List Nat) : Str := ⟨l.toArray⟩
theorem sOf_list (l : List Nat) : (sOf l).cps.toList = l := by simp [sOf]
theorem sOf_eq {x : Str} {l : List Nat} (h : x.cps.toList = l) : x = sOf l := by cases x; simp [sOf] at h ⊢; rw [← h]
theorem sOf_len (l : List Nat) : (sOf l).length = l.length := by
  have := sOf_list l
  rw [← this, Array.length_toList]
  rw [this]
  rfl
theorem app_list (x y : Str) : (x ++ y).cps.toList = x.cps.toList ++ y.cps.toList := by
  show (x.cps ++ y.cps).toList = _
  exact Array.toList_append
theorem sOf_app (a b : List Nat) : sOf a ++ sOf b = sOf (a ++ b) := sOf_eq (by rw [app_list, sOf_list, sOf_list])
theorem str_tx (s : String) : Str.ofString s = sOf (tx s) := sOf_eq rfl
theorem glue_fold (g : Array Nat) : ∀ (l : List Str) (a : Array Nat), (l.foldl (fun acc (p : Str) => acc ++ g ++ p.cps) a).toList = a.toList ++ l.flatMap fun p => g.toList ++ p.cps.toList
  | [], a => by simp
  | p :: l, a => by
    rw [List.foldl_cons, glue_fold g l]
    simp
theorem join_none (ys : List Str) : Txt.join (Str.ofString "") ys = sOf (ys.flatMap fun y => y.cps.toList) := by
  refine sOf_eq ?_
  unfold Txt.join Builtin.Str.glued
  cases ys with
  | nil => rfl
  | cons y ys =>
    show (List.foldl (fun acc (p : Str) => acc ++ (Str.ofString "").cps ++ p.cps) y.cps ys).toList = _
    have e : (Str.ofString "").cps.toList = [] := by decide +kernel
    rw [glue_fold, e]
    simp
theorem join_blank (y : Str) (ys : List Str) : Txt.join (Str.ofString " ") (y :: ys) = sOf (y.cps.toList ++ ys.flatMap fun p => 32 :: p.cps.toList) := by
  refine sOf_eq ?_
  unfold Txt.join Builtin.Str.glued
  show (List.foldl (fun acc (p : Str) => acc ++ (Str.ofString " ").cps ++ p.cps) y.cps ys).toList = _
  have e : (Str.ofString " ").cps.toList = [32] := by decide +kernel
  rw [glue_fold, e]
  simp
theorem atx_len {a : Atom} (h : AOk a) : (txA a).length ≤ 31 := by
  cases a with
  | name x => have := WOk.hi h; show x.cps.toList.length ≤ 31; rw [Array.length_toList]; exact Nat.le_trans this (by decide)
  | num n => have := NOk.hi h; show (numT n).cps.toList.length ≤ 31; rw [Array.length_toList]; exact Nat.le_trans this (by decide)
  | gap g =>
    have := WOk.hi h
    show (63 :: g.cps.toList).length ≤ 31
    rw [List.length_cons, Array.length_toList]
    exact Nat.le_trans (Nat.succ_le_succ this) (by decide)
theorem more_len : ∀ {as : List Atom}, (∀ a ∈ as, AOk a) → (moreA as).length ≤ 32 * as.length
  | [], _ => Nat.le_refl _
  | a :: as, h => by
    have h1 := atx_len (h a List.mem_cons_self)
    have h2 := more_len fun x hx => h x (List.mem_cons_of_mem _ hx)
    show (32 :: txA a ++ moreA as).length ≤ _
    rw [List.length_append, List.length_cons, List.length_cons]
    omega
abbrev Pc := List Nat ⊕ Tr
def pcT : Pc → List Nat
  | .inl s => s
  | .inr t => txT t
def PcRep (H : Hp) : Pc → V → Prop
  | .inl s, v => v = .str (sOf s)
  | .inr t, v => Rep H t v
theorem PcRep.mono {H H' : Hp} (k : Tk H H') : ∀ {p : Pc} {v : V}, PcRep H p v → PcRep H' p v
  | .inl _, _, h => h
  | .inr _, _, h => Rep.mono k h
def PcOk : Pc → Prop
  | .inl _ => True
  | .inr t => TOk t
def rowP : Tr → List Pc
  | .say a => [.inl (tx "(say "), .inr a, .inl (tx ")")]
  | .ite a b c => [.inl (tx "(if "), .inr a, .inl (tx " then "), .inr b, .inl (tx " else "), .inr c, .inl (tx ")")]
  | .lett x a b => [.inl (tx "(let " ++ (x.cps.toList ++ tx " = ")), .inr a, .inl (tx " in "), .inr b, .inl (tx ")")]
  | .bin o a b => [.inl (tx "("), .inr a, .inl (tx (bwT o)), .inr b, .inl (tx ")")]
  | t => [.inl (txT t)]
theorem tx_par : tx "(" = [40] ∧ tx ")" = [41] := by decide +kernel
theorem rowP_txt (t : Tr) : (rowP t).flatMap pcT = txT t := by
  obtain ⟨e1, e2⟩ := tx_par
  cases t <;> simp [rowP, pcT, txT, e1, e2]
theorem rowP_ok {t : Tr} (h : TOk t) : ∀ p ∈ rowP t, PcOk p := by
  cases t <;> simp only [rowP, List.mem_cons, List.not_mem_nil, or_false, forall_eq_or_imp, forall_eq, PcOk, true_and, and_true]
  case say a => exact h
  case bin o a b => exact h
  case ite a b c => exact h
  case lett x a b => exact h.2
def wtT : Tr → Nat
  | .say a => wtT a + 3
  | .bin _ a b => wtT a + wtT b + 4
  | .ite a b c => wtT a + wtT b + wtT c + 5
  | .lett _ a b => wtT a + wtT b + 4
  | _ => 2
def wtP : Pc → Nat
  | .inl _ => 1
  | .inr t => wtT t
def wtS (ps : List Pc) : Nat := (ps.map wtP).sum
theorem wtS_app (a b : List Pc) : wtS (a ++ b) = wtS a + wtS b := by simp [wtS]
theorem wtS_rev (a : List Pc) : wtS a.reverse = wtS a := by simp [wtS]
theorem wt_row (t : Tr) : wtS (rowP t) + 1 = wtT t := by cases t <;> simp [rowP, wtS, wtP, wtT] <;> omega
theorem wtP_pos (p : Pc) : 1 ≤ wtP p := by
  cases p with
  | inl s => exact Nat.le_refl _
  | inr t => cases t <;> simp [wtP, wtT] <;> omega
theorem wtS_len : ∀ ps : List Pc, ps.length ≤ wtS ps
  | [] => Nat.le_refl _
  | p :: ps => by
    have h1 := wtP_pos p
    have h2 := wtS_len ps
    simp only [wtS, List.map_cons, List.sum_cons, List.length_cons] at h2 ⊢
    omega
theorem str_len (x : Str) : x.cps.toList.length = x.length := Array.length_toList
theorem tx_lens : (tx "(ask ").length = 5 ∧ (tx "(stop ").length = 6 ∧ (tx "(say ").length = 5 ∧ (tx "(if ").length = 4 ∧ (tx " then ").length = 6 ∧ (tx " else ").length = 6 ∧ (tx "(let ").length = 5 ∧ (tx " = ").length = 3 ∧ (tx " in ").length = 4 := by decide +kernel
theorem bw_len (o : Bin) : (tx (bwT o)).length = 3 := by cases o <;> decide +kernel
theorem wt_txt : ∀ {t : Tr}, TOk t → wtT t ≤ 3 * (txT t).length
  | .num n, h => by
    have := NOk.lo h
    show 2 ≤ 3 * (numT n).cps.toList.length
    rw [str_len]
    omega
  | .name x, h => by
    have := WOk.lo h
    show 2 ≤ 3 * x.cps.toList.length
    rw [str_len]
    omega
  | .gap g as, h => by
    show 2 ≤ 3 * (63 :: (g.cps.toList ++ txAs as)).length
    rw [List.length_cons]
    omega
  | .ask x, h => by
    obtain ⟨l1, l2, l3, l4, l5, l6, l7, l8, l9⟩ := tx_lens
    simp only [txT, wtT, List.length_append, l1]
    omega
  | .stop x, h => by
    obtain ⟨l1, l2, l3, l4, l5, l6, l7, l8, l9⟩ := tx_lens
    simp only [txT, wtT, List.length_append, l2]
    omega
  | .say a, h => by
    obtain ⟨l1, l2, l3, l4, l5, l6, l7, l8, l9⟩ := tx_lens
    have := wt_txt (t := a) h
    simp only [txT, wtT, List.length_append, l3]
    omega
  | .bin o a b, h => by
    have h1 := wt_txt h.1
    have h2 := wt_txt h.2
    simp only [txT, wtT, List.length_append, List.length_cons, bw_len]
    omega
  | .ite a b c, h => by
    obtain ⟨l1, l2, l3, l4, l5, l6, l7, l8, l9⟩ := tx_lens
    have h1 := wt_txt h.1
    have h2 := wt_txt h.2.1
    have h3 := wt_txt h.2.2
    simp only [txT, wtT, List.length_append, l4, l5, l6]
    omega
  | .lett x a b, h => by
    obtain ⟨l1, l2, l3, l4, l5, l6, l7, l8, l9⟩ := tx_lens
    have h1 := wt_txt h.2.1
    have h2 := wt_txt h.2.2
    simp only [txT, wtT, List.length_append, l7, l8, l9]
    omega
theorem line_of {n : Nat} (h : n ≤ 1000000) : n ≤ sizeLine := by rw [sizeLine_eq]; omega
theorem line_lt {n : Nat} (h : n ≤ 1000000) : n < sizeLine := by rw [sizeLine_eq]; omega
end L2
set_option Elab.async false
set_option linter.all false
set_option maxRecDepth 100000
set_option maxHeartbeats 4000000
namespace L2
open PySem
theorem flat_more : ∀ as : List Atom, (as.map fun a => sOf (txA a)).flatMap (fun p => 32 :: p.cps.toList) = moreA as
  | [] => rfl
  | a :: as => by
    rw [List.map_cons, List.flatMap_cons, flat_more as, sOf_list]
    rfl
theorem sum_atx : ∀ {as : List Atom}, (∀ a ∈ as, AOk a) → (as.map ((fun x : Str => x.length) ∘ fun a => sOf (txA a))).sum ≤ 31 * as.length
  | [], _ => Nat.le_refl _
  | a :: as, h => by
    have h1 := atx_len (h a List.mem_cons_self)
    have h2 := sum_atx (as := as) fun x hx => h x (List.mem_cons_of_mem _ hx)
    rw [List.map_cons, List.sum_cons, List.length_cons]
    have e : ((fun x : Str => x.length) ∘ fun a => sOf (txA a)) a = (txA a).length := sOf_len _
    omega
end L2
namespace K06
open PySem PySem.Spec L2 PyProof.Rows
abbrev s_atom_text : Stmt := top 9
theorem sc_atom_text : FnScope ["atom"] ["atom"] (defScope s_atom_text) := ⟨rfl, rfl, rfl, by decide +kernel, rfl, by decide +kernel, by decide +kernel⟩
abbrev s_gap_text : Stmt := top 10
theorem sc_gap_text : FnScope ["gap", "text"] ["gap"] (defScope s_gap_text) := ⟨rfl, rfl, rfl, by decide +kernel, rfl, by decide +kernel, by decide +kernel⟩
abbrev s_leaf_text : Stmt := top 11
theorem sc_leaf_text : FnScope ["leaf"] ["leaf"] (defScope s_leaf_text) := ⟨rfl, rfl, rfl, by decide +kernel, rfl, by decide +kernel, by decide +kernel⟩
section
variable {P : Program} {w : World} {K : PySem.W.Frag} {mg : Str → Option Value} {base : Heap}
def sp_atext : Sp := fun vs H Q _ => ∃ (a : Atom) (v : V), vs = [v] ∧ AtRep H a v ∧ AOk a ∧ Q (.str (sOf (txA a))) H
theorem ok_atext {k : Nat} {f : Addr} {fd : FuncData} (F : Fun K "atom_text" "atom_text" s_atom_text f fd) (z_str : mg "str" = none) : FnOk P w K mg base CX0 (k + 1) f fd ["atom"] sp_atext := by
  refine F.ok sc_atom_text (fun vs H Q E h => ?_) (fun cdv A outer s H vs Q E hr h => ?_)
  · obtain ⟨a, v, rfl, _⟩ := h
    rfl
  obtain ⟨a, v, rfl, hR, ok, q⟩ := h
  refine ⟨_, (pss_cons (ps_if (pt_cmpR op_eq (pe_ix (r := rIxT K) ix_tup (pv 0) pe_int (fun _ _ => rfl)) pe_str (nomark _)) (pss_one (ps_ret (pe_op op_add_str pe_str (pe_ix (r := rIxT K) ix_tup (pv 0) pe_int (fun _ _ => rfl))))) pss_nil)
    (pss_one (ps_ret (pe_callTy call_str1 (by rfl) z_str PyProof.Rows.boot_str (pa_cons (pe_ix (r := rIxT K) ix_tup (pv 0) pe_int (fun _ _ => rfl)) pa_nil))))), ?_⟩
  cases a with
  | name x =>
    obtain ⟨p, rfl, hp⟩ := hR
    refine ⟨_, rfl, p, _, 0, _, rfl, rfl, SqT.of hp, rfl, rfl, _, rfl, iteF ?_⟩
    refine ⟨_, rfl, p, _, 1, _, rfl, rfl, SqT.of hp, rfl, .inl ⟨x, rfl, ?_⟩⟩
    rw [sOf_eq (x := x) rfl]
    exact q
  | num n =>
    obtain ⟨p, rfl, hp⟩ := hR
    refine ⟨_, rfl, p, _, 0, _, rfl, rfl, SqT.of hp, rfl, rfl, _, rfl, iteF ?_⟩
    refine ⟨_, rfl, p, _, 1, _, rfl, rfl, SqT.of hp, rfl, .inr ⟨n, rfl, NOk.sm ok, ?_⟩⟩
    show Q (.str (numT n)) H
    rw [sOf_eq (x := numT n) rfl]
    exact q
  | gap g =>
    obtain ⟨p, b, rfl, hp, hb⟩ := hR
    have h8 := WOk.hi ok
    refine ⟨_, rfl, p, _, 0, _, rfl, rfl, SqT.of hp, rfl, rfl, _, rfl, iteT ?_⟩
    refine ⟨_, rfl, p, _, 1, _, rfl, rfl, SqT.of hp, rfl, _, _, rfl, rfl, line_of (by rw [q_len]; omega), ?_⟩
    rw [sOf_eq (x := Str.ofString "?" ++ g) (l := txA (.gap g)) (by rw [app_list, q_list]; rfl)]
    exact q
def sp_gtext : Sp := fun vs H Q _ => ∃ (g : Str) (as : List Atom) (v : V), vs = [v] ∧ Rep H (.gap g as) v ∧ TOk (.gap g as) ∧ ∀ H', Same H H' → Q (.str (sOf (txT (.gap g as)))) H'
theorem ok_gtext {k : Nat} {f g1 : Addr} {fd gd1 : FuncData} (F : Fun K "gap_text" "gap_text" s_gap_text f fd) (G_atom_text : FnB P w K mg base k "atom_text" g1 gd1 ["atom"] sp_atext) : FnOk P w K mg base CX0 (k + 1) f fd ["gap"] sp_gtext := by
  refine F.ok sc_gap_text (fun vs H Q E h => ?_) (fun cdv A outer s H vs Q E hr h => ?_)
  · obtain ⟨g, as, v, rfl, _⟩ := h
    rfl
  obtain ⟨g, as, v, rfl, hR, ok, q⟩ := h
  refine ⟨_, (pss_cons (ps_set (i := 1) sc_gap_text.nd rfl (Or.inl rfl) (pe_op op_add_str pe_str (pe_ix (r := rIxT K) ix_tup (pv 0) pe_int (fun _ _ => rfl))))
    (pss_cons (ps_if (pt_truth (pe_ix (r := rIxT K) ix_tup (pv 0) pe_int (fun _ _ => rfl)) (fun _ => rfl)) (pss_one (ps_aug (i := 1) sc_gap_text.nd rfl (Or.inl rfl) (pe_op op_add_str (pe_op op_add_str pe_str (pe_bm PySem.F.plainAttrs_str PySem.F.slot_str_join PySem.F.type_str_join mt_join pe_str (pa_cons (pe_compB ["atom"] [none] rfl (pi_tup (pe_ix (r := rIxT K) ix_tup (pv 0) pe_int (fun _ _ => rfl))) (fun _ _ _ _ _ => (pg_name (i := 0) (show List.Nodup (["atom"] : List Str) by decide +kernel) rfl (Or.inl rfl))) (fun _ _ _ _ _ => pts_nil) (fun _ _ _ _ _ => (pe_call G_atom_text.ok hr (by rfl) G_atom_text.gl G_atom_text.kp G_atom_text.bd .nil pass0 (pa_cons (pv 0) pa_nil))) rfl) pa_nil))) pe_str) iop_add_str)) pss_nil)
    (pss_one (ps_ret (pv 1))))), ?_⟩
  obtain ⟨p, b, us, rfl, hp, hb, h900, hus⟩ := hR
  have h8 := WOk.hi ok.1
  have lu : us.length = as.length := paired_len hus
  refine ⟨_, rfl, p, _, 1, _, rfl, rfl, SqT.of hp, rfl, _, _, rfl, rfl, line_of (by rw [q_len]; omega), ?_⟩
  have e0 : Str.ofString "?" ++ g = sOf (63 :: g.cps.toList) := sOf_eq (by rw [app_list, q_list]; rfl)
  rw [e0]
  refine ⟨_, rfl, p, _, 2, _, rfl, rfl, SqT.of hp, rfl, _, .inr (.inl ⟨us, SqT.of hb, rfl⟩), ?_⟩
  cases as with
  | nil =>
    cases us with
    | cons _ _ => cases lu
    | nil =>
      refine iteF ⟨_, rfl, ?_⟩
      have := q H (.refl _)
      rwa [show txT (.gap g []) = 63 :: g.cps.toList by simp [txT, txAs]] at this
  | cons a as =>
    cases us with
    | nil => cases lu
    | cons u us =>
      refine iteT ?_
      refine ⟨_, rfl, rfl, _, rfl, p, _, 2, _, rfl, rfl, SqT.of hp, rfl, b, rfl, ⟨_, SqT.of hb⟩, fun acc hacc => ?_⟩
      refine comp_tupR (xs := u :: us) (fun i H' => Same H H' ∧ H' acc = some (.lst ((((a :: as).take i).map fun a => sOf (txA a)).map V.str))) ⟨same_upd hacc, upd_same⟩ (fun i H' _ h => SqT.of (h.1 _ _ hb)) ?_ ?_
      · rintro i x H1 hx ⟨g1, ea⟩
        obtain ⟨ai, eai, rai⟩ := paired_get hus hx
        have hil : i < (a :: as).length := (List.getElem?_eq_some_iff.mp eai).1
        refine ⟨.skip .nil, ?_⟩
        refine ⟨_, rfl, ai, x, rfl, rai.mono g1.tk, ok.2.1 ai (List.mem_of_getElem? eai), ?_⟩
        refine ⟨_, ea, line_lt (by have := ok.2.2; rw [List.length_map, List.length_map, List.length_take]; omega), same_set g1 hacc, ?_⟩
        rw [upd_same, take_next eai, List.map_append, List.map_append]
        rfl
      · rintro H1 ⟨g1, ea⟩
        have et : (a :: as).take (u :: us).length = a :: as := List.take_of_length_le (by omega)
        rw [et] at ea
        have hm := more_len (as := as) fun x hx => ok.2.1 x (List.mem_cons_of_mem _ hx)
        have ha := atx_len (ok.2.1 a List.mem_cons_self)
        have hl := ok.2.2
        rw [List.length_cons] at hl
        have e1 : Txt.join (Str.ofString " ") ((a :: as).map fun a => sOf (txA a)) = sOf (txA a ++ moreA as) := by
          rw [List.map_cons, join_blank, sOf_list, flat_more]
        refine ⟨_, acc, _, rfl, rfl, ea, (by show 1 ≤ 16; decide), ?_, ?_⟩
        · rw [List.map_cons, List.map_cons, List.sum_cons, List.length_cons, List.length_map, sOf_len, List.map_map]
          have := sum_atx (as := as) fun x hx => ok.2.1 x (List.mem_cons_of_mem _ hx)
          omega
        rw [e1, str_tx "[", str_tx "]"]
        have b1 : (tx "[") = [91] := by decide +kernel
        have b2 : (tx "]") = [93] := by decide +kernel
        refine ⟨_, _, rfl, rfl, line_of (by rw [b1, sOf_len, sOf_len, List.length_append, List.length_singleton]; omega), ?_⟩
        rw [sOf_app]
        refine ⟨_, _, rfl, rfl, line_of (by rw [b1, b2, sOf_len, sOf_len]; simp only [List.length_append, List.length_singleton]; omega), ?_⟩
        rw [sOf_app]
        refine ⟨_, _, rfl, rfl, line_of (by have := str_len g; rw [b1, b2, sOf_len, sOf_len]; simp only [List.length_append, List.length_singleton, List.length_cons, List.length_nil]; omega), ?_⟩
        rw [sOf_app]
        refine ⟨_, rfl, ?_⟩
        have := q H1 g1
        rwa [show txT (.gap g (a :: as)) = 63 :: g.cps.toList ++ (tx "[" ++ (txA a ++ moreA as) ++ tx "]") by simp [txT, txAs, b1, b2]] at this
def leafB : Tr → Bool
  | .say _ => false
  | .bin _ _ _ => false
  | .ite _ _ _ => false
  | .lett _ _ _ => false
  | _ => true
def sp_ltext : Sp := fun vs H Q _ => ∃ (t : Tr) (v : V), vs = [v] ∧ Rep H t v ∧ TOk t ∧ leafB t = true ∧ ∀ H', Same H H' → Q (.str (sOf (txT t))) H'
theorem ok_ltext {k : Nat} {f g1 : Addr} {fd gd1 : FuncData} (F : Fun K "leaf_text" "leaf_text" s_leaf_text f fd) (z_str : mg "str" = none) (G_gap_text : FnB P w K mg base k "gap_text" g1 gd1 ["gap"] sp_gtext) : FnOk P w K mg base CX0 (k + 1) f fd ["leaf"] sp_ltext := by
  refine F.ok sc_leaf_text (fun vs H Q E h => ?_) (fun cdv A outer s H vs Q E hr h => ?_)
  · obtain ⟨t, v, rfl, _⟩ := h
    rfl
  obtain ⟨t, v, rfl, hR, ok, hl, q⟩ := h
  refine ⟨_, (pss_cons (ps_if (pt_cmpR op_eq (pe_ix (r := rIxT K) ix_tup (pv 0) pe_int (fun _ _ => rfl)) pe_str (nomark _)) (pss_one (ps_ret (pe_call G_gap_text.ok hr (by rfl) G_gap_text.gl G_gap_text.kp G_gap_text.bd .nil pass0 (pa_cons (pv 0) pa_nil)))) pss_nil)
    (pss_cons (ps_if (pt_cmpR (r := rIn K false) op_in_seq (pe_ix (r := rIxT K) ix_tup (pv 0) pe_int (fun _ _ => rfl)) (pe_tup (pa_cons pe_str (pa_cons pe_str pa_nil)) : PE _ _ _) rfl) (pss_one (ps_ret (pe_op op_add_str (pe_op op_add_str (pe_op op_add_str (pe_op op_add_str pe_str (pe_ix (r := rIxT K) ix_tup (pv 0) pe_int (fun _ _ => rfl))) pe_str) (pe_ix (r := rIxT K) ix_tup (pv 0) pe_int (fun _ _ => rfl))) pe_str))) pss_nil)
    (pss_one (ps_ret (pe_callTy call_str1 (by rfl) z_str PyProof.Rows.boot_str (pa_cons (pe_ix (r := rIxT K) ix_tup (pv 0) pe_int (fun _ _ => rfl)) pa_nil)))))), ?_⟩
  have d2 : 2 ≤ sizeLine := by decide
  cases t with
  | num n =>
    obtain ⟨p, rfl, hp⟩ := hR
    refine ⟨_, rfl, p, _, 0, _, rfl, rfl, SqT.of hp, rfl, rfl, _, rfl, iteF ?_⟩
    refine ⟨_, rfl, p, _, 0, _, rfl, rfl, SqT.of hp, rfl, d2, fun pt hpt => ⟨pt, _, rfl, .inr (SqT.of upd_same), rfl, rfl, _, rfl, iteF ?_⟩⟩
    have g := same_upd (o := .tup [.str "ask", .str "stop"]) hpt
    refine ⟨_, rfl, p, _, 1, _, rfl, rfl, SqT.of (g _ _ hp), rfl, .inr ⟨n, rfl, NOk.sm ok, ?_⟩⟩
    show Q (.str (numT n)) _
    rw [sOf_eq (x := numT n) rfl]
    exact q _ g
  | name x =>
    obtain ⟨p, rfl, hp⟩ := hR
    refine ⟨_, rfl, p, _, 0, _, rfl, rfl, SqT.of hp, rfl, rfl, _, rfl, iteF ?_⟩
    refine ⟨_, rfl, p, _, 0, _, rfl, rfl, SqT.of hp, rfl, d2, fun pt hpt => ⟨pt, _, rfl, .inr (SqT.of upd_same), rfl, rfl, _, rfl, iteF ?_⟩⟩
    have g := same_upd (o := .tup [.str "ask", .str "stop"]) hpt
    refine ⟨_, rfl, p, _, 1, _, rfl, rfl, SqT.of (g _ _ hp), rfl, .inl ⟨x, rfl, ?_⟩⟩
    rw [sOf_eq (x := x) rfl]
    exact q _ g
  | ask x =>
    obtain ⟨p, rfl, hp⟩ := hR
    have h8 := WOk.hi ok
    refine ⟨_, rfl, p, _, 0, _, rfl, rfl, SqT.of hp, rfl, rfl, _, rfl, iteF ?_⟩
    refine ⟨_, rfl, p, _, 0, _, rfl, rfl, SqT.of hp, rfl, d2, fun pt hpt => ⟨pt, _, rfl, .inr (SqT.of upd_same), rfl, rfl, _, rfl, iteT ?_⟩⟩
    have g := same_upd (o := .tup [.str "ask", .str "stop"]) hpt
    have hp1 := g _ _ hp
    refine ⟨_, rfl, p, _, 0, _, rfl, rfl, SqT.of hp1, rfl, _, _, rfl, rfl, line1000 (by decide +kernel), _, _, rfl, rfl, line1000 (by decide +kernel), _, rfl, p, _, 1, _, rfl, rfl, SqT.of hp1, rfl, _, _, rfl, rfl, line_of ?_, _, _, rfl, rfl, line_of ?_, ?_⟩
    · rw [show (Str.ofString "(" ++ Str.ofString "ask" ++ Str.ofString " ").length = 5 by decide +kernel]; omega
    · rw [show (Str.ofString "(" ++ Str.ofString "ask" ++ Str.ofString " " ++ x).length = 5 + x.length by rw [strLen_append]; rw [show (Str.ofString "(" ++ Str.ofString "ask" ++ Str.ofString " ").length = 5 by decide +kernel], par_list.2.2.2]; omega
    rw [sOf_eq (x := Str.ofString "(" ++ Str.ofString "ask" ++ Str.ofString " " ++ x ++ Str.ofString ")") (l := txT (.ask x)) (by rw [app_list, app_list, show (Str.ofString "(" ++ Str.ofString "ask" ++ Str.ofString " ").cps.toList = tx "(ask " by decide +kernel, par_list.2.1]; simp [txT])]
    exact q _ g
  | stop x =>
    obtain ⟨p, rfl, hp⟩ := hR
    have h8 := WOk.hi ok
    refine ⟨_, rfl, p, _, 0, _, rfl, rfl, SqT.of hp, rfl, rfl, _, rfl, iteF ?_⟩
    refine ⟨_, rfl, p, _, 0, _, rfl, rfl, SqT.of hp, rfl, d2, fun pt hpt => ⟨pt, _, rfl, .inr (SqT.of upd_same), rfl, rfl, _, rfl, iteT ?_⟩⟩
    have g := same_upd (o := .tup [.str "ask", .str "stop"]) hpt
    have hp1 := g _ _ hp
    refine ⟨_, rfl, p, _, 0, _, rfl, rfl, SqT.of hp1, rfl, _, _, rfl, rfl, line1000 (by decide +kernel), _, _, rfl, rfl, line1000 (by decide +kernel), _, rfl, p, _, 1, _, rfl, rfl, SqT.of hp1, rfl, _, _, rfl, rfl, line_of ?_, _, _, rfl, rfl, line_of ?_, ?_⟩
    · rw [show (Str.ofString "(" ++ Str.ofString "stop" ++ Str.ofString " ").length = 6 by decide +kernel]; omega
    · rw [show (Str.ofString "(" ++ Str.ofString "stop" ++ Str.ofString " " ++ x).length = 6 + x.length by rw [strLen_append]; rw [show (Str.ofString "(" ++ Str.ofString "stop" ++ Str.ofString " ").length = 6 by decide +kernel], par_list.2.2.2]; omega
    rw [sOf_eq (x := Str.ofString "(" ++ Str.ofString "stop" ++ Str.ofString " " ++ x ++ Str.ofString ")") (l := txT (.stop x)) (by rw [app_list, app_list, show (Str.ofString "(" ++ Str.ofString "stop" ++ Str.ofString " ").cps.toList = tx "(stop " by decide +kernel, par_list.2.1]; simp [txT])]
    exact q _ g
  | gap g as =>
    obtain ⟨p, b, us, rfl, hp, hb, h900, hus⟩ := id hR
    refine ⟨_, rfl, p, _, 0, _, rfl, rfl, SqT.of hp, rfl, rfl, _, rfl, iteT ?_⟩
    exact ⟨_, rfl, g, as, _, rfl, hR, ok, q⟩
  | _ => cases hl
end
end K06
set_option Elab.async false
set_option linter.all false
set_option maxRecDepth 100000
set_option maxHeartbeats 4000000
namespace L2
open PySem
def leaf5 : List Str := ["num", "name", "ask", "stop", "gap"]
def LeafK (K : PySem.W.Frag) (lv : Addr) : Prop := ∃ (o : Obj) (its : Array Value) (n : Nat), K.lookup lv = some o ∧ o.cls = .type "tuple" ∧ o.data = .seq its n ∧ its.size ≤ sizeLine ∧ Vals (leaf5.map V.str) its.toList
end L2
namespace K06
open PySem PySem.Spec L2 PyProof.Rows
abbrev s_written_row : Stmt := top 12
theorem sc_written_row : FnScope ["tree", "sign"] ["tree"] (defScope s_written_row) := ⟨rfl, rfl, rfl, by decide +kernel, rfl, by decide +kernel, by decide +kernel⟩
section
variable {P : Program} {w : World} {K : PySem.W.Frag} {mg : Str → Option Value} {base : Heap}
def sp_row : Sp := fun vs H Q _ => ∃ (t : Tr) (v : V), vs = [v] ∧ Rep H t v ∧ TOk t ∧ ∀ (l : Addr) (us : List V) (H' : Hp), Same H H' → H' l = some (.lst us) → H l = none → Paired (PcRep H') (rowP t) us → Q (.ref l) H'
theorem ok_row {k : Nat} {f lv bd g1 : Addr} {fd gd1 : FuncData} (F : Fun K "written_row" "written_row" s_written_row f fd) (m_LEAF_SIGNS : mg "LEAF_SIGNS" = some (.ref lv)) (hL : LeafK K lv) (m_BETWEEN : mg "BETWEEN" = some (.ref bd)) (h_BETWEEN : KDicW K w.params bd betw) (hB : KBtw K bd)
    (G_leaf_text : FnB P w K mg base k "leaf_text" g1 gd1 ["leaf"] sp_ltext) : FnOk P w K mg base CX0 (k + 1) f fd ["tree"] sp_row := by
  refine F.ok sc_written_row (fun vs H Q E h => ?_) (fun cdv A outer s H vs Q E hr h => ?_)
  · obtain ⟨t, v, rfl, _⟩ := h
    rfl
  obtain ⟨t, v, rfl, hR, ok, q⟩ := h
  refine ⟨_, (Sd.un (pss_consS (ps_setS (i := 1) sc_written_row.nd rfl (Or.inl rfl) (pe_ixS (r := rIxT K) ix_tup ⟨pv 0⟩ ⟨pe_int⟩ (fun _ _ => rfl)))
    (pss_consS (ps_ifS ⟨pt_cmpR (r := rIn K false) op_in_seq (pv 1) (pe_glob (v := .ref _) (by rfl) m_LEAF_SIGNS (by rfl)) rfl⟩ (pss_oneS (ps_retS (pe_lstS (pa_consS ⟨pe_call G_leaf_text.ok hr (by rfl) G_leaf_text.gl G_leaf_text.kp G_leaf_text.bd .nil pass0 (pa_cons (pv 0) pa_nil)⟩ ⟨pa_nil⟩)))) ⟨pss_nil⟩)
    (pss_consS (ps_ifS ⟨pt_cmpR op_eq (pv 1) pe_str (nomark _)⟩ (pss_oneS (ps_retS (pe_lstS (pa_consS ⟨pe_str⟩ (pa_consS (pe_ixS (r := rIxT K) ix_tup ⟨pv 0⟩ ⟨pe_int⟩ (fun _ _ => rfl)) (pa_consS ⟨pe_str⟩ ⟨pa_nil⟩)))))) ⟨pss_nil⟩)
    (pss_consS (ps_ifS ⟨pt_cmpR op_eq (pv 1) pe_str (nomark _)⟩ (pss_oneS (ps_retS (pe_lstS (pa_consS ⟨pe_str⟩ (pa_consS (pe_ixS (r := rIxT K) ix_tup ⟨pv 0⟩ ⟨pe_int⟩ (fun _ _ => rfl)) (pa_consS ⟨pe_str⟩ (pa_consS (pe_ixS (r := rIxT K) ix_tup ⟨pv 0⟩ ⟨pe_int⟩ (fun _ _ => rfl)) (pa_consS ⟨pe_str⟩ (pa_consS (pe_ixS (r := rIxT K) ix_tup ⟨pv 0⟩ ⟨pe_int⟩ (fun _ _ => rfl)) (pa_consS ⟨pe_str⟩ ⟨pa_nil⟩)))))))))) ⟨pss_nil⟩)
    (pss_consS (ps_ifS ⟨pt_cmpR op_eq (pv 1) pe_str (nomark _)⟩ (pss_oneS (ps_retS (pe_lstS (pa_consS ⟨pe_op op_add_str (pe_op op_add_str pe_str (pe_ix (r := rIxT K) ix_tup (pv 0) pe_int (fun _ _ => rfl))) pe_str⟩ (pa_consS (pe_ixS (r := rIxT K) ix_tup ⟨pv 0⟩ ⟨pe_int⟩ (fun _ _ => rfl)) (pa_consS ⟨pe_str⟩ (pa_consS (pe_ixS (r := rIxT K) ix_tup ⟨pv 0⟩ ⟨pe_int⟩ (fun _ _ => rfl)) (pa_consS ⟨pe_str⟩ ⟨pa_nil⟩)))))))) ⟨pss_nil⟩)
    (pss_oneS (ps_retS (pe_lstS (pa_consS ⟨pe_str⟩ (pa_consS (pe_ixS (r := rIxT K) ix_tup ⟨pv 0⟩ ⟨pe_int⟩ (fun _ _ => rfl)) (pa_consS ⟨pe_ix (ix_kd h_BETWEEN.dic) (pe_glob (v := .ref _) (by rfl) m_BETWEEN (by rfl)) (pv 1) (fun _ _ => rfl)⟩ (pa_consS (pe_ixS (r := rIxT K) ix_tup ⟨pv 0⟩ ⟨pe_int⟩ (fun _ _ => rfl)) (pa_consS ⟨pe_str⟩ ⟨pa_nil⟩)))))))))))))), ?_⟩
  have d1 : 1 ≤ sizeLine := by decide
  have d3 : 3 ≤ sizeLine := by decide
  have d5 : 5 ≤ sizeLine := by decide
  have d7 : 7 ≤ sizeLine := by decide
  cases t with
  | num n =>
    obtain ⟨p, rfl, hp⟩ := id hR
    refine ⟨_, rfl, p, _, 0, _, rfl, rfl, SqT.of hp, rfl, _, rfl, lv, leaf5.map V.str, rfl, .inr (.inr hL), rfl, rfl, _, rfl, iteT ?_⟩
    exact ⟨_, rfl, _, _, rfl, hR, ok, rfl, fun H1 g1 => ⟨d1, fun l hl => q l _ _ (g1.trans (same_upd hl)) upd_same (g1.free hl) (.cons rfl .nil)⟩⟩
  | name x =>
    obtain ⟨p, rfl, hp⟩ := id hR
    refine ⟨_, rfl, p, _, 0, _, rfl, rfl, SqT.of hp, rfl, _, rfl, lv, leaf5.map V.str, rfl, .inr (.inr hL), rfl, rfl, _, rfl, iteT ?_⟩
    exact ⟨_, rfl, _, _, rfl, hR, ok, rfl, fun H1 g1 => ⟨d1, fun l hl => q l _ _ (g1.trans (same_upd hl)) upd_same (g1.free hl) (.cons rfl .nil)⟩⟩
  | ask x =>
    obtain ⟨p, rfl, hp⟩ := id hR
    refine ⟨_, rfl, p, _, 0, _, rfl, rfl, SqT.of hp, rfl, _, rfl, lv, leaf5.map V.str, rfl, .inr (.inr hL), rfl, rfl, _, rfl, iteT ?_⟩
    exact ⟨_, rfl, _, _, rfl, hR, ok, rfl, fun H1 g1 => ⟨d1, fun l hl => q l _ _ (g1.trans (same_upd hl)) upd_same (g1.free hl) (.cons rfl .nil)⟩⟩
  | stop x =>
    obtain ⟨p, rfl, hp⟩ := id hR
    refine ⟨_, rfl, p, _, 0, _, rfl, rfl, SqT.of hp, rfl, _, rfl, lv, leaf5.map V.str, rfl, .inr (.inr hL), rfl, rfl, _, rfl, iteT ?_⟩
    exact ⟨_, rfl, _, _, rfl, hR, ok, rfl, fun H1 g1 => ⟨d1, fun l hl => q l _ _ (g1.trans (same_upd hl)) upd_same (g1.free hl) (.cons rfl .nil)⟩⟩
  | gap g as =>
    obtain ⟨p, pb, us, rfl, hp, hb, h9, hus⟩ := id hR
    refine ⟨_, rfl, p, _, 0, _, rfl, rfl, SqT.of hp, rfl, _, rfl, lv, leaf5.map V.str, rfl, .inr (.inr hL), rfl, rfl, _, rfl, iteT ?_⟩
    exact ⟨_, rfl, _, _, rfl, hR, ok, rfl, fun H1 g1 => ⟨d1, fun l hl => q l _ _ (g1.trans (same_upd hl)) upd_same (g1.free hl) (.cons rfl .nil)⟩⟩
  | say a =>
    obtain ⟨p, u, rfl, hp, ra⟩ := id hR
    refine ⟨_, rfl, p, _, 0, _, rfl, rfl, SqT.of hp, rfl, _, rfl, lv, leaf5.map V.str, rfl, .inr (.inr hL), rfl, rfl, _, rfl, iteF ?_⟩
    refine ⟨_, rfl, rfl, _, rfl, iteT ?_⟩
    refine ⟨_, rfl, p, _, 1, _, rfl, rfl, SqT.of hp, rfl, d3, fun l hl => ?_⟩
    have g := same_upd (o := .lst [.str "(say ", u, .str ")"]) hl
    exact q l _ _ g upd_same hl (.cons (congrArg V.str (str_tx _)) (.cons (Rep.mono g.tk ra) (.cons (congrArg V.str (str_tx _)) .nil)))
  | ite a b c =>
    obtain ⟨p, u, v, z, rfl, hp, ra, rb, rc⟩ := id hR
    refine ⟨_, rfl, p, _, 0, _, rfl, rfl, SqT.of hp, rfl, _, rfl, lv, leaf5.map V.str, rfl, .inr (.inr hL), rfl, rfl, _, rfl, iteF ?_⟩
    refine ⟨_, rfl, rfl, _, rfl, iteF ?_⟩
    refine ⟨_, rfl, rfl, _, rfl, iteT ?_⟩
    refine ⟨_, rfl, p, _, 1, _, rfl, rfl, SqT.of hp, rfl, _, rfl, p, _, 2, _, rfl, rfl, SqT.of hp, rfl, _, rfl, p, _, 3, _, rfl, rfl, SqT.of hp, rfl, d7, fun l hl => ?_⟩
    have g := same_upd (o := .lst [.str "(if ", u, .str " then ", v, .str " else ", z, .str ")"]) hl
    exact q l _ _ g upd_same hl (.cons (congrArg V.str (str_tx _)) (.cons (Rep.mono g.tk ra) (.cons (congrArg V.str (str_tx _)) (.cons (Rep.mono g.tk rb) (.cons (congrArg V.str (str_tx _)) (.cons (Rep.mono g.tk rc) (.cons (congrArg V.str (str_tx _)) .nil)))))))
  | lett x a b =>
    obtain ⟨p, u, v, rfl, hp, ra, rb⟩ := id hR
    have h8 := WOk.hi ok.1
    refine ⟨_, rfl, p, _, 0, _, rfl, rfl, SqT.of hp, rfl, _, rfl, lv, leaf5.map V.str, rfl, .inr (.inr hL), rfl, rfl, _, rfl, iteF ?_⟩
    refine ⟨_, rfl, rfl, _, rfl, iteF ?_⟩
    refine ⟨_, rfl, rfl, _, rfl, iteF ?_⟩
    refine ⟨_, rfl, rfl, _, rfl, iteT ?_⟩
    refine ⟨_, rfl, p, _, 1, _, rfl, rfl, SqT.of hp, rfl, _, _, rfl, rfl, line_of (by rw [show (Str.ofString "(let ").length = 5 by decide +kernel]; omega), _, _, rfl, rfl, line_of (by rw [strLen_append, show (Str.ofString "(let ").length = 5 by decide +kernel, show (Str.ofString " = ").length = 3 by decide +kernel]; omega), _, rfl, p, _, 2, _, rfl, rfl, SqT.of hp, rfl, _, rfl, p, _, 3, _, rfl, rfl, SqT.of hp, rfl, d5, fun l hl => ?_⟩
    have g := same_upd (o := .lst [.str (Str.ofString "(let " ++ x ++ Str.ofString " = "), u, .str " in ", v, .str ")"]) hl
    exact q l _ _ g upd_same hl (.cons (congrArg V.str (sOf_eq (by rw [app_list, app_list, List.append_assoc]; rfl))) (.cons (Rep.mono g.tk ra) (.cons (congrArg V.str (str_tx _)) (.cons (Rep.mono g.tk rb) (.cons (congrArg V.str (str_tx _)) .nil)))))
  | bin o a b =>
    obtain ⟨p, u, v, rfl, hp, ra, rb⟩ := id hR
    obtain ⟨tk, hB'⟩ := hB o
    have fin : ∀ l, H l = none → Q (.ref l) (upd H l (.lst [.str "(", u, .str (Str.ofString (bwT o)), v, .str ")"])) := fun l hl => by
      have g := same_upd (o := .lst [.str "(", u, .str (Str.ofString (bwT o)), v, .str ")"]) hl
      exact q l _ _ g upd_same hl (.cons (congrArg V.str (str_tx _)) (.cons (Rep.mono g.tk ra) (.cons (congrArg V.str (str_tx _)) (.cons (Rep.mono g.tk rb) (.cons (congrArg V.str (str_tx _)) .nil)))))
    cases o
    · refine ⟨_, rfl, p, _, 0, _, rfl, rfl, SqT.of hp, rfl, _, rfl, lv, leaf5.map V.str, rfl, .inr (.inr hL), rfl, rfl, _, rfl, iteF ?_⟩
      refine ⟨_, rfl, rfl, _, rfl, iteF ⟨_, rfl, rfl, _, rfl, iteF ⟨_, rfl, rfl, _, rfl, iteF ?_⟩⟩⟩
      exact ⟨_, rfl, p, _, 1, _, rfl, rfl, SqT.of hp, rfl, _, rfl, _, _, .str _, rfl, rfl, hB', ⟨_, rfl⟩, _, rfl, p, _, 2, _, rfl, rfl, SqT.of hp, rfl, d5, fin⟩
    · refine ⟨_, rfl, p, _, 0, _, rfl, rfl, SqT.of hp, rfl, _, rfl, lv, leaf5.map V.str, rfl, .inr (.inr hL), rfl, rfl, _, rfl, iteF ?_⟩
      refine ⟨_, rfl, rfl, _, rfl, iteF ⟨_, rfl, rfl, _, rfl, iteF ⟨_, rfl, rfl, _, rfl, iteF ?_⟩⟩⟩
      exact ⟨_, rfl, p, _, 1, _, rfl, rfl, SqT.of hp, rfl, _, rfl, _, _, .str _, rfl, rfl, hB', ⟨_, rfl⟩, _, rfl, p, _, 2, _, rfl, rfl, SqT.of hp, rfl, d5, fin⟩
    · refine ⟨_, rfl, p, _, 0, _, rfl, rfl, SqT.of hp, rfl, _, rfl, lv, leaf5.map V.str, rfl, .inr (.inr hL), rfl, rfl, _, rfl, iteF ?_⟩
      refine ⟨_, rfl, rfl, _, rfl, iteF ⟨_, rfl, rfl, _, rfl, iteF ⟨_, rfl, rfl, _, rfl, iteF ?_⟩⟩⟩
      exact ⟨_, rfl, p, _, 1, _, rfl, rfl, SqT.of hp, rfl, _, rfl, _, _, .str _, rfl, rfl, hB', ⟨_, rfl⟩, _, rfl, p, _, 2, _, rfl, rfl, SqT.of hp, rfl, d5, fin⟩
    · refine ⟨_, rfl, p, _, 0, _, rfl, rfl, SqT.of hp, rfl, _, rfl, lv, leaf5.map V.str, rfl, .inr (.inr hL), rfl, rfl, _, rfl, iteF ?_⟩
      refine ⟨_, rfl, rfl, _, rfl, iteF ⟨_, rfl, rfl, _, rfl, iteF ⟨_, rfl, rfl, _, rfl, iteF ?_⟩⟩⟩
      exact ⟨_, rfl, p, _, 1, _, rfl, rfl, SqT.of hp, rfl, _, rfl, _, _, .str _, rfl, rfl, hB', ⟨_, rfl⟩, _, rfl, p, _, 2, _, rfl, rfl, SqT.of hp, rfl, d5, fin⟩
end
end K06
set_option Elab.async false
set_option linter.all false
set_option maxRecDepth 100000
set_option maxHeartbeats 4000000
namespace L2
open PySem
theorem flat_len : ∀ ys : List Str, (ys.map (·.length)).sum = (ys.flatMap fun y => y.cps.toList).length
  | [] => rfl
  | y :: ys => by
    rw [List.map_cons, List.sum_cons, List.flatMap_cons, List.length_append, flat_len ys, str_len]
theorem paired_rev' {α : Type} {F : α → V → Prop} : ∀ {as : List α} {us : List V}, Paired F as us → Paired F as.reverse us.reverse
  | _, _, .nil => .nil
  | _, _, .cons r t => by
    rw [List.reverse_cons, List.reverse_cons]
    exact paired_append (paired_rev' t) (.cons r .nil)
theorem paired_last {α : Type} {F : α → V → Prop} : ∀ {as : List α} {a : α} {us : List V}, Paired F (as ++ [a]) us → ∃ us' u, us = us' ++ [u] ∧ Paired F as us' ∧ F a u
  | [], a, _, .cons r t => by cases t; exact ⟨[], _, rfl, .nil, r⟩
  | b :: as, a, _, .cons r t => by
    obtain ⟨us', u, rfl, h1, h2⟩ := paired_last (as := as) t
    exact ⟨_ :: us', u, rfl, .cons r h1, h2⟩
theorem Rep.tupo {H : Hp} {t : Tr} {v : V} (h : Rep H t v) : ∃ p xs, v = .ref p ∧ H p = some (.tup xs) := by
  obtain ⟨p, hs, us, e, hp, _⟩ := h.all
  exact ⟨p, _, e, hp⟩
end L2
namespace K06
open PySem PySem.Spec L2 PyProof.Rows
abbrev s_shown : Stmt := top 13
theorem sc_shown : FnScope ["tree", "texts", "waiting", "piece"] ["tree"] (defScope s_shown) := ⟨rfl, rfl, rfl, by decide +kernel, rfl, by decide +kernel, by decide +kernel⟩
section
variable {P : Program} {w : World} {K : PySem.W.Frag} {mg : Str → Option Value} {base : Heap}
def sp_shown : Sp := fun vs H Q _ => ∃ (t : Tr) (v : V), vs = [v] ∧ Rep H t v ∧ TOk t ∧ (txT t).length ≤ 4000 ∧ ∀ H', Same H H' → Q (.str (sOf (txT t))) H'
theorem ok_shown {k : Nat} {f g1 : Addr} {fd gd1 : FuncData} (F : Fun K "shown" "shown" s_shown f fd) (z_isinstance : mg "isinstance" = none) (z_str : mg "str" = none) (G_written_row : FnB P w K mg base k "written_row" g1 gd1 ["tree"] sp_row) : FnOk P w K mg base CX0 (k + 1) f fd ["tree"] sp_shown := by
  refine F.ok sc_shown (fun vs H Q E h => ?_) (fun cdv A outer s H vs Q E hr h => ?_)
  · obtain ⟨t, v, rfl, _⟩ := h
    rfl
  obtain ⟨t, v, rfl, hR, ok, hlen, q⟩ := h
  refine ⟨_, (pss_cons (ps_set (i := 1) sc_shown.nd rfl (Or.inl rfl) (pe_lst pa_nil : PE _ _ _))
    (pss_cons (ps_set (i := 2) sc_shown.nd rfl (Or.inl rfl) (pe_lst (pa_cons (pv 0) pa_nil) : PE _ _ _))
    (pss_cons (ps_while PassesOwn.never (pt_truth (pv 2) (fun _ => rfl)) (pss_cons (ps_set (i := 3) sc_shown.nd rfl (Or.inl rfl) (pe_bm0 PySem.F.plainAttrs_list PySem.F.slot_list_pop PySem.F.type_list_pop mt_pop (pv 2)))
    (pss_one (ps_if (pt_val (pe_callB call_isi (by rfl) z_isinstance PyProof.Rows.boot_isinstance (pa_cons (pv 3) (pa_cons (pe_bltn (v := .ty _) (by rfl) z_str PyProof.Rows.boot_str (by rfl)) pa_nil)))) (pss_one (ps_expr (pe_bm PySem.F.plainAttrs_list PySem.F.slot_list_append PySem.F.type_list_append mt_append (pv 1) (pa_cons (pv 3) pa_nil)))) (pss_one (ps_expr (pe_bm PySem.F.plainAttrs_list PySem.F.slot_list_extend PySem.F.type_list_extend mt_extend (pv 2) (pa_cons (pe_revL (pe_call G_written_row.ok hr (by rfl) G_written_row.gl G_written_row.kp G_written_row.bd .nil pass0 (pa_cons (pv 3) pa_nil)) (po_some (pe_un un_neg pe_int))) pa_nil))))))))
    (pss_one (ps_ret (pe_bm PySem.F.plainAttrs_str PySem.F.slot_str_join PySem.F.type_str_join mt_join pe_str (pa_cons (pv 1) pa_nil))))))), ?_⟩
  have d0 : 0 ≤ sizeLine := by decide
  have d1 : 1 ≤ sizeLine := by decide
  refine ⟨d0, fun tl htl => ⟨_, rfl, d1, fun wl hwl => ?_⟩⟩
  have ntw : tl ≠ wl := fun z => by rw [← z, upd_same] at hwl; cases hwl
  have hwl0 : H wl = none := by rw [upd_ne (Ne.symm ntw)] at hwl; exact hwl
  have g0 : Same H (upd (upd H tl (.lst [])) wl (.lst [v])) := (same_upd htl).trans (same_upd hwl)
  have hw9 := wt_txt ok
  refine ⟨fun m σ' H' => ∃ (ys : List Str) (ps : List Pc) (us : List V) (s3 : Option V), σ' = [some v, some (.ref tl), some (.ref wl), s3] ∧ Same H H' ∧ H' tl = some (.lst (ys.map V.str)) ∧ H' wl = some (.lst us) ∧ Paired (PcRep H') ps us ∧ (∀ p ∈ ps, PcOk p) ∧ (ys.flatMap fun y => y.cps.toList) ++ ps.reverse.flatMap pcT = txT t ∧ ys.length + wtS ps ≤ 12000 ∧ m = wtS ps,
    ⟨wtT t, [], [.inr t], [v], none, rfl, g0, by rw [upd_ne ntw, upd_same]; rfl, upd_same, .cons (hR.mono g0.tk) .nil, ?_, ?_, ?_, ?_⟩, ?_⟩
  · intro p hp
    rw [List.mem_singleton.mp hp]
    exact ok
  · simp [pcT]
  · show 0 + (wtT t + 0) ≤ 12000
    omega
  · show wtT t = wtT t + 0
    rfl
  rintro m σ' H1 ⟨ys, ps, us, s3, rfl, g1, ht1, hw1, pr1, ok1, e1, hb1, rfl⟩
  refine ⟨_, rfl, _, .inl ⟨us, SqL.of hw1, rfl⟩, ?_⟩
  refine ite2 (fun c => ?_) (fun c => ?_)
  · refine ⟨_, fun _ _ h => h, ?_⟩
    obtain ⟨ps', p, rfl⟩ : ∃ ps' p, ps = ps' ++ [p] := by
      have hne : ps ≠ [] := fun z => by
        subst z
        cases pr1
        simp at c
      exact ⟨ps.dropLast, ps.getLast hne, (List.dropLast_concat_getLast hne).symm⟩
    obtain ⟨us', u, rfl, pr', pu⟩ := paired_last pr1
    have okp := ok1 p (by simp)
    have ok' : ∀ x ∈ ps', PcOk x := fun x hx => ok1 x (by simp [hx])
    rw [wtS_app] at hb1
    have hp1 := wtP_pos p
    have ew : wtS [p] = wtP p := rfl
    rw [List.reverse_append, List.flatMap_append] at e1
    refine ⟨_, rfl, .inl ⟨rfl, _, SqL.of hw1⟩, wl, _, u, rfl, rfl, hw1, by simp, ?_⟩
    rw [List.dropLast_concat]
    have g2 : Same H (upd H1 wl (.lst us')) := same_set g1 hwl0
    have tk2 : Tk H1 (upd H1 wl (.lst us')) := fun b xs e => by rw [upd_ne (fun z => by rw [z, hw1] at e; cases e)]; exact e
    have ht2 : (upd H1 wl (.lst us')) tl = some (.lst (ys.map V.str)) := by rw [upd_ne ntw]; exact ht1
    have hw2 : (upd H1 wl (.lst us')) wl = some (.lst us') := upd_same
    have pr2 : Paired (PcRep (upd H1 wl (.lst us'))) ps' us' := Paired.mapP pr' fun _ _ z => z.mono tk2
    have pu2 : PcRep (upd H1 wl (.lst us')) p u := pu.mono tk2
    generalize upd H1 wl (.lst us') = H2 at g2 ht2 hw2 pr2 pu2 ⊢
    cases p with
    | inl x =>
      have eu : u = .str (sOf x) := pu2
      subst eu
      refine ⟨_, rfl, .str (sOf x), "str", _, true, rfl, .str _, rfl, _, rfl, iteT ?_⟩
      refine ⟨_, rfl, .inl ⟨rfl, _, SqL.of ht2⟩, _, rfl, tl, _, _, rfl, rfl, ht2, line_lt (by rw [List.length_map]; omega), ?_⟩
      refine ⟨wtS ps', by rw [wtS_app]; omega, ys ++ [sOf x], ps', us', some (.str (sOf x)), rfl, same_set g2 htl, ?_, ?_, Paired.mapP pr2 fun _ _ z => z.mono fun b xs e => by rw [upd_ne (fun z => by rw [z, ht2] at e; cases e)]; exact e, ok', ?_, ?_, rfl⟩
      · rw [upd_same, List.map_append]
        rfl
      · rw [upd_ne (Ne.symm ntw)]
        exact hw2
      · rw [List.flatMap_append, List.flatMap_cons, sOf_list, ← e1]
        simp [pcT]
      · rw [List.length_append, List.length_singleton]
        have : wtP (.inl x) = 1 := rfl
        omega
    | inr t' =>
      have ru : Rep H2 t' u := pu2
      obtain ⟨p9, xs9, rfl, hp9⟩ := ru.tupo
      refine ⟨_, rfl, .ref p9, "str", _, false, rfl, .tup hp9, rfl, _, rfl, iteF ?_⟩
      refine ⟨_, rfl, .inl ⟨rfl, _, SqL.of hw2⟩, _, rfl, t', _, rfl, ru, okp, fun l us2 H3 g3 hl nl pr3 => ?_⟩
      have hw3 := g3 _ _ hw2
      have ht3 := g3 _ _ ht2
      refine ⟨1, rfl, -1, rfl, rfl, l, us2, rfl, SqL.of hl, fun lp hlp => ?_⟩
      have g4 := same_upd (o := .lst us2.reverse) hlp
      have lrow : us2.length = (rowP t').length := paired_len pr3
      have wrow := wt_row t'
      have lr2 := wtS_len (rowP t')
      have lps := wtS_len ps'
      have lu' : us'.length = ps'.length := paired_len pr2
      have ewt : wtP (.inr t') = wtT t' := rfl
      refine ⟨wl, lp, _, _, rfl, rfl, g4 _ _ hw3, upd_same, line_of (by rw [List.length_reverse]; omega), ?_⟩
      have hw4 := g4 _ _ hw3
      have ht4 := g4 _ _ ht3
      have tk5 : Tk (upd H3 lp (.lst us2.reverse)) (upd (upd H3 lp (.lst us2.reverse)) wl (.lst (us' ++ us2.reverse))) := fun b xs e => by rw [upd_ne (fun z => by rw [z, hw4] at e; cases e)]; exact e
      refine ⟨wtS ps' + wtS (rowP t'), by rw [wtS_app]; omega, ys, ps' ++ (rowP t').reverse, us' ++ us2.reverse, some (.ref p9), rfl, same_set (g2.trans (g3.trans g4)) hwl0, ?_, upd_same, ?_, ?_, ?_, ?_, ?_⟩
      · rw [upd_ne ntw]
        exact ht4
      · refine paired_append ?_ ?_
        · exact Paired.mapP pr2 fun _ _ z => z.mono ((g3.trans g4).tk.trans tk5)
        · exact paired_rev' (Paired.mapP pr3 fun _ _ z => z.mono (g4.tk.trans tk5))
      · intro x hx
        rcases List.mem_append.mp hx with h | h
        · exact ok' x h
        · exact rowP_ok okp x (List.mem_reverse.mp h)
      · rw [List.reverse_append, List.reverse_reverse, List.flatMap_append, rowP_txt, ← e1]
        simp [pcT]
      · rw [wtS_app, wtS_rev]
        omega
      · rw [wtS_app, wtS_rev]
  · have hus : us = [] := by
      cases us with
      | nil => rfl
      | cons _ _ => simp at c
    subst hus
    cases pr1
    rw [List.reverse_nil, List.flatMap_nil, List.append_nil] at e1
    have hl := flat_len ys
    rw [e1] at hl
    refine ⟨rfl, _, rfl, _, tl, ys, rfl, rfl, ht1, by decide +kernel, by omega, ?_⟩
    rw [join_none, e1]
    exact q H1 g1
end
end K06
set_option Elab.async false
set_option linter.all false
set_option maxRecDepth 100000
set_option maxHeartbeats 4000000
namespace L2
open PySem
theorem atI_in {α : Type} {xs : List α} {i : Int} (h0 : 0 ≤ i) (h1 : i < xs.length) : ∃ v, v ∈ xs ∧ atI xs i = some v := by
  have hl : i.toNat < xs.length := by omega
  have e : ((i.toNat : Nat) : Int) = i := by omega
  refine ⟨xs[i.toNat], List.getElem_mem hl, ?_⟩
  have := atI_nat (xs := xs) (j := i.toNat) (v := xs[i.toNat]) (List.getElem?_eq_getElem hl)
  rwa [e] at this
theorem paired_take {α : Type} {F : α → V → Prop} : ∀ {as : List α} {us : List V} (n : Nat), Paired F as us → Paired F (as.take n) (us.take n)
  | _, _, 0, _ => by rw [List.take_zero, List.take_zero]; exact .nil
  | _, _, _ + 1, .nil => .nil
  | _, _, n + 1, .cons h t => .cons h (paired_take n t)
theorem paired_drop {α : Type} {F : α → V → Prop} : ∀ {as : List α} {us : List V} (n : Nat), Paired F as us → Paired F (as.drop n) (us.drop n)
  | _, _, 0, h => h
  | _, _, _ + 1, .nil => .nil
  | _, _, n + 1, .cons _ t => paired_drop n t
theorem cut_front (xs : List V) (k : Int) (h : 0 ≤ k) : cutV xs none (some k) = xs.take k.toNat := by
  have e : ((k.toNat : Nat) : Int) = k := by omega
  unfold cutV
  rw [HT.sIx_none, ← e, HT.sIx_nat, Int.toNat_natCast, List.drop_zero, Nat.sub_zero]
  rcases Nat.le_total k.toNat xs.length with h | h
  · rw [Nat.min_eq_left h]
  · rw [Nat.min_eq_right h, List.take_length, List.take_of_length_le h]
theorem cut_back (xs : List V) (k : Int) (h : 0 ≤ k) : cutV xs (some k) none = xs.drop k.toNat := by
  have e : ((k.toNat : Nat) : Int) = k := by omega
  unfold cutV
  rw [HT.sIx_none, ← e, HT.sIx_nat, Int.toNat_natCast]
  rcases Nat.le_total k.toNat xs.length with h | h
  · rw [Nat.min_eq_left h, List.take_of_length_le (by rw [List.length_drop]; exact Nat.le_refl _)]
  · rw [Nat.min_eq_right h, List.drop_length, List.drop_of_length_le h]
    simp
theorem kept_h : ∀ y ∈ kept11, 1 ≤ (Str.ofString "h" ++ Txt.slice y (some 1) none).length ∧ (Str.ofString "h" ++ Txt.slice y (some 1) none).length ≤ 8 ∧ (∀ c ∈ (Str.ofString "h" ++ Txt.slice y (some 1) none).cps.toList, c ∈ abcS.cps.toList) ∧ (Str.ofString "h" ++ Txt.slice y (some 1) none) ∉ kept11 := by decide +kernel
theorem kept_in {x : Str} (h : inV (.str x) (kept11.map V.str) = true) : x ∈ kept11 := by
  unfold inV at h
  obtain ⟨v, hv, e⟩ := List.any_eq_true.mp h
  obtain ⟨y, hy, rfl⟩ := List.mem_map.mp hv
  rw [eqV_str] at e
  exact e ▸ hy
theorem num_len {n : Int} {k : Nat} (h0 : 0 ≤ n) (h1 : n < 10 ^ (k + 1)) : (numT n).length ≤ k + 1 := by
  obtain ⟨m, rfl⟩ := Int.eq_ofNat_of_zero_le h0
  have es : (numT ((m : Nat) : Int)).cps.toList = (Nat.toDigits 10 m).map Char.toNat := PySem.W.KIN.signs_num m
  have ll := str_len (numT ((m : Nat) : Int))
  rw [es, List.length_map] at ll
  rw [← ll]
  refine dig_len k m ?_
  have : ((m : Nat) : Int) < ((10 ^ (k + 1) : Nat) : Int) := by rw [Int.natCast_pow]; exact h1
  exact Int.ofNat_lt.mp this
end L2
namespace K06
open PySem PySem.Spec L2 PyProof.Rows
abbrev s_law_cell_at : Stmt := top 35
theorem sc_law_cell_at : FnScope ["_law_script", "_law_k"] ["_law_script", "_law_k"] (defScope s_law_cell_at) := ⟨rfl, rfl, rfl, by decide +kernel, rfl, by decide +kernel, by decide +kernel⟩
abbrev s_law_word : Stmt := top 36
theorem sc_law_word : FnScope ["_law_cell", "_law_letters", "_law_number", "_law_word_here", "_law_j", "_law_turn"] ["_law_cell"] (defScope s_law_word) := ⟨rfl, rfl, rfl, by decide +kernel, rfl, by decide +kernel, by decide +kernel⟩
section
variable {P : Program} {w : World} {K : PySem.W.Frag} {mg : Str → Option Value} {base : Heap}
def sp_cell_at (K : PySem.W.Frag) : Sp := fun vs H Q _ => ∃ (a : Addr) (ns : List Int) (k : Int), vs = [.ref a, .int k] ∧ SqL K H a (ns.map V.int) ∧ 0 ≤ k ∧ ∀ i : Int, Q (.int i) H
theorem ok_cell_at {k : Nat} {f : Addr} {fd : FuncData} (F : Fun K "_law_cell_at" "_law_cell_at" s_law_cell_at f fd) (z_len : mg "len" = none) : FnOk P w K mg base CX0 (k + 1) f fd ["_law_script", "_law_k"] (sp_cell_at K) := by
  refine F.ok sc_law_cell_at (fun vs H Q E h => ?_) (fun cdv A outer s H vs Q E hr h => ?_)
  · obtain ⟨a, ns, k, rfl, _⟩ := h
    rfl
  obtain ⟨a, ns, k, rfl, hS, h0, q⟩ := h
  refine ⟨_, (pss_cons (ps_if (pt_cmpR op_lt (pv 1) (pe_callB call_len_seq (by rfl) z_len PySem.boot_len (pa_cons (pv 0) pa_nil)) (nomark _)) (pss_one (ps_ret (pe_ix (r := rIxL K) ix_list (pv 0) (pv 1) (fun _ _ => rfl)))) pss_nil)
    (pss_one (ps_ret pe_int))), ?_⟩
  refine ⟨_, rfl, _, rfl, a, _, rfl, .inl hS, _, _, rfl, rfl, _, rfl, ?_⟩
  refine ite2 (fun c => ?_) (fun c => ?_)
  · have c' : k < ((ns.map V.int).length : Int) := of_decide_eq_true c
    obtain ⟨v, hv, e⟩ := atI_in h0 c'
    obtain ⟨i, _, rfl⟩ := List.mem_map.mp hv
    exact ⟨_, rfl, _, rfl, a, _, k, _, rfl, rfl, hS, e, q i⟩
  · exact q 0
def sp_lword : Sp := fun vs H Q _ => ∃ (c : Int), vs = [.int c] ∧ ∀ (x : Str) (H' : Hp), Same H H' → WOk x → Q (.str x) H'
theorem ok_lword {k : Nat} {f : Addr} {fd : FuncData} (F : Fun K "_law_word" "_law_word" s_law_word f fd) (z_range : mg "range" = none) : FnOk P w K mg base CX0 (k + 1) f fd ["_law_cell"] sp_lword := by
  refine F.ok sc_law_word (fun vs H Q E h => ?_) (fun cdv A outer s H vs Q E hr h => ?_)
  · obtain ⟨c, rfl, _⟩ := h
    rfl
  obtain ⟨c, rfl, q⟩ := h
  refine ⟨_, (pss_cons (ps_set (i := 1) sc_law_word.nd rfl (Or.inl rfl) pe_str)
    (pss_cons (ps_set (i := 2) sc_law_word.nd rfl (Or.inl rfl) (pe_op op_mod (pv 0) (pe_op op_pow pe_int pe_int)))
    (pss_cons (ps_set (i := 3) sc_law_word.nd rfl (Or.inl rfl) pe_str)
    (pss_cons (ps_for PassesOwn.never rfl (pi_range1 (by rfl) z_range (pa_cons (pe_op op_add pe_int (pe_op op_mod (pv 2) pe_int)) pa_nil)) (pg_name (i := 4) sc_law_word.nd rfl (Or.inl rfl)) (pss_cons (ps_set (i := 5) sc_law_word.nd rfl (Or.inl rfl) (pe_op op_mul (pe_op op_fdiv (pv 2) pe_int) (pe_op op_add (pe_op op_mul pe_int (pv 4)) pe_int)))
    (pss_one (ps_set (i := 3) sc_law_word.nd rfl (Or.inl rfl) (pe_op op_add_str (pv 3) (pe_ix ix_str (pv 1) (pe_op op_mod (pe_op op_add (pv 5) (pe_op op_fdiv (pe_op op_fdiv (pv 2) pe_int) (pe_op op_add (pv 4) pe_int))) pe_int) (fun _ _ => rfl)))))))
    (pss_cons (ps_if (pt_cmpR (r := rIn K false) op_in_seq (pv 3) (pe_tupR [.str "let", .str "in", .str "if", .str "then", .str "else", .str "say", .str "ask", .str "stop", .str "where", .str "quiet", .str "number"] (by rfl) : PE _ _ _) rfl) (pss_one (ps_ret (pe_op op_add_str pe_str (pe_slice sl_str (pv 3) (po_some pe_int) po_none)))) pss_nil)
    (pss_one (ps_ret (pv 3)))))))), ?_⟩
  have hLlen : abcS.length = 26 := by decide +kernel
  have hLl : ((abcS.cps.toList).length : Int) = 26 := by rw [str_len, hLlen]; rfl
  refine ⟨_, rfl, _, _, rfl, rfl, ⟨by decide, by decide, by decide⟩, _, _, rfl, rfl, (show (0 : Int) < 10 ^ 18 by decide), ?_⟩
  dsimp only
  have hN0 : 0 ≤ c % (10 ^ (18 : Int).toNat) := Int.emod_nonneg _ (by decide)
  have hN1 : c % (10 ^ (18 : Int).toNat) < 1000000000000000000 := Int.emod_lt_of_pos _ (by decide)
  generalize c % (10 ^ (18 : Int).toNat) = N at hN0 hN1 ⊢
  refine ⟨_, rfl, _, _, rfl, rfl, (show (0 : Int) < 8 by decide), _, _, rfl, rfl, 1 + N % 8, rfl, by omega, by omega, ?_⟩
  refine for_range (n := (1 + N % 8).toNat) (fun i σ' H' => ∃ (x : Str) (s4 s5 : Option V), σ' = [some (.int c), some (.str abcS), some (.int N), some (.str x), s4, s5] ∧ H' = H ∧ x.length = i ∧ ∀ d ∈ x.cps.toList, d ∈ abcS.cps.toList) ?_ ?_ ?_
  · exact ⟨_, none, none, rfl, rfl, by decide +kernel, by decide +kernel⟩
  · rintro i σ1 H1 hi ⟨x, s4, s5, rfl, rfl, hx, hab⟩
    refine ⟨_, rfl, _, _, rfl, rfl, ⟨(show (0 : Int) < 8 by decide), (show (8 : Int) < 1073741824 by decide)⟩, _, rfl, _, _, rfl, rfl, .inl ⟨(by decide), (by decide)⟩, _, _, rfl, rfl, _, _, rfl, rfl, .inl ⟨(by omega), (by omega)⟩, ?_⟩
    obtain ⟨ch, hch, e1⟩ := atI_in (xs := abcS.cps.toList) (i := (N / 8 * (2 * (0 + (i : Int)) + 3) + N / 700 / (0 + (i : Int) + 1)) % 26) (by omega) (by omega)
    refine ⟨_, rfl, _, rfl, _, rfl, _, rfl, _, _, rfl, rfl, ⟨(show (0 : Int) < 700 by decide), (show (700 : Int) < 1073741824 by decide)⟩, _, rfl, _, _, rfl, rfl, _, _, rfl, rfl, ⟨(by omega), (by omega)⟩, _, _, rfl, rfl, _, _, rfl, rfl, (show (0 : Int) < 26 by decide), abcS, _, ch, rfl, rfl, line1000 (by rw [hLlen]; decide), e1, _, _, rfl, rfl, line1000 ?_, ?_⟩
    · show x.length + 1 ≤ 1000
      omega
    · refine ⟨_, _, _, rfl, rfl, ?_, ?_⟩
      · have : (x ++ (⟨#[ch]⟩ : Str)).length = x.length + 1 := by
          show (x.cps ++ #[ch]).size = x.cps.size + 1
          simp
        omega
      · intro d hd
        rw [app_list] at hd
        rcases List.mem_append.mp hd with h | h
        · exact hab d h
        · have : d = ch := by simpa using h
          rw [this]
          exact hch
  · rintro σ1 H1 ⟨x, s4, s5, rfl, rfl, hx, hab⟩
    refine ⟨_, rfl, (by show 11 ≤ sizeLine; decide), fun p hp => ⟨p, kept11.map V.str, rfl, .inr (SqT.of upd_same), rfl, rfl, _, rfl, ?_⟩⟩
    refine ite2 (fun hin => ?_) (fun hin => ?_)
    · obtain ⟨k1, k2, k3, k4⟩ := kept_h x (kept_in hin)
      refine ⟨_, rfl, _, rfl, x, rfl, line1000 (by omega), fun hle => ⟨_, _, rfl, rfl, line1000 ?_, q _ _ (same_upd hp) ⟨k1, k2, k3, k4⟩⟩⟩
      have : (Str.ofString "h").length = 1 := by decide +kernel
      omega
    · refine ⟨_, rfl, q _ _ (same_upd hp) ⟨by omega, by omega, hab, fun z => hin ?_⟩⟩
      show inV (.str x) (kept11.map V.str) = true
      unfold inV
      exact List.any_eq_true.mpr ⟨.str x, List.mem_map_of_mem z, by rw [eqV_str]⟩
end
end K06
set_option Elab.async false
set_option linter.all false
set_option maxRecDepth 100000
set_option maxHeartbeats 4000000
namespace L2
open PySem PySem.Spec PyProof.Rows
section
variable {X : Cx} {o e : Expr} {es : List Expr} {te to : TE} {t : TA} {name x : Str} {apos cpos pos p : Pos} {T id : String}
theorem ps_exprS (he : Sd (PE X e te)) (hs : swapsWith e none pos.line X.env = pure false := by rfl) : Sd (PS X (.Expr e pos) (tDrop te)) := ⟨ps_expr he.un hs⟩
theorem pe_bmS {r : V → List V → Hp → VK → Prop} (pa : PlainAttrs T) (slot : Slot T name id) (hty : typeOf (.builtin id) = pure (.type "method_descriptor")) (hm : MtR X id r) (ho : Sd (PE X o to)) (ha : Sd (PA X (e :: es) t))
    (hbase : attributeBase o name X.env (eval o X.env) = eval o X.env := by rfl)
    (hfew : ((backTo cpos (starEach (e :: es) X.env)).all (fun x => !x.1) && (backToKw cpos (keywordEach [] X.env)).all (fun x => x.1.isSome) && decide ((e :: es).length + ([] : List Keyword).length + (if ([] : List Keyword).isEmpty then 0 else 1) < 30)) = true := by rfl)
    (hline : (apos.endLine == cpos.line) = true := by rfl) (hs : starEach (e :: es) X.env = (false, eval e X.env) :: starEach es X.env := by rfl) (hplain : (backTo cpos (starEach es X.env)).any (·.1) = false := by rfl) :
    Sd (PE X (.Call (.Attribute o name apos) (e :: es) [] cpos) (tBM X.K T r to t)) := ⟨pe_bm pa slot hty hm ho.un ha.un hbase hfew hline hs hplain⟩
theorem pe_callTyS {r : List V → Hp → VK → Prop} (hc : CallR X (.type T) r) (hg : Gl X x) (hm : X.mg x = none) (hv : bootBuiltins x = some (.type T)) (ha : Sd (PA X (e :: es) t)) (hn : x ≠ "__name__" := by decide) (hdb : (x == ("__debug__" : Str)) = false := by decide)
    (he : starEach (e :: es) X.env = (false, eval e X.env) :: starEach es X.env := by rfl) (hpl : (backTo pos (starEach es X.env)).any (·.1) = false := by rfl) : Sd (PE X (.Call (.Name x p) (e :: es) [] pos) (tCB r t)) := ⟨pe_callTy hc hg hm hv ha.un hn hdb he hpl⟩
end
instance instDecDt : DecidableEq Dt := fun a b => decidable_of_iff (Dt.beq a b = true) Dt.beq_iff
def lookB (x : Str) : List Str → Option Nat
  | [] => none
  | y :: r => if y = x then some 0 else (lookB x r).map (· + 1)
def keyB (x : Str) (rs : List Str) : Nat ⊕ Str := match lookB x rs with
  | some k => .inl k
  | none => .inr x
def keyD : Nat ⊕ Str → Dt
  | .inl k => .tup [.str "bound", .int k]
  | .inr z => .tup [.str "free", .str z]
def bareN (x : Str) (bs : List Str) : Dt := keyD (keyB x bs.reverse)
inductive Lf where
  | name (x : Str) | num (n : Int) | gap (g : Str) | ask (x : Str) | stop (x : Str)
def dtL : Lf → List Dt
  | .name x => [.str "name", .str x] | .num n => [.str "num", .int n] | .gap g => [.str "gap", .str g, .tup []] | .ask x => [.str "ask", .str x] | .stop x => [.str "stop", .str x]
def bareL (l : Lf) (bs : List Str) : Dt := match l with
  | .name x => bareN x bs
  | l => .tup (dtL l)
def Atom.lf : Atom → Lf
  | .name x => .name x | .num n => .num n | .gap g => .gap g
def bareA (bs : List Str) (a : Atom) : Dt := bareL a.lf bs
def bare : Tr → List Str → Dt
  | .num n, _ => .tup [.str "num", .int n]
  | .name x, bs => bareN x bs
  | .ask x, _ => .tup [.str "ask", .str x]
  | .stop x, _ => .tup [.str "stop", .str x]
  | .gap g as, bs => .tup [.str "gap", .str g, .tup (as.map (bareA bs))]
  | .say a, bs => .tup [.str "say", bare a bs]
  | .bin o a b, bs => .tup [.str o.s, bare a bs, bare b bs]
  | .ite a b c, bs => .tup [.str "if", bare a bs, bare b bs, bare c bs]
  | .lett x a b, bs => .tup [.str "let", bare a bs, bare b (bs ++ [x])]
end L2
set_option Elab.async false
set_option linter.all false
set_option maxRecDepth 100000
set_option maxHeartbeats 4000000
namespace L2
open PySem
theorem atoms_len {as : List Atom} {L : Nat} (h : ∀ a ∈ as, (txA a).length ≤ L) (h3 : as.length ≤ 3) : (txAs as).length ≤ 1 + 3 * (L + 1) := by
  rcases as with _ | ⟨a, _ | ⟨b, _ | ⟨c, _ | ⟨d, as⟩⟩⟩⟩
  · simp [txAs]
  · have h1 := h a (by simp)
    simp [txAs, moreA]
    omega
  · have h1 := h a (by simp)
    have h2 := h b (by simp)
    simp [txAs, moreA]
    omega
  · have h1 := h a (by simp)
    have h2 := h b (by simp)
    have h4 := h c (by simp)
    simp [txAs, moreA]
    omega
  · simp at h3
end L2
namespace K06
open PySem PySem.Spec L2 PyProof.Rows
abbrev s_law_leaf : Stmt := top 37
theorem sc_law_leaf : FnScope ["_law_cell", "_law_gaps", "_law_kind", "_law_rest", "_law_some"] ["_law_cell", "_law_gaps"] (defScope s_law_leaf) := ⟨rfl, rfl, rfl, by decide +kernel, rfl, by decide +kernel, by decide +kernel⟩
section
variable {P : Program} {w : World} {K : PySem.W.Frag} {mg : Str → Option Value} {base : Heap}
structure LfOk (t : Tr) : Prop where
  ok : TOk t
  len : (txT t).length ≤ 48
  op : opT t ≤ 1
  dp : dpT t = 0
  lf : leafB t = true
def sp_lleaf : Sp := fun vs H Q _ => ∃ (c : Int) (b : Bool), vs = [.int c, .bl b] ∧ ∀ (t : Tr) (v : V) (H' : Hp), Same H H' → Rep H' t v → LfOk t → Q v H'
theorem ok_lleaf {k : Nat} {f g1 : Addr} {fd gd1 : FuncData} (F : Fun K "_law_leaf" "_law_leaf" s_law_leaf f fd) (z_tuple : mg "tuple" = none) (G_law_word : FnB P w K mg base k "_law_word" g1 gd1 ["_law_cell"] sp_lword) : FnOk P w K mg base CX0 (k + 1) f fd ["_law_cell", "_law_gaps"] sp_lleaf := by
  refine F.ok sc_law_leaf (fun vs H Q E h => ?_) (fun cdv A outer s H vs Q E hr h => ?_)
  · obtain ⟨c, b, rfl, _⟩ := h
    rfl
  obtain ⟨c, b, rfl, q⟩ := h
  refine ⟨_, (Sd.un (pss_consS (ps_setS (i := 2) sc_law_leaf.nd rfl (Or.inl rfl) ⟨pe_op op_mod (pv 0) pe_int⟩)
    (pss_consS (ps_setS (i := 3) sc_law_leaf.nd rfl (Or.inl rfl) ⟨pe_op op_fdiv (pv 0) pe_int⟩)
    (pss_consS (ps_ifS ⟨pt_cmpR op_lt (pv 2) pe_int (nomark _)⟩ (pss_oneS (ps_retS (pe_tupS (pa_consS ⟨pe_str⟩ (pa_consS (pe_ixS (r := rIxL K) ix_list (pe_lstS (pa_consS ⟨pe_op op_mod (pv 3) (pe_op op_pow pe_int pe_int)⟩ (pa_consS ⟨pe_op op_mod (pv 3) pe_int⟩ ⟨pa_nil⟩))) ⟨pv 2⟩ (fun _ _ => rfl)) ⟨pa_nil⟩))))) ⟨pss_nil⟩)
    (pss_consS (ps_ifS ⟨pt_cmpR op_eq (pv 2) pe_int (nomark _)⟩ (pss_oneS (ps_retS (pe_tupS (pa_consS ⟨pe_str⟩ (pa_consS ⟨pe_call G_law_word.ok hr (by rfl) G_law_word.gl G_law_word.kp G_law_word.bd .nil pass0 (pa_cons (pv 3) pa_nil)⟩ ⟨pa_nil⟩))))) ⟨pss_nil⟩)
    (pss_consS (ps_ifS ⟨pt_cmpR op_eq (pv 2) pe_int (nomark _)⟩ (pss_oneS (ps_retS (pe_tupS (pa_consS ⟨pe_str⟩ (pa_consS ⟨pe_call G_law_word.ok hr (by rfl) G_law_word.gl G_law_word.kp G_law_word.bd .nil pass0 (pa_cons (pv 3) pa_nil)⟩ ⟨pa_nil⟩))))) ⟨pss_nil⟩)
    (pss_consS (ps_ifS ⟨(pw_and (pt_cmpR op_eq (pv 2) pe_int (nomark _)) (pw_and1 (pt_truth (pv 1) (fun _ => rfl)))).pt⟩ (pss_consS (ps_setS (i := 4) sc_law_leaf.nd rfl (Or.inl rfl) (pe_lstS (pa_consS (pe_tupS (pa_consS ⟨pe_str⟩ (pa_consS ⟨pe_call G_law_word.ok hr (by rfl) G_law_word.gl G_law_word.kp G_law_word.bd .nil pass0 (pa_cons (pe_op op_fdiv (pv 3) pe_int) pa_nil)⟩ ⟨pa_nil⟩))) (pa_consS (pe_tupS (pa_consS ⟨pe_str⟩ (pa_consS ⟨pe_op op_mod (pv 3) pe_int⟩ ⟨pa_nil⟩))) ⟨pa_nil⟩))))
    (pss_consS (ps_exprS (pe_bmS PySem.F.plainAttrs_list PySem.F.slot_list_append PySem.F.type_list_append mt_append ⟨pv 4⟩ (pa_consS (pe_tupS (pa_consS ⟨pe_str⟩ (pa_consS ⟨pe_call G_law_word.ok hr (by rfl) G_law_word.gl G_law_word.kp G_law_word.bd .nil pass0 (pa_cons (pe_op op_fdiv (pv 3) pe_int) pa_nil)⟩ (pa_consS (pe_tupS ⟨pa_nil⟩) ⟨pa_nil⟩)))) ⟨pa_nil⟩)))
    (pss_oneS (ps_retS (pe_tupS (pa_consS ⟨pe_str⟩ (pa_consS ⟨pe_call G_law_word.ok hr (by rfl) G_law_word.gl G_law_word.kp G_law_word.bd .nil pass0 (pa_cons (pe_op op_fdiv (pv 3) pe_int) pa_nil)⟩ (pa_consS (pe_callTyS call_tuple_of (by rfl) z_tuple PyProof.Rows.boot_tuple (pa_consS ⟨pe_slice (r := rSlL K) sl_list (pe_slice (r := rSlL K) sl_list (pv 4) (po_some (pe_op op_mod (pe_op op_fdiv (pv 3) pe_int) pe_int)) po_none) po_none (po_some (pe_op op_mod (pv 3) pe_int))⟩ ⟨pa_nil⟩)) ⟨pa_nil⟩)))))))) ⟨pss_nil⟩)
    (pss_oneS (ps_retS (pe_tupS (pa_consS ⟨pe_str⟩ (pa_consS ⟨pe_call G_law_word.ok hr (by rfl) G_law_word.gl G_law_word.kp G_law_word.bd .nil pass0 (pa_cons (pv 3) pa_nil)⟩ ⟨pa_nil⟩)))))))))))), ?_⟩
  have d0 : 0 ≤ sizeLine := by decide
  have d2 : 2 ≤ sizeLine := by decide
  have d3 : 3 ≤ sizeLine := by decide
  have z7 : (0 : Int) < 7 := by decide
  have num : ∀ (n : Int) (p : Addr) (H' : Hp), 0 ≤ n → n < 10 ^ 30 → Same H H' → H' p = some (.tup [.str "num", .int n]) → Q (.ref p) H' := fun n p H' h0 h1 g e => by
    refine q (.num n) _ H' g ⟨p, rfl, e⟩ ⟨num_ok h0 h1, ?_, Nat.zero_le _, rfl, rfl⟩
    show (numT n).cps.toList.length ≤ 48
    rw [str_len]
    exact Nat.le_trans (num_ok h0 h1).hi (by decide)
  have word : ∀ (x : Str) (p : Addr) (H' : Hp), WOk x → Same H H' → H' p = some (.tup [.str "name", .str x]) → Q (.ref p) H' := fun x p H' wx g e => by
    refine q (.name x) _ H' g ⟨p, rfl, e⟩ ⟨wx, ?_, Nat.zero_le _, rfl, rfl⟩
    show x.cps.toList.length ≤ 48
    rw [str_len]
    exact Nat.le_trans wx.hi (by decide)
  obtain ⟨l1, l2, _⟩ := tx_lens
  refine ⟨_, rfl, _, _, rfl, rfl, z7, ?_⟩
  refine ⟨_, rfl, _, _, rfl, rfl, ⟨z7, (show (7 : Int) < 1073741824 by decide)⟩, ?_⟩
  dsimp only
  generalize hK : c % 7 = kd
  generalize hR : c / 7 = rs
  have k0 : 0 ≤ kd := by omega
  have k1 : kd < 7 := by omega
  refine ⟨_, rfl, _, _, rfl, rfl, _, rfl, ite2 (fun c1 => ?_) (fun c1 => ?_)⟩
  · have c1' : kd < 2 := of_decide_eq_true c1
    refine ⟨_, rfl, _, _, rfl, rfl, ⟨by decide, by decide, by decide⟩, _, _, rfl, rfl, (show (0 : Int) < 10 ^ 30 by decide), _, rfl, _, _, rfl, rfl, (show (0 : Int) < 12 by decide), d2, fun p1 hp1 => ?_⟩
    dsimp only
    have a0 : 0 ≤ rs % (10 ^ (30 : Int).toNat) := Int.emod_nonneg _ (by decide)
    have a1 : rs % (10 ^ (30 : Int).toNat) < 10 ^ 30 := Int.emod_lt_of_pos _ (by decide)
    generalize rs % (10 ^ (30 : Int).toNat) = A0 at a0 a1 ⊢
    obtain ⟨v, hv, e⟩ := atI_in (xs := [V.int A0, V.int (rs % 12)]) (i := kd) k0 (by show kd < ((2 : Nat) : Int); omega)
    have b1 : rs % 12 < 10 ^ 30 := Int.lt_trans (Int.emod_lt_of_pos rs (show (0 : Int) < 12 by decide)) (by decide)
    have g1 := same_upd (o := .lst [V.int A0, V.int (rs % 12)]) hp1
    refine ⟨_, rfl, p1, _, _, _, rfl, rfl, SqL.of upd_same, e, d2, fun p2 hp2 => ?_⟩
    simp only [List.mem_cons, List.not_mem_nil, or_false] at hv
    rcases hv with rfl | rfl
    · exact num _ _ _ a0 a1 (g1.trans (same_upd hp2)) upd_same
    · exact num _ _ _ (by omega) b1 (g1.trans (same_upd hp2)) upd_same
  refine ⟨_, rfl, rfl, _, rfl, ite2 (fun c2 => ?_) (fun c2 => ?_)⟩
  · refine ⟨_, rfl, rs, rfl, fun x H1 g1 wx => ⟨d2, fun p hp => ?_⟩⟩
    refine q (.ask x) _ _ (g1.trans (same_upd hp)) ⟨p, rfl, upd_same⟩ ⟨wx, ?_, Nat.le_refl _, rfl, rfl⟩
    have := wx.hi
    simp only [txT, List.length_append, l1, str_len, List.length_singleton]
    omega
  refine ⟨_, rfl, rfl, _, rfl, ite2 (fun c3 => ?_) (fun c3 => ?_)⟩
  · refine ⟨_, rfl, rs, rfl, fun x H1 g1 wx => ⟨d2, fun p hp => ?_⟩⟩
    refine q (.stop x) _ _ (g1.trans (same_upd hp)) ⟨p, rfl, upd_same⟩ ⟨wx, ?_, Nat.le_refl _, rfl, rfl⟩
    have := wx.hi
    simp only [txT, List.length_append, l2, str_len, List.length_singleton]
    omega
  have last : ∀ H', Same H H' → True := fun _ _ => trivial
  refine ⟨_, rfl, rfl, _, rfl, ite2 (fun c4 => ?_) (fun c4 => ?_)⟩
  · refine ⟨_, rfl, b, rfl, ite2 (fun c5 => ?_) (fun c5 => ?_)⟩
    rotate_left
    · refine ⟨_, rfl, rs, rfl, fun x H1 g1 wx => ⟨d2, fun p hp => word x p _ wx (g1.trans (same_upd hp)) upd_same⟩⟩
    refine ⟨_, rfl, _, _, rfl, rfl, ⟨(show (0 : Int) < 3 by decide), (show (3 : Int) < 1073741824 by decide)⟩, _, rfl, fun y1 H1 g1 w1 => ⟨d2, fun p1 hp1 => ?_⟩⟩
    refine ⟨_, rfl, _, _, rfl, rfl, (show (0 : Int) < 1000 by decide), d2, fun p2 hp2 => ⟨d2, fun ls hls => ?_⟩⟩
    dsimp only at hp2 hls ⊢
    have m0 : 0 ≤ rs % 1000 := by omega
    have m1 : rs % 1000 < 1000 := by omega
    generalize rs % 1000 = M at m0 m1 hp2 hls ⊢
    have g2 := same_upd (o := .tup [.str "name", .str y1]) hp1
    have g3 := same_upd (o := .tup [.str "num", .int M]) hp2
    have g4 := same_upd (o := .lst [.ref p1, .ref p2]) hls
    have gA := g1.trans (g2.trans (g3.trans g4))
    have hlsH : H ls = none := (g1.trans (g2.trans g3)).free hls
    have t1 := g4 _ _ (g3 _ _ (upd_same (H := H1) (a := p1) (o := .tup [.str "name", .str y1])))
    have t2 := g4 _ _ (upd_same (H := upd H1 p1 (.tup [.str "name", .str y1])) (a := p2) (o := .tup [.str "num", .int M]))
    have els : (upd (upd (upd H1 p1 (.tup [.str "name", .str y1])) p2 (.tup [.str "num", .int M])) ls (.lst [.ref p1, .ref p2])) ls = some (.lst [.ref p1, .ref p2]) := upd_same
    generalize upd (upd (upd H1 p1 (.tup [.str "name", .str y1])) p2 (.tup [.str "num", .int M])) ls (.lst [.ref p1, .ref p2]) = H2 at gA t1 t2 els ⊢
    clear g2 g3 g4
    refine ⟨_, rfl, .inl ⟨rfl, _, SqL.of els⟩, _, rfl, _, _, rfl, rfl, ⟨(show (0 : Int) < 11 by decide), (show (11 : Int) < 1073741824 by decide)⟩, _, rfl, fun y2 H3 g3 w2 => ⟨d0, fun p3 hp3 => ⟨d3, fun p4 hp4 => ?_⟩⟩⟩
    have g4 := same_upd (o := .tup []) hp3
    have g5 := same_upd (o := .tup [.str "gap", .str y2, .ref p3]) hp4
    have gB := g3.trans (g4.trans g5)
    have t3 := g5 _ _ (upd_same (H := H3) (a := p3) (o := .tup []))
    have t4 : (upd (upd H3 p3 (.tup [])) p4 (.tup [.str "gap", .str y2, .ref p3])) p4 = some (.tup [.str "gap", .str y2, .ref p3]) := upd_same
    generalize upd (upd H3 p3 (.tup [])) p4 (.tup [.str "gap", .str y2, .ref p3]) = H4 at gB t3 t4 ⊢
    clear g4 g5
    have els4 := gB _ _ els
    refine ⟨ls, _, _, rfl, rfl, els4, line_lt (show 2 ≤ 1000000 by decide), ?_⟩
    have s5 : Same H (upd H4 ls (.lst ([.ref p1, .ref p2] ++ [.ref p4]))) := same_set (gA.trans gB) hlsH
    have k6 := Tk.lst (o := .lst ([.ref p1, .ref p2] ++ [.ref p4])) els4
    have u1 := k6 _ _ (gB.tk _ _ t1)
    have u2 := k6 _ _ (gB.tk _ _ t2)
    have u3 := k6 _ _ t3
    have u4 := k6 _ _ t4
    have els5 : (upd H4 ls (.lst ([.ref p1, .ref p2] ++ [.ref p4]))) ls = some (.lst ([.ref p1, .ref p2] ++ [.ref p4])) := upd_same
    generalize upd H4 ls (.lst ([.ref p1, .ref p2] ++ [.ref p4])) = H5 at s5 u1 u2 u3 u4 els5 ⊢
    refine ⟨_, rfl, _, _, rfl, rfl, ⟨(show (0 : Int) < 5 by decide), (show (5 : Int) < 1073741824 by decide)⟩, _, rfl, fun y3 H6 g6 w3 => ?_⟩
    have els6 := g6 _ _ els5
    generalize hi : rs / 4 % 3 = zi
    generalize hj : rs % 4 = zj
    have hi0 : 0 ≤ zi := by omega
    have hj0 : 0 ≤ zj := by omega
    refine ⟨_, rfl, _, rfl, _, _, rfl, rfl, ⟨(show (0 : Int) < 4 by decide), (show (4 : Int) < 1073741824 by decide)⟩, _, _, rfl, rfl, (show (0 : Int) < 3 by decide), zi, (by rw [← hi]), ls, _, rfl, SqL.of els6, fun p5 hp5 => ?_⟩
    refine ⟨_, rfl, _, _, rfl, rfl, (show (0 : Int) < 4 by decide), zj, (by rw [← hj]), p5, _, rfl, SqL.of upd_same, fun p6 hp6 => ⟨p6, _, rfl, .inl ⟨SqL.of upd_same, fun p7 hp7 => ⟨d3, fun p8 hp8 => ?_⟩⟩⟩⟩
    rw [cut_back _ _ hi0] at hp6 hp7 hp8 ⊢
    rw [cut_front _ _ hj0] at hp7 hp8 ⊢
    have g7 := same_upd (o := .lst (List.drop zi.toNat ([.ref p1, .ref p2] ++ [.ref p4]))) hp5
    have g8 := same_upd (o := .lst (List.take zj.toNat (List.drop zi.toNat ([.ref p1, .ref p2] ++ [.ref p4])))) hp6
    have g9 := same_upd (o := .tup (List.take zj.toNat (List.drop zi.toNat ([.ref p1, .ref p2] ++ [.ref p4])))) hp7
    have gX := same_upd (o := .tup [.str "gap", .str y3, .ref p7]) hp8
    have gC := g6.trans (g7.trans (g8.trans (g9.trans gX)))
    have hAll : ∀ a ∈ [Atom.name y1, .num M, .gap y2], AOk a ∧ (txA a).length ≤ 9 := by
      intro a ha
      simp only [List.mem_cons, List.not_mem_nil, or_false] at ha
      rcases ha with rfl | rfl | rfl
      · refine ⟨w1, ?_⟩
        show y1.cps.toList.length ≤ 9
        rw [str_len]
        exact Nat.le_trans w1.hi (by decide)
      · refine ⟨num_ok m0 (by omega), ?_⟩
        show (numT M).cps.toList.length ≤ 9
        rw [str_len]
        exact Nat.le_trans (num_len (k := 2) m0 m1) (by decide)
      · refine ⟨w2, ?_⟩
        show (63 :: y2.cps.toList).length ≤ 9
        rw [List.length_cons, str_len]
        exact Nat.succ_le_succ w2.hi
    have hmem : ∀ a ∈ List.take zj.toNat (List.drop zi.toNat [Atom.name y1, .num M, .gap y2]), a ∈ [Atom.name y1, .num M, .gap y2] := fun a ha => List.mem_of_mem_drop (List.mem_of_mem_take ha)
    have l3 : (List.take zj.toNat (List.drop zi.toNat [Atom.name y1, .num M, .gap y2])).length ≤ 3 := by
      rw [List.length_take, List.length_drop]
      show min _ (3 - _) ≤ 3
      omega
    have l3' : (List.take zj.toNat (List.drop zi.toNat ([V.ref p1, .ref p2] ++ [.ref p4]))).length ≤ 1000 := by
      rw [List.length_take, List.length_drop]
      show min _ (3 - _) ≤ 1000
      omega
    refine q (.gap y3 (List.take zj.toNat (List.drop zi.toNat [Atom.name y1, .num M, .gap y2]))) _ _ (s5.trans gC) ⟨p8, p7, _, rfl, upd_same, gX _ _ upd_same, l3', ?_⟩ ⟨⟨w3, fun a ha => (hAll a (hmem a ha)).1, by omega⟩, ?_, Nat.zero_le _, rfl, rfl⟩
    · exact paired_take _ (paired_drop _ (.cons ⟨p1, rfl, gC.tk _ _ u1⟩ (.cons ⟨p2, rfl, gC.tk _ _ u2⟩ (.cons ⟨p4, p3, rfl, gC.tk _ _ u4, gC.tk _ _ u3⟩ .nil))))
    · have h1 := atoms_len (L := 9) (fun a ha => (hAll a (hmem a ha)).2) l3
      have h2 := w3.hi
      simp only [txT, List.length_cons, List.length_append, str_len]
      omega
  · refine iteF ⟨_, rfl, rs, rfl, fun x H1 g1 wx => ⟨d2, fun p hp => word x p _ wx (g1.trans (same_upd hp)) upd_same⟩⟩
end
end K06
set_option Elab.async false
set_option linter.all false
set_option maxRecDepth 100000
set_option maxHeartbeats 4000000
namespace L2
open PySem
theorem sIx_int {n d : Nat} {v : Int} (h0 : 0 ≤ v) (h1 : v ≤ n) : HT.sIx n d (some v) = v.toNat := by
  have e : ((v.toNat : Nat) : Int) = v := by omega
  rw [← e, HT.sIx_nat, Int.toNat_natCast]
  omega
theorem cutInts {ns : List Int} {lo hi : Option Int} {i j : Nat} (h1 : HT.sIx ns.length 0 lo = i) (h2 : HT.sIx ns.length ns.length hi = j) (h : j ≤ ns.length) : ∃ ms : List Int, cutV (ns.map V.int) lo hi = ms.map V.int ∧ ms.length = j - i := by
  refine ⟨(ns.drop i).take (j - i), ?_, ?_⟩
  · unfold cutV
    rw [List.length_map, h1, h2, ← List.map_drop, ← List.map_take]
  · rw [List.length_take, List.length_drop]
    omega
end L2
namespace K06
open PySem PySem.Spec L2 PyProof.Rows
abbrev s_law_tree : Stmt := top 38
theorem sc_law_tree : FnScope ["_law_cells", "_law_deep", "_law_gaps", "_law_number", "_law_rest", "_law_at", "_law_sign", "_law_one", "_law_far", "_law_two", "_law_other"] ["_law_cells", "_law_deep", "_law_gaps"] (defScope s_law_tree) := ⟨rfl, rfl, rfl, by decide +kernel, rfl, by decide +kernel, by decide +kernel⟩
section
variable {P : Program} {w : World} {K : PySem.W.Frag} {mg : Str → Option Value} {base : Heap}
structure GdT (t : Tr) (n : Nat) (d : Int) : Prop where
  ok : TOk t
  len : (txT t).length ≤ 45 * n + 3
  op : (opT t : Int) ≤ d + 1
  dp : (dpT t : Int) ≤ d
def sp_tree (K : PySem.W.Frag) (n : Nat) : Sp := fun vs H Q _ => ∃ (a : Addr) (ns : List Int) (d : Int) (b : Bool), vs = [.ref a, .int d, .bl b] ∧ SqL K H a (ns.map V.int) ∧ ns.length ≤ 63 ∧ 0 ≤ d ∧ d < n ∧ d ≤ 12 ∧
  ∀ (t : Tr) (v : V) (H' : Hp), Same H H' → Rep H' t v → GdT t ns.length d → Q v H'
def kds : List Kd := [.say, .add, .sub, .mul, .thn, .ite, .lett, .sub, .thn]
theorem pickSign (z : Int) : ∃ kd : Kd, kd ∈ kds ∧ atI (kds.map fun k => V.str k.s) (z % 9) = some (.str kd.s) := by
  have hl : ((kds.map fun k => V.str k.s).length : Int) = 9 := rfl
  obtain ⟨v, hv, e⟩ := atI_in (xs := kds.map fun k => V.str k.s) (i := z % 9) (by omega) (by omega)
  obtain ⟨kd, hk, rfl⟩ := List.mem_map.mp hv
  exact ⟨kd, hk, e⟩
theorem gd_say {a : Tr} {n m : Nat} {d : Int} (h : GdT a m (d - 1)) (hn : m + 1 ≤ n) : GdT (.say a) n d := by
  obtain ⟨l1, l2, l3, l4, l5, l6, l7, l8, l9⟩ := tx_lens
  obtain ⟨h1, h2, h3, h4⟩ := h
  refine ⟨h1, ?_, by show ((opT a + 1 : Nat) : Int) ≤ _; omega, by show ((dpT a + 1 : Nat) : Int) ≤ _; omega⟩
  simp only [txT, List.length_append, l3, List.length_singleton]
  omega
theorem gd_bin {o : Bin} {a b : Tr} {n m k : Nat} {d : Int} (h : GdT a m (d - 1)) (h' : GdT b k (d - 1)) (hn : m + k + 1 ≤ n) : GdT (.bin o a b) n d := by
  obtain ⟨h1, h2, h3, h4⟩ := h
  obtain ⟨h1', h2', h3', h4'⟩ := h'
  refine ⟨⟨h1, h1'⟩, ?_, by show ((max (opT a) (opT b) + 1 : Nat) : Int) ≤ _; omega, by show ((max (dpT a) (dpT b) + 1 : Nat) : Int) ≤ _; omega⟩
  simp only [txT, List.length_append, bw_len, List.length_singleton, List.length_cons]
  simp only [List.length_nil]
  omega
theorem gd_ite {a b c : Tr} {n m k l : Nat} {d : Int} (h : GdT a m (d - 1)) (h' : GdT b k (d - 1)) (h'' : GdT c l (d - 1)) (hn : m + k + l + 1 ≤ n) : GdT (.ite a b c) n d := by
  obtain ⟨l1, l2, l3, l4, l5, l6, l7, l8, l9⟩ := tx_lens
  obtain ⟨h1, h2, h3, h4⟩ := h
  obtain ⟨h1', h2', h3', h4'⟩ := h'
  obtain ⟨h1'', h2'', h3'', h4''⟩ := h''
  refine ⟨⟨h1, h1', h1''⟩, ?_, by show ((max (opT a) (max (opT b) (opT c)) + 1 : Nat) : Int) ≤ _; omega, by show ((max (dpT a) (max (dpT b) (dpT c)) + 1 : Nat) : Int) ≤ _; omega⟩
  simp only [txT, List.length_append, l4, l5, l6, List.length_singleton]
  omega
theorem gd_let {x : Str} {a b : Tr} {n m k : Nat} {d : Int} (hx : WOk x) (h : GdT a m (d - 1)) (h' : GdT b k (d - 1)) (hn : m + k + 1 ≤ n) : GdT (.lett x a b) n d := by
  obtain ⟨l1, l2, l3, l4, l5, l6, l7, l8, l9⟩ := tx_lens
  obtain ⟨h1, h2, h3, h4⟩ := h
  obtain ⟨h1', h2', h3', h4'⟩ := h'
  have := hx.hi
  refine ⟨⟨hx, h1, h1'⟩, ?_, by show ((max (opT a) (opT b) + 1 : Nat) : Int) ≤ _; omega, by show ((max (dpT a) (dpT b) + 1 : Nat) : Int) ≤ _; omega⟩
  simp only [txT, List.length_append, l7, l8, l9, str_len, List.length_singleton]
  omega
theorem ok_tree {k n : Nat} {f g1 g2 : Addr} {fd gd1 gd2 : FuncData} (F : Fun K "_law_tree" "_law_tree" s_law_tree f fd) (z_len : mg "len" = none) (G_law_word : FnB P w K mg base k "_law_word" g2 gd2 ["_law_cell"] sp_lword) (G_law_leaf : FnB P w K mg base k "_law_leaf" g1 gd1 ["_law_cell", "_law_gaps"] sp_lleaf)
    (G_law_tree : FnB P w K mg base k "_law_tree" f fd ["_law_cells", "_law_deep", "_law_gaps"] (sp_tree K n)) :
    FnOk P w K mg base CX0 (k + 1) f fd ["_law_cells", "_law_deep", "_law_gaps"] (sp_tree K (n + 1)) := by
  refine F.ok sc_law_tree (fun vs H Q E h => ?_) (fun cdv A outer s H vs Q E hr h => ?_)
  · obtain ⟨a, ns, d, b, rfl, _⟩ := h
    rfl
  obtain ⟨a, ns, d, b, rfl, hS, h63, hd0, hdn, h12, q⟩ := h
  refine ⟨_, (Sd.un (pss_consS (ps_ifS ⟨pt_cmpR op_eq (pe_callB call_len_seq (by rfl) z_len PySem.boot_len (pa_cons (pv 0) pa_nil)) pe_int (nomark _)⟩ (pss_oneS (ps_retS (pe_tupS (pa_consS ⟨pe_str⟩ (pa_consS ⟨pe_op op_mul (pv 1) pe_int⟩ ⟨pa_nil⟩))))) ⟨pss_nil⟩)
    (pss_consS (ps_ifS ⟨(pw_or (pt_cmpR op_eq (pe_callB call_len_seq (by rfl) z_len PySem.boot_len (pa_cons (pv 0) pa_nil)) pe_int (nomark _)) (pw_or1 (pt_cmpR op_eq (pv 1) pe_int (nomark _)))).pt⟩ (pss_oneS (ps_retS ⟨pe_call G_law_leaf.ok hr (by rfl) G_law_leaf.gl G_law_leaf.kp G_law_leaf.bd .nil pass0 (pa_cons (pe_ix (r := rIxL K) ix_list (pv 0) pe_int (fun _ _ => rfl)) (pa_cons (pv 2) pa_nil))⟩)) ⟨pss_nil⟩)
    (pss_consS (ps_setS (i := 3) sc_law_tree.nd rfl (Or.inl rfl) ⟨pe_op op_mod (pe_op op_mul (pe_ix (r := rIxL K) ix_list (pv 0) pe_int (fun _ _ => rfl)) pe_int) pe_int⟩)
    (pss_consS (ps_setS (i := 4) sc_law_tree.nd rfl (Or.inl rfl) ⟨pe_slice (r := rSlL K) sl_list (pv 0) (po_some pe_int) po_none⟩)
    (pss_consS (ps_setS (i := 5) sc_law_tree.nd rfl (Or.inl rfl) ⟨pe_op op_mod (pe_op op_fdiv (pv 3) pe_int) (pe_op op_add (pe_callB call_len_seq (by rfl) z_len PySem.boot_len (pa_cons (pv 4) pa_nil)) pe_int)⟩)
    (pss_consS (ps_setS (i := 6) sc_law_tree.nd rfl (Or.inl rfl) (pe_ixS (r := rIxL K) ix_list ⟨pe_lstR [.str "say", .str "add", .str "sub", .str "mul", .str "then", .str "if", .str "let", .str "sub", .str "then"] (by rfl)⟩ ⟨pe_op op_mod (pv 3) pe_int⟩ (fun _ _ => rfl)))
    (pss_consS (ps_ifS ⟨pt_cmpR op_eq (pv 6) pe_str (nomark _)⟩ (pss_oneS (ps_retS (pe_tupS (pa_consS ⟨pe_str⟩ (pa_consS ⟨pe_call G_law_tree.ok hr (by rfl) G_law_tree.gl G_law_tree.kp G_law_tree.bd .nil pass0 (pa_cons (pv 4) (pa_cons (pe_op op_sub (pv 1) pe_int) (pa_cons (pv 2) pa_nil)))⟩ ⟨pa_nil⟩))))) ⟨pss_nil⟩)
    (pss_consS (ps_setS (i := 7) sc_law_tree.nd rfl (Or.inl rfl) ⟨pe_call G_law_tree.ok hr (by rfl) G_law_tree.gl G_law_tree.kp G_law_tree.bd .nil pass0 (pa_cons (pe_slice (r := rSlL K) sl_list (pv 4) po_none (po_some (pv 5))) (pa_cons (pe_op op_sub (pv 1) pe_int) (pa_cons (pv 2) pa_nil)))⟩)
    (pss_consS (ps_ifS ⟨pt_cmpR op_eq (pv 6) pe_str (nomark _)⟩ (pss_consS (ps_setS (i := 8) sc_law_tree.nd rfl (Or.inl rfl) ⟨pe_op op_add (pv 5) (pe_op op_mod (pe_op op_fdiv (pv 3) pe_int) (pe_op op_add (pe_op op_sub (pe_callB call_len_seq (by rfl) z_len PySem.boot_len (pa_cons (pv 4) pa_nil)) (pv 5)) pe_int))⟩)
    (pss_consS (ps_setS (i := 9) sc_law_tree.nd rfl (Or.inl rfl) ⟨pe_call G_law_tree.ok hr (by rfl) G_law_tree.gl G_law_tree.kp G_law_tree.bd .nil pass0 (pa_cons (pe_slice (r := rSlL K) sl_list (pv 4) (po_some (pv 5)) (po_some (pv 8))) (pa_cons (pe_op op_sub (pv 1) pe_int) (pa_cons (pv 2) pa_nil)))⟩)
    (pss_oneS (ps_retS (pe_tupS (pa_consS ⟨pe_str⟩ (pa_consS ⟨pv 7⟩ (pa_consS ⟨pv 9⟩ (pa_consS ⟨pe_call G_law_tree.ok hr (by rfl) G_law_tree.gl G_law_tree.kp G_law_tree.bd .nil pass0 (pa_cons (pe_slice (r := rSlL K) sl_list (pv 4) (po_some (pv 8)) po_none) (pa_cons (pe_op op_sub (pv 1) pe_int) (pa_cons (pv 2) pa_nil)))⟩ ⟨pa_nil⟩))))))))) ⟨pss_nil⟩)
    (pss_consS (ps_setS (i := 10) sc_law_tree.nd rfl (Or.inl rfl) ⟨pe_call G_law_tree.ok hr (by rfl) G_law_tree.gl G_law_tree.kp G_law_tree.bd .nil pass0 (pa_cons (pe_slice (r := rSlL K) sl_list (pv 4) (po_some (pv 5)) po_none) (pa_cons (pe_op op_sub (pv 1) pe_int) (pa_cons (pv 2) pa_nil)))⟩)
    (pss_consS (ps_ifS ⟨pt_cmpR op_eq (pv 6) pe_str (nomark _)⟩ (pss_oneS (ps_retS (pe_tupS (pa_consS ⟨pe_str⟩ (pa_consS ⟨pe_call G_law_word.ok hr (by rfl) G_law_word.gl G_law_word.kp G_law_word.bd .nil pass0 (pa_cons (pe_op op_fdiv (pv 3) pe_int) pa_nil)⟩ (pa_consS ⟨pv 7⟩ (pa_consS ⟨pv 10⟩ ⟨pa_nil⟩))))))) ⟨pss_nil⟩)
    (pss_oneS (ps_retS (pe_tupS (pa_consS ⟨pv 6⟩ (pa_consS ⟨pv 7⟩ (pa_consS ⟨pv 10⟩ ⟨pa_nil⟩)))))))))))))))))), ?_⟩
  have d2 : 2 ≤ sizeLine := by decide
  have d3 : 3 ≤ sizeLine := by decide
  have d4 : 4 ≤ sizeLine := by decide
  have d9 : 9 ≤ sizeLine := by decide
  have z4 : (0 : Int) < 4 := by decide
  have hlen : (ns.map V.int).length = ns.length := List.length_map _
  refine ⟨_, rfl, a, _, rfl, .inl hS, rfl, _, rfl, ?_⟩
  refine ite2 (fun _ => ?_) (fun c0 => ?_)
  · refine ⟨_, rfl, _, _, rfl, rfl, .inl ⟨by omega, by omega⟩, d2, fun p hp => ?_⟩
    have n0 : 0 ≤ d * 10 := by omega
    refine q (.num (d * 10)) _ _ (same_upd hp) ⟨p, rfl, upd_same⟩ ⟨num_ok n0 (by omega), ?_, by show ((0 : Nat) : Int) ≤ _; omega, by show ((0 : Nat) : Int) ≤ _; omega⟩
    have := num_len (k := 2) n0 (by omega)
    show (numT (d * 10)).cps.toList.length ≤ _
    rw [str_len]
    omega
  have c0' : ns.length ≠ 0 := fun z => c0 (decide_eq_true (by rw [hlen, z]; rfl))
  obtain ⟨v0, hv0, e0⟩ := atI_in (xs := ns.map V.int) (i := 0) (Int.le_refl 0) (by rw [hlen]; omega)
  obtain ⟨i0, _, rfl⟩ := List.mem_map.mp hv0
  refine ⟨_, rfl, a, _, rfl, .inl hS, rfl, _, rfl, ?_⟩
  refine ite2 (fun _ => ?_) (fun c1 => ⟨_, rfl, rfl, _, rfl, ite2 (fun _ => ?_) (fun c2 => ?_)⟩)
  · exact ⟨_, rfl, a, _, 0, _, rfl, rfl, hS, e0, _, rfl, i0, b, rfl, fun t v H' g r lf => q t v H' g r ⟨lf.ok, by have := lf.len; omega, by have := lf.op; omega, by rw [lf.dp]; omega⟩⟩
  · exact ⟨_, rfl, a, _, 0, _, rfl, rfl, hS, e0, _, rfl, i0, b, rfl, fun t v H' g r lf => q t v H' g r ⟨lf.ok, by have := lf.len; omega, by have := lf.op; omega, by rw [lf.dp]; omega⟩⟩
  have c2' : d ≠ 0 := fun z => c2 (decide_eq_true (by rw [z]))
  refine ⟨_, rfl, a, _, 0, _, rfl, rfl, hS, e0, _, _, rfl, rfl, .inr ⟨by decide, by decide⟩, _, _, rfl, rfl, (show (0 : Int) < 2147483647 by decide), ?_⟩
  obtain ⟨ms, em, lm⟩ := cutInts (ns := ns) (lo := some 1) (hi := none) (i := 1) (j := ns.length) (sIx_int (by decide) (by omega)) rfl (Nat.le_refl _)
  refine ⟨_, rfl, _, rfl, a, _, rfl, hS, fun pr hpr => ?_⟩
  rw [em]
  have g1 := same_upd (o := .lst (ms.map V.int)) hpr
  have epr : upd H pr (.lst (ms.map V.int)) pr = some (.lst (ms.map V.int)) := upd_same
  have hlm : (ms.map V.int).length = ms.length := List.length_map _
  generalize upd H pr (.lst (ms.map V.int)) = H1 at g1 epr ⊢
  dsimp only
  generalize hN : i0 * 48271 % 2147483647 = N
  refine ⟨_, rfl, _, _, rfl, rfl, ⟨(show (0 : Int) < 9 by decide), (show (9 : Int) < 1073741824 by decide)⟩, _, rfl, pr, _, rfl, .inl (SqL.of epr), _, _, rfl, rfl, _, _, rfl, rfl, (by rw [hlm]; omega), ?_⟩
  obtain ⟨at_, hat, hat0, hat1⟩ : ∃ at_ : Int, N / 9 % (((ms.map V.int).length : Int) + 1) = at_ ∧ 0 ≤ at_ ∧ at_ ≤ ms.length :=
    ⟨_, rfl, Int.emod_nonneg _ (by omega), by have := Int.emod_lt_of_pos (N / 9) (show (0 : Int) < ((ms.map V.int).length : Int) + 1 by omega); rw [hlm] at this ⊢; omega⟩
  dsimp only
  rw [hat]
  obtain ⟨kd, hk, ek⟩ := pickSign N
  refine ⟨d9, fun ps hps => ⟨_, rfl, _, _, rfl, rfl, (show (0 : Int) < 9 by decide), ps, _, _, _, rfl, rfl, SqL.of upd_same, ek, ?_⟩⟩
  have g2 := same_upd (o := .lst [.str "say", .str "add", .str "sub", .str "mul", .str "then", .str "if", .str "let", .str "sub", .str "then"]) hps
  have epr2 := g2 _ _ epr
  have gA := g1.trans g2
  generalize upd H1 ps (.lst [.str "say", .str "add", .str "sub", .str "mul", .str "then", .str "if", .str "let", .str "sub", .str "then"]) = H2 at g2 epr2 gA ⊢
  refine ⟨_, rfl, rfl, _, rfl, ?_⟩
  refine ite2 (fun c3 => ?_) (fun c3 => ?_)
  · refine ⟨_, rfl, _, rfl, _, _, rfl, rfl, _, rfl, pr, ms, d - 1, b, rfl, SqL.of epr2, by omega, by omega, by omega, by omega, fun t v H3 g3 r3 gd3 => ⟨d2, fun p hp => ?_⟩⟩
    exact q (.say t) _ _ (gA.trans (g3.trans (same_upd hp))) ⟨p, v, rfl, upd_same, r3.mono (same_upd hp).tk⟩ (gd_say gd3 (by omega))
  obtain ⟨m1, em1, lm1⟩ := cutInts (ns := ms) (lo := none) (hi := some at_) (i := 0) (j := at_.toNat) rfl (sIx_int hat0 hat1) (by omega)
  refine ⟨_, rfl, _, rfl, _, rfl, pr, _, rfl, SqL.of epr2, fun p1 hp1 => ?_⟩
  rw [em1]
  have g3 := same_upd (o := .lst (m1.map V.int)) hp1
  refine ⟨_, rfl, _, _, rfl, rfl, _, rfl, p1, m1, d - 1, b, rfl, SqL.of upd_same, by omega, by omega, by omega, by omega, fun t1 v1 H4 g4 r1 gd1 => ?_⟩
  have gB := gA.trans (g3.trans g4)
  have epr4 := g4 _ _ (g3 _ _ epr2)
  refine ⟨_, rfl, rfl, _, rfl, ?_⟩
  refine ite2 (fun c4 => ?_) (fun c4 => ?_)
  · refine ⟨_, rfl, _, rfl, _, _, rfl, rfl, ⟨(show (0 : Int) < 1009 by decide), (show (1009 : Int) < 1073741824 by decide)⟩, _, rfl, pr, _, rfl, .inl (SqL.of epr4), _, rfl, _, _, rfl, rfl, _, _, rfl, rfl, _, _, rfl, rfl, (by rw [hlm]; omega), _, _, rfl, rfl, ?_⟩
    obtain ⟨far, hfar, hf0, hf1⟩ : ∃ far : Int, at_ + N / 1009 % (((ms.map V.int).length : Int) - at_ + 1) = far ∧ at_ ≤ far ∧ far ≤ ms.length :=
      ⟨_, rfl, by have := Int.emod_nonneg (N / 1009) (show ((ms.map V.int).length : Int) - at_ + 1 ≠ 0 by rw [hlm]; omega); omega, by have := Int.emod_lt_of_pos (N / 1009) (show (0 : Int) < ((ms.map V.int).length : Int) - at_ + 1 by rw [hlm]; omega); rw [hlm] at this ⊢; omega⟩
    dsimp only
    rw [hfar]
    obtain ⟨m2, em2, lm2⟩ := cutInts (ns := ms) (lo := some at_) (hi := some far) (i := at_.toNat) (j := far.toNat) (sIx_int hat0 hat1) (sIx_int (by omega) hf1) (by omega)
    obtain ⟨m3, em3, lm3⟩ := cutInts (ns := ms) (lo := some far) (hi := none) (i := far.toNat) (j := ms.length) (sIx_int (by omega) hf1) rfl (Nat.le_refl _)
    refine ⟨_, rfl, _, rfl, _, rfl, _, rfl, _, rfl, pr, _, rfl, SqL.of epr4, fun p2 hp2 => ?_⟩
    rw [em2]
    have g5 := same_upd (o := .lst (m2.map V.int)) hp2
    refine ⟨_, rfl, _, _, rfl, rfl, _, rfl, p2, m2, d - 1, b, rfl, SqL.of upd_same, by omega, by omega, by omega, by omega, fun t2 v2 H6 g6 r2 gd2 => ?_⟩
    have epr6 := g6 _ _ (g5 _ _ epr4)
    refine ⟨_, rfl, _, rfl, _, rfl, _, rfl, _, rfl, pr, _, rfl, SqL.of epr6, fun p3 hp3 => ?_⟩
    rw [em3]
    have g7 := same_upd (o := .lst (m3.map V.int)) hp3
    refine ⟨_, rfl, _, _, rfl, rfl, _, rfl, p3, m3, d - 1, b, rfl, SqL.of upd_same, by omega, by omega, by omega, by omega, fun t3 v3 H8 g8 r3 gd3 => ⟨d4, fun p hp => ?_⟩⟩
    have gp := same_upd (o := .tup [.str "if", v1, v2, v3]) hp
    exact q (.ite t1 t2 t3) _ _ (gB.trans (g5.trans (g6.trans (g7.trans (g8.trans gp))))) ⟨p, v1, v2, v3, rfl, upd_same, r1.mono (g5.trans (g6.trans (g7.trans (g8.trans gp)))).tk, r2.mono (g7.trans (g8.trans gp)).tk, r3.mono gp.tk⟩ (gd_ite gd1 gd2 gd3 (by omega))
  obtain ⟨m2, em2, lm2⟩ := cutInts (ns := ms) (lo := some at_) (hi := none) (i := at_.toNat) (j := ms.length) (sIx_int hat0 hat1) rfl (Nat.le_refl _)
  refine ⟨_, rfl, _, rfl, _, rfl, pr, _, rfl, SqL.of epr4, fun p2 hp2 => ?_⟩
  rw [em2]
  have g5 := same_upd (o := .lst (m2.map V.int)) hp2
  refine ⟨_, rfl, _, _, rfl, rfl, _, rfl, p2, m2, d - 1, b, rfl, SqL.of upd_same, by omega, by omega, by omega, by omega, fun t2 v2 H6 g6 r2 gd2 => ?_⟩
  have gC := gB.trans (g5.trans g6)
  have r1' := r1.mono (g5.trans g6).tk
  refine ⟨_, rfl, rfl, _, rfl, ?_⟩
  refine ite2 (fun c5 => ?_) (fun c5 => ?_)
  · refine ⟨_, rfl, _, _, rfl, rfl, ⟨(show (0 : Int) < 9 by decide), (show (9 : Int) < 1073741824 by decide)⟩, _, rfl, fun x H7 g7 wx => ⟨_, rfl, _, rfl, d4, fun p hp => ?_⟩⟩
    have gp := same_upd (o := .tup [.str "let", .str x, v1, v2]) hp
    exact q (.lett x t1 t2) _ _ (gC.trans (g7.trans gp)) ⟨p, v1, v2, rfl, upd_same, r1'.mono (g7.trans gp).tk, r2.mono (g7.trans gp).tk⟩ (gd_let wx gd1 gd2 (by omega))
  · refine ⟨_, rfl, _, rfl, _, rfl, d3, fun p hp => ?_⟩
    have gp := same_upd (o := .tup [.str kd.s, v1, v2]) hp
    have n3 : kd ≠ .say := fun z => c3 (decide_eq_true (by rw [z]; rfl))
    have n4 : kd ≠ .ite := fun z => c4 (decide_eq_true (by rw [z]; rfl))
    have n5 : kd ≠ .lett := fun z => c5 (decide_eq_true (by rw [z]; rfl))
    obtain ⟨o, ho⟩ : ∃ o : Bin, o.s = kd.s := by
      cases kd with
      | add => exact ⟨.add, rfl⟩
      | sub => exact ⟨.sub, rfl⟩
      | mul => exact ⟨.mul, rfl⟩
      | thn => exact ⟨.thn, rfl⟩
      | say => exact absurd rfl n3
      | ite => exact absurd rfl n4
      | lett => exact absurd rfl n5
      | _ => exact absurd hk (by decide)
    exact q (.bin o t1 t2) _ _ (gC.trans gp) ⟨p, v1, v2, rfl, by rw [ho]; exact upd_same, r1'.mono gp.tk, r2.mono gp.tk⟩ (gd_bin gd1 gd2 (by omega))
theorem none_left {k : Nat} {f : Addr} {fd : FuncData} : FnOk P w K mg base CX0 k f fd ["_law_cells", "_law_deep", "_law_gaps"] (sp_tree K 0) := by
  have no : ∀ vs H Q E, ¬ sp_tree K 0 vs H Q E := fun vs H Q E h => by
    obtain ⟨a, ns, d, b, _, _, _, h1, h2, _⟩ := h
    omega
  exact ⟨fun vs H Q E h => absurd h (no vs H Q E), fun A outer s H args us vs Q E _ _ _ _ h => absurd h (no vs H Q E)⟩
theorem all_tree {k : Nat} {f g1 g2 : Addr} {fd gd1 gd2 : FuncData} (F : Fun K "_law_tree" "_law_tree" s_law_tree f fd) (b : Binds K fd ["_law_cells", "_law_deep", "_law_gaps"] []) (m : mg "_law_tree" = some (.ref f)) (z_len : mg "len" = none)
    (G0 : FnB P w K mg base k "_law_word" g2 gd2 ["_law_cell"] sp_lword) (G : FnB P w K mg base k "_law_leaf" g1 gd1 ["_law_cell", "_law_gaps"] sp_lleaf) : ∀ n : Nat, FnB P w K mg base (k + n) "_law_tree" f fd ["_law_cells", "_law_deep", "_law_gaps"] (sp_tree K n)
  | 0 => ⟨none_left, b, F.kp, m⟩
  | n + 1 => ⟨ok_tree F z_len (G0.up (Nat.le_add_right _ _)) (G.up (Nat.le_add_right _ _)) (all_tree F b m z_len G0 G n), b, F.kp, m⟩
end
end K06
set_option Elab.async false
set_option linter.all false
set_option maxRecDepth 100000
set_option maxHeartbeats 4000000
namespace L2
open PySem
theorem viaS {G : Prop} {E : L2.St → Hp → Prop} (A : L2.St → Hp → Prop) (h : (∀ σ H2, A σ H2 → E σ H2) → G) (r : ∀ σ H2, A σ H2 → E σ H2) : G := h r
theorem wb : WOk "b" := ⟨by decide +kernel, by decide +kernel, by decide +kernel, by decide +kernel⟩
theorem wc : WOk "c" := ⟨by decide +kernel, by decide +kernel, by decide +kernel, by decide +kernel⟩
theorem wb_len : (Str.ofString "b").cps.toList.length = 1 := by decide +kernel
theorem wc_len : (Str.ofString "c").cps.toList.length = 1 := by decide +kernel
def askStop : List V := [.str "ask", .str "stop"]
structure NsT (t : Tr) (o i : Nat) : Prop where
  ok : TOk t
  len : (txT t).length ≤ 48 + 30 * i
  op : opT t ≤ o + i
  dp : dpT t ≤ i
theorem num_tx {n : Int} (h0 : 0 ≤ n) (h1 : n < 100000) : TOk (.num n) ∧ (txT (.num n)).length ≤ 5 := by
  refine ⟨num_ok h0 (by omega), ?_⟩
  show (numT n).cps.toList.length ≤ 5
  rw [str_len]
  exact num_len (k := 4) h0 h1
theorem NsT.say {t : Tr} {o i : Nat} (h : NsT t o i) : NsT (.say t) o (i + 1) := by
  obtain ⟨l1, l2, l3, l4, l5, l6, l7, l8, l9⟩ := tx_lens
  obtain ⟨h1, h2, h3, h4⟩ := h
  refine ⟨h1, ?_, by show opT t + 1 ≤ _; omega, by show dpT t + 1 ≤ _; omega⟩
  simp only [txT, List.length_append, l3, List.length_singleton]
  omega
theorem NsT.add {t : Tr} {o i : Nat} {b : Bin} {n : Int} (h : NsT t o i) (h0 : 0 ≤ n) (hn : n < 100000) : NsT (.bin b (.num n) t) o (i + 1) ∧ NsT (.bin b t (.num n)) o (i + 1) := by
  obtain ⟨h1, h2, h3, h4⟩ := h
  obtain ⟨n1, n2⟩ := num_tx h0 hn
  refine ⟨⟨⟨n1, h1⟩, ?_, by show max 0 (opT t) + 1 ≤ _; omega, by show max 0 (dpT t) + 1 ≤ _; omega⟩, ⟨h1, n1⟩, ?_, by show max (opT t) 0 + 1 ≤ _; omega, by show max (dpT t) 0 + 1 ≤ _; omega⟩
  · rw [txT]
    simp only [List.length_append, bw_len, List.length_cons, List.length_nil]
    omega
  · rw [txT]
    simp only [List.length_append, bw_len, List.length_cons, List.length_nil]
    omega
theorem NsT.lt {t : Tr} {o i : Nat} {n : Int} (h : NsT t o i) (h0 : 0 ≤ n) (hn : n < 100000) : NsT (.lett "b" t (.num n)) o (i + 1) := by
  obtain ⟨l1, l2, l3, l4, l5, l6, l7, l8, l9⟩ := tx_lens
  obtain ⟨h1, h2, h3, h4⟩ := h
  obtain ⟨n1, n2⟩ := num_tx h0 hn
  refine ⟨⟨wb, h1, n1⟩, ?_, by show max (opT t) 0 + 1 ≤ _; omega, by show max (dpT t) 0 + 1 ≤ _; omega⟩
  rw [txT]
  simp only [List.length_append, l7, l8, l9, wb_len, List.length_singleton]
  omega
theorem NsT.ite {t : Tr} {o i : Nat} {n : Int} (h : NsT t o i) (h0 : 0 ≤ n) (hn : n < 100000) : NsT (.ite (.num n) (.name "c") t) o (i + 1) := by
  obtain ⟨l1, l2, l3, l4, l5, l6, l7, l8, l9⟩ := tx_lens
  obtain ⟨h1, h2, h3, h4⟩ := h
  obtain ⟨n1, n2⟩ := num_tx h0 hn
  have e : txT (.name "c") = (Str.ofString "c").cps.toList := rfl
  refine ⟨⟨n1, wc, h1⟩, ?_, by show max 0 (max 0 (opT t)) + 1 ≤ _; omega, by show max 0 (max 0 (dpT t)) + 1 ≤ _; omega⟩
  rw [txT]
  simp only [e, List.length_append, l4, l5, l6, wc_len, List.length_singleton]
  omega
end L2
namespace K06
open PySem PySem.Spec L2 PyProof.Rows
abbrev s_law_nested : Stmt := top 40
theorem sc_law_nested : FnScope ["_law_cell", "_law_more", "_law_tree_here", "_law_many", "_law_k", "_law_turn", "_law_leaf_here", "_law_some"] ["_law_cell", "_law_more"] (defScope s_law_nested) := ⟨rfl, rfl, rfl, by decide +kernel, rfl, by decide +kernel, by decide +kernel⟩
section
variable {P : Program} {w : World} {K : PySem.W.Frag} {mg : Str → Option Value} {base : Heap}
theorem leaf_sign {t : Tr} (h : leafB t = true) : inV (.str t.sign) askStop = true ∨ opT t = 0 := by
  cases t with
  | ask x => exact .inl rfl
  | stop x => exact .inl rfl
  | num n => exact .inr rfl
  | name x => exact .inr rfl
  | gap g as => exact .inr rfl
  | _ => cases h
def sp_nested : Sp := fun vs H Q _ => ∃ (c m : Int), vs = [.int c, .int m] ∧ ∀ (t : Tr) (v : V) (H' : Hp), Same H H' → Rep H' t v → TOk t → (txT t).length ≤ 600 → opT t ≤ 16 → dpT t ≤ 16 → Q v H'
theorem ok_nested {k : Nat} {f g1 : Addr} {fd gd1 : FuncData} (F : Fun K "_law_nested" "_law_nested" s_law_nested f fd) (z_min : mg "min" = none) (z_range : mg "range" = none) (G_law_leaf : FnB P w K mg base k "_law_leaf" g1 gd1 ["_law_cell", "_law_gaps"] sp_lleaf) : FnOk P w K mg base CX0 (k + 1) f fd ["_law_cell", "_law_more"] sp_nested := by
  refine F.ok sc_law_nested (fun vs H Q E h => ?_) (fun cdv A outer s H vs Q E hr h => ?_)
  · obtain ⟨c, m, rfl, _⟩ := h
    rfl
  obtain ⟨c, m, rfl, q⟩ := h
  refine ⟨_, (Sd.un (pss_consS (ps_setS (i := 2) sc_law_nested.nd rfl (Or.inl rfl) ⟨pe_call G_law_leaf.ok hr (by rfl) G_law_leaf.gl G_law_leaf.kp G_law_leaf.bd .nil pass0 (pa_cons (pv 1) (pa_cons pe_bl pa_nil))⟩)
    (pss_consS (ps_setS (i := 3) sc_law_nested.nd rfl (Or.inl rfl) ⟨pe_op op_mod (pv 0) pe_int⟩)
    (pss_consS (ps_ifS ⟨pt_cmpR (r := rIn K false) op_in_seq (pe_ix (r := rIxT K) ix_tup (pv 2) pe_int (fun _ _ => rfl)) (pe_tup (pa_cons pe_str (pa_cons pe_str pa_nil)) : PE _ _ _) rfl⟩ (pss_oneS (ps_setS (i := 3) sc_law_nested.nd rfl (Or.inl rfl) ⟨pe_callB (call_min2 rfl) (by rfl) z_min PyProof.Rows.boot_min (pa_cons (pv 3) (pa_cons pe_int pa_nil))⟩)) ⟨pss_nil⟩)
    (pss_consS ⟨ps_for PassesOwn.never rfl (pi_range1 (by rfl) z_range (pa_cons (pv 3) pa_nil)) (pg_name (i := 4) sc_law_nested.nd rfl (Or.inl rfl)) (pss_cons (ps_set (i := 5) sc_law_nested.nd rfl (Or.inl rfl) (pe_op op_mod (pe_op op_fdiv (pe_op op_fdiv (pv 0) pe_int) (pe_op op_add (pv 4) pe_int)) pe_int))
    (pss_cons (ps_set (i := 6) sc_law_nested.nd rfl (Or.inl rfl) (pe_tup (pa_cons pe_str (pa_cons (pe_op op_mul (pv 4) pe_int) pa_nil)) : PE _ _ _))
    (pss_cons (ps_set (i := 7) sc_law_nested.nd rfl (Or.inl rfl) (pe_lst (pa_cons (pe_tup (pa_cons pe_str (pa_cons (pv 2) pa_nil)) : PE _ _ _) (pa_cons (pe_tup (pa_cons pe_str (pa_cons (pv 6) (pa_cons (pv 2) pa_nil))) : PE _ _ _) (pa_cons (pe_tup (pa_cons pe_str (pa_cons (pv 2) (pa_cons (pv 6) pa_nil))) : PE _ _ _) pa_nil))) : PE _ _ _))
    (pss_cons (ps_set (i := 7) sc_law_nested.nd rfl (Or.inl rfl) (pe_op op_cat (pv 7) (pe_lst (pa_cons (pe_tup (pa_cons pe_str (pa_cons pe_str (pa_cons (pv 2) (pa_cons (pv 6) pa_nil)))) : PE _ _ _) (pa_cons (pe_tup (pa_cons pe_str (pa_cons (pv 6) (pa_cons (pe_tup (pa_cons pe_str (pa_cons pe_str pa_nil)) : PE _ _ _) (pa_cons (pv 2) pa_nil)))) : PE _ _ _) pa_nil)) : PE _ _ _)))
    (pss_one (ps_set (i := 2) sc_law_nested.nd rfl (Or.inl rfl) (pe_ix (r := rIxL K) ix_list (pv 7) (pv 5) (fun _ _ => rfl))))))))⟩
    (pss_oneS (ps_retS ⟨pv 2⟩))))))), ?_⟩
  have d2 : 2 ≤ sizeLine := by decide
  have d3 : 3 ≤ sizeLine := by decide
  have d4 : 4 ≤ sizeLine := by decide
  refine ⟨_, rfl, m, false, rfl, fun t0 v0 H1 g1 r0 lf => ?_⟩
  refine ⟨_, rfl, _, _, rfl, rfl, (show (0 : Int) < 17 by decide), ?_⟩
  dsimp only
  have m0 : 0 ≤ c % 17 := by omega
  have m1 : c % 17 ≤ 16 := by omega
  generalize c % 17 = mn at m0 m1 ⊢
  obtain ⟨p0, hs, us, e0, hp0, _, _⟩ := r0.all
  subst e0
  apply viaS (fun σ' H' => ∃ n : Nat, σ' = [some (.int c), some (.int m), some (.ref p0), some (.int (n : Int)), none, none, none, none] ∧ Same H H' ∧ Rep H' t0 (.ref p0) ∧ n + opT t0 ≤ 16 ∧ n ≤ 16)
  · intro rest
    refine ⟨_, rfl, p0, _, 0, _, rfl, rfl, SqT.of hp0, atI_nat (j := 0) rfl, d2, fun pt hpt => ?_⟩
    have g2 := same_upd (o := .tup [.str "ask", .str "stop"]) hpt
    refine ⟨pt, askStop, rfl, .inr (SqT.of upd_same), rfl, rfl, _, rfl, ite2 (fun c1 => ?_) (fun c1 => ?_)⟩
    · refine ⟨_, rfl, _, _, rfl, rest _ _ ⟨(if (15 : Int) < mn then (15 : Int) else mn).toNat, ?_, g1.trans g2, r0.mono g2.tk, ?_, ?_⟩⟩
      · rw [Int.toNat_of_nonneg (by split <;> omega)]
        rfl
      · have := lf.op
        split <;> omega
      · split <;> omega
    · refine rest _ _ ⟨mn.toNat, ?_, g1.trans g2, r0.mono g2.tk, ?_, by omega⟩
      · rw [Int.toNat_of_nonneg m0]
        rfl
      · have h0 : opT t0 = 0 := (leaf_sign lf.lf).resolve_left fun z => c1 z
        omega
  rintro σ' H2 ⟨n, rfl, g2, r2, hn, hn16⟩
  refine ⟨_, rfl, n, rfl, by omega, by omega, ?_⟩
  refine for_range (n := (n : Int).toNat) (fun i σ' H' => ∃ (t : Tr) (v : V) (s4 s5 s6 s7 : Option V), σ' = [some (.int c), some (.int m), some v, some (.int (n : Int)), s4, s5, s6, s7] ∧ Same H H' ∧ Rep H' t v ∧ NsT t (opT t0) i) ?_ ?_ ?_
  · exact ⟨t0, _, none, none, none, none, rfl, g2, r2, lf.ok, by have := lf.len; omega, by omega, by rw [lf.dp]; omega⟩
  · rintro i σ1 H3 hi ⟨t, v, s4, s5, s6, s7, rfl, g3, r3, nt⟩
    refine ⟨_, rfl, _, _, rfl, rfl, ⟨(show (0 : Int) < 17 by decide), (show (17 : Int) < 1073741824 by decide)⟩, _, rfl, _, _, rfl, rfl, _, _, rfl, rfl, ⟨(by omega), (by omega)⟩, _, _, rfl, rfl, (show (0 : Int) < 5 by decide), ?_⟩
    dsimp only
    generalize hz : c / 17 / (0 + (i : Int) + 1) % 5 = z
    have z0 : 0 ≤ z := by omega
    have z5 : z < 5 := by omega
    refine ⟨_, rfl, _, _, rfl, rfl, .inl ⟨by omega, by omega⟩, d2, fun pl hpl => ?_⟩
    dsimp only
    have n0 : 0 ≤ (0 + (i : Int)) * 1000 := by omega
    have n1 : (0 + (i : Int)) * 1000 < 100000 := by omega
    generalize (0 + (i : Int)) * 1000 = M at n0 n1 ⊢
    have gl := same_upd (o := .tup [.str "num", .int M]) hpl
    have rl : Rep (upd H3 pl (.tup [.str "num", .int M])) (.num M) (.ref pl) := ⟨pl, rfl, upd_same⟩
    have r4 := r3.mono gl.tk
    have g4 := g3.trans gl
    generalize upd H3 pl (.tup [.str "num", .int M]) = H4 at gl rl r4 g4 ⊢
    refine ⟨_, rfl, d2, fun p1 h1 => ⟨_, rfl, _, rfl, d3, fun p2 h2 => ⟨_, rfl, _, rfl, d3, fun p3 h3 => ⟨d3, fun l1 hl1 => ?_⟩⟩⟩⟩
    have k1 := same_upd (o := .tup [.str "say", v]) h1
    have k2 := same_upd (o := .tup [.str "add", .ref pl, v]) h2
    have k3 := same_upd (o := .tup [.str "mul", v, .ref pl]) h3
    have k4 := same_upd (o := .lst [.ref p1, .ref p2, .ref p3]) hl1
    have kA := k1.trans (k2.trans (k3.trans k4))
    have u1 := k4 _ _ (k3 _ _ (k2 _ _ (upd_same (H := H4) (a := p1) (o := .tup [.str "say", v]))))
    have u2 := k4 _ _ (k3 _ _ (upd_same (H := upd H4 p1 (.tup [.str "say", v])) (a := p2) (o := .tup [.str "add", .ref pl, v])))
    have u3 := k4 _ _ (upd_same (H := upd (upd H4 p1 (.tup [.str "say", v])) p2 (.tup [.str "add", .ref pl, v])) (a := p3) (o := .tup [.str "mul", v, .ref pl]))
    have el1 : (upd (upd (upd (upd H4 p1 (.tup [.str "say", v])) p2 (.tup [.str "add", .ref pl, v])) p3 (.tup [.str "mul", v, .ref pl])) l1 (.lst [.ref p1, .ref p2, .ref p3])) l1 = some (.lst [.ref p1, .ref p2, .ref p3]) := upd_same
    generalize upd (upd (upd (upd H4 p1 (.tup [.str "say", v])) p2 (.tup [.str "add", .ref pl, v])) p3 (.tup [.str "mul", v, .ref pl])) l1 (.lst [.ref p1, .ref p2, .ref p3]) = H5 at kA u1 u2 u3 el1 ⊢
    clear k1 k2 k3 k4
    refine ⟨_, rfl, _, rfl, _, rfl, d4, fun p4 h4 => ⟨_, rfl, d2, fun p5 h5 => ⟨_, rfl, d4, fun p6 h6 => ⟨d2, fun l2 hl2 => ?_⟩⟩⟩⟩
    have k4 := same_upd (o := .tup [.str "let", .str "b", v, .ref pl]) h4
    have k5 := same_upd (o := .tup [.str "name", .str "c"]) h5
    have k6 := same_upd (o := .tup [.str "if", .ref pl, .ref p5, v]) h6
    have k7 := same_upd (o := .lst [.ref p4, .ref p6]) hl2
    have kB := k4.trans (k5.trans (k6.trans k7))
    have u4 := k7 _ _ (k6 _ _ (k5 _ _ (upd_same (H := H5) (a := p4) (o := .tup [.str "let", .str "b", v, .ref pl]))))
    have u5 := k7 _ _ (k6 _ _ (upd_same (H := upd H5 p4 (.tup [.str "let", .str "b", v, .ref pl])) (a := p5) (o := .tup [.str "name", .str "c"])))
    have u6 := k7 _ _ (upd_same (H := upd (upd H5 p4 (.tup [.str "let", .str "b", v, .ref pl])) p5 (.tup [.str "name", .str "c"])) (a := p6) (o := .tup [.str "if", .ref pl, .ref p5, v]))
    have el2 : (upd (upd (upd (upd H5 p4 (.tup [.str "let", .str "b", v, .ref pl])) p5 (.tup [.str "name", .str "c"])) p6 (.tup [.str "if", .ref pl, .ref p5, v])) l2 (.lst [.ref p4, .ref p6])) l2 = some (.lst [.ref p4, .ref p6]) := upd_same
    generalize upd (upd (upd (upd H5 p4 (.tup [.str "let", .str "b", v, .ref pl])) p5 (.tup [.str "name", .str "c"])) p6 (.tup [.str "if", .ref pl, .ref p5, v])) l2 (.lst [.ref p4, .ref p6]) = H6 at kB u4 u5 u6 el2 ⊢
    clear k4 k5 k6 k7
    refine ⟨l1, l2, _, _, rfl, rfl, kB _ _ el1, el2, line_of (show 3 + 2 ≤ 1000000 by decide), fun l3 hl3 => ?_⟩
    have k8 := same_upd (o := .lst ([.ref p1, .ref p2, .ref p3] ++ [.ref p4, .ref p6])) hl3
    obtain ⟨x, hx, ex⟩ := atI_in (xs := [V.ref p1, .ref p2, .ref p3] ++ [.ref p4, .ref p6]) (i := z) z0 (by show z < ((5 : Nat) : Int); omega)
    refine ⟨_, rfl, _, rfl, l3, _, _, _, rfl, rfl, SqL.of upd_same, ex, ?_⟩
    have kC := kA.trans (kB.trans k8)
    have r9 := r4.mono kC.tk
    have rl9 := rl.mono kC.tk
    have kD := kB.trans k8
    simp only [List.cons_append, List.nil_append, List.mem_cons, List.not_mem_nil, or_false] at hx
    suffices h : ∃ t', Rep (upd H6 l3 (.lst ([.ref p1, .ref p2, .ref p3] ++ [.ref p4, .ref p6]))) t' x ∧ NsT t' (opT t0) (i + 1) by
      obtain ⟨t', r, n⟩ := h
      exact ⟨t', x, _, _, _, _, rfl, g4.trans kC, r, n⟩
    rcases hx with rfl | rfl | rfl | rfl | rfl
    · exact ⟨.say t, ⟨p1, v, rfl, kD _ _ u1, r9⟩, nt.say⟩
    · exact ⟨.bin .add (.num M) t, ⟨p2, .ref pl, v, rfl, kD _ _ u2, rl9, r9⟩, (nt.add n0 n1).1⟩
    · exact ⟨.bin .mul t (.num M), ⟨p3, v, .ref pl, rfl, kD _ _ u3, r9, rl9⟩, (nt.add n0 n1).2⟩
    · exact ⟨.lett "b" t (.num M), ⟨p4, v, .ref pl, rfl, k8 _ _ u4, r9, rl9⟩, (nt.lt n0 n1)⟩
    · exact ⟨.ite (.num M) (.name "c") t, ⟨p6, .ref pl, .ref p5, v, rfl, k8 _ _ u6, rl9, ⟨p5, rfl, k8 _ _ u5⟩, r9⟩, (nt.ite n0 n1)⟩
  · rintro σ1 H3 ⟨t, v, s4, s5, s6, s7, rfl, g3, r3, nt⟩
    obtain ⟨a1, a2, a3, a4⟩ := nt
    refine ⟨_, rfl, q t v H3 g3 r3 a1 (by omega) (by omega) (by omega)⟩
end
end K06
set_option Elab.async false
set_option linter.all false
set_option maxRecDepth 100000
set_option maxHeartbeats 4000000
namespace L2
open PySem
def pairsT : List Tr → List Tr
  | a :: b :: r => .bin .sub a b :: pairsT r
  | _ => []
theorem pairsT_len : ∀ ts : List Tr, (pairsT ts).length = ts.length / 2
  | [] => by simp [pairsT]
  | [_] => by simp [pairsT]
  | a :: b :: r => by
    rw [pairsT, List.length_cons, pairsT_len r, List.length_cons, List.length_cons]
    omega
theorem pairsT_get : ∀ (ts : List Tr) (i : Nat) (x y : Tr), ts[i * 2]? = some x → ts[i * 2 + 1]? = some y → (pairsT ts)[i]? = some (.bin .sub x y)
  | [], i, x, y, h, _ => by simp at h
  | [a], i, x, y, _, h => by simp at h
  | a :: b :: r, 0, x, y, h, h' => by
    simp at h h'
    rw [h, h']
    rfl
  | a :: b :: r, i + 1, x, y, h, h' => by
    have e1 : (i + 1) * 2 = i * 2 + 1 + 1 := by omega
    have e2 : (i + 1) * 2 + 1 = (i * 2 + 1) + 1 + 1 := by omega
    rw [e1] at h
    rw [e2] at h'
    simp only [List.getElem?_cons_succ] at h h'
    show (_ :: pairsT r)[i + 1]? = _
    rw [List.getElem?_cons_succ]
    exact pairsT_get r i x y h h'
def sumL (ts : List Tr) : Nat := (ts.map fun t => (txT t).length + 5).sum
def sumD (ts : List Tr) : Nat := (ts.map fun t => dpT t + 1).sum
theorem sumL_cons (t : Tr) (ts : List Tr) : sumL (t :: ts) = (txT t).length + 5 + sumL ts := rfl
theorem sumD_cons (t : Tr) (ts : List Tr) : sumD (t :: ts) = dpT t + 1 + sumD ts := rfl
theorem sumL_app (a b : List Tr) : sumL (a ++ b) = sumL a + sumL b := by simp [sumL]
theorem sumD_app (a b : List Tr) : sumD (a ++ b) = sumD a + sumD b := by simp [sumD]
theorem pairsT_sum : ∀ ts : List Tr, sumL (pairsT ts ++ ts.drop (2 * (ts.length / 2))) ≤ sumL ts ∧ sumD (pairsT ts ++ ts.drop (2 * (ts.length / 2))) ≤ sumD ts
  | [] => by simp [pairsT]
  | [a] => by simp [pairsT]
  | a :: b :: r => by
    have ih := pairsT_sum r
    have e : 2 * ((a :: b :: r).length / 2) = 2 * (r.length / 2) + 1 + 1 := by simp only [List.length_cons]; omega
    rw [e, pairsT, List.cons_append, List.drop_succ_cons, List.drop_succ_cons, sumL_cons, sumD_cons, sumL_cons, sumL_cons, sumD_cons, sumD_cons]
    have l : (txT (.bin .sub a b)).length = (txT a).length + (txT b).length + 5 := by
      rw [txT]
      simp only [List.length_append, bw_len, List.length_cons, List.length_nil]
      omega
    have d : dpT (.bin .sub a b) = max (dpT a) (dpT b) + 1 := rfl
    rw [l, d]
    omega
theorem pairsT_ok : ∀ {ts : List Tr}, (∀ t ∈ ts, TOk t) → ∀ t ∈ pairsT ts, TOk t
  | [], _, _, h => by cases h
  | [_], _, _, h => by cases h
  | a :: b :: r, h, t, ht => by
    rcases List.mem_cons.mp ht with e | e
    · subst e
      exact ⟨h a (by simp), h b (by simp)⟩
    · exact pairsT_ok (ts := r) (fun x hx => h x (by simp [hx])) t e
end L2
namespace K06
open PySem PySem.Spec L2 PyProof.Rows
abbrev s_law_great : Stmt := top 39
theorem sc_law_great : FnScope ["_law_cell", "_law_leaves", "_law_k", "_law_paired", "_law_tree_here"] ["_law_cell"] (defScope s_law_great) := ⟨rfl, rfl, rfl, by decide +kernel, rfl, by decide +kernel, by decide +kernel⟩
section
variable {P : Program} {w : World} {K : PySem.W.Frag} {mg : Str → Option Value} {base : Heap}
def sp_great : Sp := fun vs H Q _ => ∃ (c : Int), vs = [.int c] ∧ ∀ (t : Tr) (v : V) (H' : Hp), Same H H' → Rep H' t v → TOk t → (txT t).length ≤ 4000 → dpT t ≤ 96 → Q v H'
theorem ok_great {k : Nat} {f : Addr} {fd : FuncData} (F : Fun K "_law_great" "_law_great" s_law_great f fd) (z_len : mg "len" = none) (z_range : mg "range" = none) : FnOk P w K mg base CX0 (k + 1) f fd ["_law_cell"] sp_great := by
  refine F.ok sc_law_great (fun vs H Q E h => ?_) (fun cdv A outer s H vs Q E hr h => ?_)
  · obtain ⟨c, rfl, _⟩ := h
    rfl
  obtain ⟨c, rfl, q⟩ := h
  refine ⟨_, (Sd.un (pss_consS (ps_setS (i := 1) sc_law_great.nd rfl (Or.inr rfl) (pe_lstS ⟨pa_nil⟩))
    (pss_consS (ps_ifS ⟨pt_cmpR op_eq (pe_op op_mod (pv 0) pe_int) pe_int (nomark _)⟩ (pss_consS ⟨ps_for PassesOwn.never rfl (pi_range1 (by rfl) z_range (pa_cons (pe_op op_add pe_int (pe_op op_mod (pe_op op_fdiv (pv 0) pe_int) pe_int)) pa_nil)) (pg_name (i := 2) sc_law_great.nd rfl (Or.inl rfl)) (pss_one (ps_expr (pe_bm PySem.F.plainAttrs_list PySem.F.slot_list_append PySem.F.type_list_append mt_append (pv 1) (pa_cons (pe_tup (pa_cons pe_str (pa_cons (pe_op op_add (pe_op op_pow pe_int pe_int) (pe_op op_mod (pe_op op_fdiv (pv 0) (pe_op op_add (pv 2) pe_int)) (pe_op op_pow pe_int pe_int))) pa_nil)) : PE _ _ _) pa_nil))))⟩
    (pss_consS ⟨ps_while PassesOwn.never (pt_cmpR op_gt (pe_callB call_len_seq (by rfl) z_len PySem.boot_len (pa_cons (pv 1) pa_nil)) pe_int (nomark _)) (pss_cons (ps_compB (jj := 3) ["_law_k", "_law_leaves"] [none, some 1] rfl (pi_range3 (by rfl) z_range (pa_cons pe_int (pa_cons (pe_op op_sub (pe_callB call_len_seq (by rfl) z_len PySem.boot_len (pa_cons (pv 1) pa_nil)) pe_int) (pa_cons pe_int pa_nil)))) (fun _ _ _ _ _ => (pg_name (i := 0) (show List.Nodup (["_law_k", "_law_leaves"] : List Str) by decide +kernel) rfl (Or.inl rfl))) (fun _ _ _ _ _ => pts_nil) (fun _ _ _ _ _ => (pe_tup (pa_cons pe_str (pa_cons (pe_ix (r := rIxL K) ix_list (pv 1) (pv 0) (fun _ _ => rfl)) (pa_cons (pe_ix (r := rIxL K) ix_list (pv 1) (pe_op op_add (pv 0) pe_int) (fun _ _ => rfl)) pa_nil))) : PE _ _ _)) rfl sc_law_great.nd rfl (Or.inl rfl) (Or.inr rfl))
    (pss_one (ps_set (i := 1) sc_law_great.nd rfl (Or.inr rfl) (pe_op op_cat (pv 3) (pe_slice (r := rSlL K) sl_list (pv 1) (po_some (pe_op op_mul pe_int (pe_callB call_len_seq (by rfl) z_len PySem.boot_len (pa_cons (pv 3) pa_nil)))) po_none)))))⟩
    (pss_oneS (ps_retS (pe_ixS (r := rIxL K) ix_list ⟨pv 1⟩ ⟨pe_int⟩ (fun _ _ => rfl)))))) ⟨pss_nil⟩)
    (pss_consS (ps_setS (i := 4) sc_law_great.nd rfl (Or.inl rfl) (pe_tupS (pa_consS ⟨pe_str⟩ (pa_consS ⟨pe_str⟩ ⟨pa_nil⟩))))
    (pss_consS ⟨ps_for PassesOwn.never rfl (pi_range1 (by rfl) z_range (pa_cons (pe_op op_add pe_int (pe_op op_mod (pe_op op_fdiv (pv 0) pe_int) pe_int)) pa_nil)) (pg_name (i := 2) sc_law_great.nd rfl (Or.inl rfl)) (pss_one (ps_set (i := 4) sc_law_great.nd rfl (Or.inl rfl) (pe_ix (r := rIxL K) ix_list (pe_lst (pa_cons (pe_tup (pa_cons pe_str (pa_cons (pv 4) pa_nil)) : PE _ _ _) (pa_cons (pe_tup (pa_cons pe_str (pa_cons pe_str (pa_cons (pe_tup (pa_cons pe_str (pa_cons pe_str pa_nil)) : PE _ _ _) (pa_cons (pv 4) pa_nil)))) : PE _ _ _) pa_nil)) : PE _ _ _) (pe_op op_mod (pe_op op_fdiv (pv 0) (pe_op op_add (pv 2) pe_int)) pe_int) (fun _ _ => rfl))))⟩
    (pss_oneS (ps_retS ⟨pv 4⟩))))))), ?_⟩
  have d0 : 0 ≤ sizeLine := by decide
  have d2 : 2 ≤ sizeLine := by decide
  have d4 : 4 ≤ sizeLine := by decide
  refine ⟨d0, fun ll hll => ?_⟩
  have g0 := same_upd (o := .lst []) hll
  refine ⟨_, rfl, _, _, rfl, rfl, (show (0 : Int) < 2 by decide), rfl, _, rfl, ite2 (fun c1 => ?_) (fun c1 => ?_)⟩
  · refine ⟨_, rfl, _, _, rfl, rfl, ⟨(show (0 : Int) < 2 by decide), (show (2 : Int) < 1073741824 by decide)⟩, _, _, rfl, rfl, (show (0 : Int) < 58 by decide), _, _, rfl, rfl, 40 + c / 2 % 58, rfl, by omega, by omega, ?_⟩
    refine for_range (n := (40 + c / 2 % 58).toNat) (fun i σ' H' => ∃ (ts : List Tr) (us : List V) (s2 : Option V), σ' = [some (.int c), some (.ref ll), s2, none, none] ∧ Same H H' ∧ H' ll = some (.lst us) ∧ Paired (Rep H') ts us ∧ (∀ t ∈ ts, TOk t) ∧ ts.length = i ∧ sumL ts ≤ 35 * i ∧ sumD ts ≤ i) ?_ ?_ ?_
    · exact ⟨[], [], none, rfl, g0, upd_same, .nil, (fun t h => by cases h), rfl, Nat.le_refl _, Nat.le_refl _⟩
    · rintro i σ1 H3 hi ⟨ts, us, s2, rfl, g3, e3, p3, ok3, ln3, sl3, sd3⟩
      refine ⟨_, rfl, .inl ⟨rfl, _, SqL.of e3⟩, _, _, rfl, rfl, ⟨by decide, by decide, by decide⟩, _, rfl, _, rfl, _, _, rfl, rfl, _, _, rfl, rfl, ⟨(by omega), (by omega)⟩, _, _, rfl, rfl, ⟨by decide, by decide, by decide⟩, _, _, rfl, rfl, (show (0 : Int) < 10 ^ 29 by decide), _, _, rfl, rfl, d2, fun p hp => ?_⟩
      dsimp only
      have a0 : 0 ≤ c / (0 + (i : Int) + 3) % (10 ^ (29 : Int).toNat) := Int.emod_nonneg _ (by decide)
      have a1 : c / (0 + (i : Int) + 3) % (10 ^ (29 : Int).toNat) < 100000000000000000000000000000 := Int.emod_lt_of_pos _ (by decide)
      have e29 : ((10 : Int) ^ (29 : Int).toNat) = 100000000000000000000000000000 := by decide
      generalize c / (0 + (i : Int) + 3) % (10 ^ (29 : Int).toNat) = M at a0 a1 ⊢
      rw [e29]
      have n0 : 0 ≤ 100000000000000000000000000000 + M := by omega
      have n1 : 100000000000000000000000000000 + M < 10 ^ 30 := by omega
      generalize 100000000000000000000000000000 + M = N at n0 n1 ⊢
      have g4 := same_upd (o := .tup [.str "num", .int N]) hp
      have e4 := g4 _ _ e3
      have lu : us.length = ts.length := paired_len p3
      refine ⟨ll, us, _, rfl, rfl, e4, line_lt (by omega), ?_⟩
      have k5 := Tk.lst (o := .lst (us ++ [.ref p])) e4
      have okn := num_ok n0 n1
      refine ⟨ts ++ [.num N], us ++ [.ref p], _, rfl, same_set (g3.trans g4) hll, upd_same, paired_append (Paired.mapP p3 fun _ _ z => z.mono (g4.tk.trans k5)) (.cons (show Rep _ (.num N) (.ref p) from ⟨p, rfl, k5 _ _ upd_same⟩) .nil), ?_, ?_, ?_, ?_⟩
      · intro t ht
        rcases List.mem_append.mp ht with h | h
        · exact ok3 t h
        · rw [List.mem_singleton.mp h]
          exact okn
      · rw [List.length_append, ln3]
        rfl
      · rw [sumL_app, sumL_cons]
        have : (txT (.num N)).length ≤ 30 := by
          show (numT N).cps.toList.length ≤ 30
          rw [str_len]
          exact okn.hi
        have z : sumL [] = 0 := rfl
        omega
      · rw [sumD_app, sumD_cons]
        have z : sumD [] = 0 := rfl
        have z2 : dpT (.num N) = 0 := rfl
        omega
    rintro σ1 H3 ⟨ts, us, s2, rfl, g3, e3, p3, ok3, ln3, sl3, sd3⟩
    refine ⟨fun m σ' H' => ∃ (l : Addr) (ts : List Tr) (us : List V) (s2 s3 : Option V), σ' = [some (.int c), some (.ref l), s2, s3, none] ∧ Same H H' ∧ H' l = some (.lst us) ∧ Paired (Rep H') ts us ∧ (∀ t ∈ ts, TOk t) ∧ 1 ≤ ts.length ∧ ts.length ≤ 97 ∧ sumL ts ≤ 3395 ∧ sumD ts ≤ 97 ∧ m = ts.length,
      ⟨ts.length, ll, ts, us, s2, none, rfl, g3, e3, p3, ok3, by omega, by omega, by omega, by omega, rfl⟩, ?_⟩
    clear p3 e3 g3 ok3 ln3 sl3 sd3
    rintro m σ' H4 ⟨l, ts, us, s2, s3, rfl, g4, e4, p4, ok4, lo4, hi4, sl4, sd4, rfl⟩
    have lu : us.length = ts.length := paired_len p4
    refine ⟨_, rfl, l, _, rfl, .inl (SqL.of e4), _, _, rfl, rfl, _, rfl, ite2 (fun c2 => ?_) (fun c2 => ?_)⟩
    · have c2' : (1 : Int) < (us.length : Int) := of_decide_eq_true c2
      refine ⟨_, fun _ _ h => h, ?_⟩
      refine ⟨_, rfl, l, _, rfl, .inl (SqL.of e4), _, _, rfl, rfl, (us.length : Int) - 1, rfl, by omega, by omega, fun acc hacc => ?_⟩
      have en : (((us.length : Int) - 1 + 1) / 2).toNat = ts.length / 2 := by omega
      rw [en]
      have lp := pairsT_len ts
      refine comp_range3R (n := ts.length / 2) (fun i H' => Same H4 H' ∧ ∃ zs, H' acc = some (.lst zs) ∧ Paired (Rep H') ((pairsT ts).take i) zs) ⟨same_upd hacc, [], upd_same, .nil⟩ ?_ ?_
      · rintro i H5 hi ⟨g5, zs, ez, pz⟩
        have hx : us[i * 2]? = some us[i * 2] := List.getElem?_eq_getElem (by omega)
        have hy : us[i * 2 + 1]? = some us[i * 2 + 1] := List.getElem?_eq_getElem (by omega)
        obtain ⟨tx1, ex1, rx1⟩ := paired_get p4 hx
        obtain ⟨ty1, ey1, ry1⟩ := paired_get p4 hy
        have ax : atI us ((i : Int) * 2) = some us[i * 2] := by
          have := atI_nat (j := i * 2) hx
          rwa [show ((i * 2 : Nat) : Int) = (i : Int) * 2 from rfl] at this
        have ay : atI us ((i : Int) * 2 + 1) = some us[i * 2 + 1] := by
          have := atI_nat (j := i * 2 + 1) hy
          rwa [show ((i * 2 + 1 : Nat) : Int) = (i : Int) * 2 + 1 from rfl] at this
        have pg := pairsT_get ts i tx1 ty1 ex1 ey1
        refine ⟨.skip (.keep .nil), ?_⟩
        refine ⟨_, rfl, _, rfl, l, _, _, _, rfl, rfl, SqL.of (g5 _ _ e4), ax, _, rfl, _, rfl, _, _, rfl, rfl, l, _, _, _, rfl, rfl, SqL.of (g5 _ _ e4), ay, (by show 3 ≤ sizeLine; decide), fun p hp => ?_⟩
        have g6 := same_upd (o := .tup [.str "sub", us[i * 2], us[i * 2 + 1]]) hp
        have ez6 := g6 _ _ ez
        have lz : zs.length ≤ 97 := by
          have := paired_len pz
          rw [List.length_take] at this
          omega
        refine ⟨zs, ez6, line_lt (by omega), same_set (g5.trans g6) hacc, _, upd_same, ?_⟩
        have k7 := Tk.lst (o := .lst (zs ++ [.ref p])) ez6
        rw [take_next pg]
        refine paired_append (Paired.mapP pz fun _ _ z => z.mono (g6.tk.trans k7)) (.cons ?_ .nil)
        exact ⟨p, _, _, rfl, k7 _ _ upd_same, rx1.mono (g5.tk.trans (g6.tk.trans k7)), ry1.mono (g5.tk.trans (g6.tk.trans k7))⟩
      · rintro H5 ⟨g5, zs, ez, pz⟩
        rw [List.take_of_length_le (Nat.le_of_eq lp)] at pz
        have lz : zs.length = ts.length / 2 := by rw [paired_len pz, lp]
        have e5 := g5 _ _ e4
        refine ⟨_, rfl, _, rfl, _, rfl, acc, _, rfl, .inl (SqL.of ez), _, _, rfl, rfl, .inl ⟨by decide, by decide⟩, _, rfl, l, _, rfl, SqL.of e5, fun p1 hp1 => ?_⟩
        dsimp only
        rw [cut_back us (2 * (zs.length : Int)) (by omega)]
        have e2n : ((2 : Int) * (zs.length : Int)).toNat = 2 * (ts.length / 2) := by omega
        rw [e2n]
        have g6 := same_upd (o := .lst (us.drop (2 * (ts.length / 2)))) hp1
        refine ⟨acc, p1, _, _, rfl, rfl, g6 _ _ ez, upd_same, line_of (by rw [List.length_drop]; omega), fun p2 hp2 => ?_⟩
        have g7 := same_upd (o := .lst (zs ++ us.drop (2 * (ts.length / 2)))) hp2
        have ps := pairsT_sum ts
        have gk := g6.trans g7
        refine ⟨(pairsT ts ++ ts.drop (2 * (ts.length / 2))).length, ?_, p2, pairsT ts ++ ts.drop (2 * (ts.length / 2)), zs ++ us.drop (2 * (ts.length / 2)), s2, some (.ref acc), rfl, g4.trans (g5.trans gk), upd_same, ?_, ?_, ?_, ?_, by omega, by omega, rfl⟩
        · rw [List.length_append, List.length_drop, lp]
          omega
        · exact paired_append (Paired.mapP pz fun _ _ z => z.mono gk.tk) (Paired.mapP (paired_drop _ p4) fun _ _ z => z.mono (g5.trans gk).tk)
        · intro t ht
          rcases List.mem_append.mp ht with h | h
          · exact pairsT_ok ok4 t h
          · exact ok4 t (List.mem_of_mem_drop h)
        · rw [List.length_append, List.length_drop, lp]
          omega
        · rw [List.length_append, List.length_drop, lp]
          omega
    · have c2' : ¬ (1 : Int) < (us.length : Int) := fun z => c2 (decide_eq_true z)
      match ts, us, p4, ok4, lo4, lu, sl4, sd4, e4 with
      | [t], [v], .cons r .nil, ok4, _, _, sl4, sd4, e4 =>
        refine ⟨_, rfl, l, _, 0, _, rfl, rfl, SqL.of e4, rfl, q t v H4 g4 r (ok4 t (by simp)) ?_ ?_⟩
        · have z : sumL [] = 0 := rfl
          rw [sumL_cons] at sl4
          omega
        · have z : sumD [] = 0 := rfl
          rw [sumD_cons] at sd4
          omega
      | _ :: _ :: _, _ :: _ :: _, _, _, _, _, _, _, _ => exact absurd c2' (by simp only [List.length_cons]; omega)
  · refine ⟨d2, fun p0 hp0 => ?_⟩
    have g1 := same_upd (o := .tup [.str "name", .str "b"]) hp0
    refine ⟨_, rfl, _, _, rfl, rfl, ⟨(show (0 : Int) < 2 by decide), (show (2 : Int) < 1073741824 by decide)⟩, _, _, rfl, rfl, (show (0 : Int) < 70 by decide), _, _, rfl, rfl, 17 + c / 2 % 70, rfl, by omega, by omega, ?_⟩
    refine for_range (n := (17 + c / 2 % 70).toNat) (fun i σ' H' => ∃ (t : Tr) (v : V) (s2 : Option V), σ' = [some (.int c), some (.ref ll), s2, none, some v] ∧ Same H H' ∧ Rep H' t v ∧ TOk t ∧ (txT t).length ≤ 1 + 15 * i ∧ dpT t ≤ i) ?_ ?_ ?_
    · exact ⟨.name "b", .ref p0, none, rfl, g0.trans g1, ⟨p0, rfl, upd_same⟩, wb, by show (Str.ofString "b").cps.toList.length ≤ _; rw [wb_len]; omega, Nat.zero_le _⟩
    · rintro i σ1 H3 hi ⟨t, v, s2, rfl, g3, r3, ok3, l3, dp3⟩
      refine ⟨_, rfl, d2, fun p1 h1 => ⟨d2, fun p2 h2 => ⟨_, rfl, d4, fun p3 h3 => ⟨d2, fun l1 hl1 => ?_⟩⟩⟩⟩
      have k1 := same_upd (o := .tup [.str "say", v]) h1
      have k2 := same_upd (o := .tup [.str "name", .str "b"]) h2
      have k3 := same_upd (o := .tup [.str "let", .str "b", .ref p2, v]) h3
      have k4 := same_upd (o := .lst [.ref p1, .ref p3]) hl1
      have kA := k1.trans (k2.trans (k3.trans k4))
      have u1 := k4 _ _ (k3 _ _ (k2 _ _ (upd_same (H := H3) (a := p1) (o := .tup [.str "say", v]))))
      have u2 := k4 _ _ (k3 _ _ (upd_same (H := upd H3 p1 (.tup [.str "say", v])) (a := p2) (o := .tup [.str "name", .str "b"])))
      have u3 := k4 _ _ (upd_same (H := upd (upd H3 p1 (.tup [.str "say", v])) p2 (.tup [.str "name", .str "b"])) (a := p3) (o := .tup [.str "let", .str "b", .ref p2, v]))
      have el1 : (upd (upd (upd (upd H3 p1 (.tup [.str "say", v])) p2 (.tup [.str "name", .str "b"])) p3 (.tup [.str "let", .str "b", .ref p2, v])) l1 (.lst [.ref p1, .ref p3])) l1 = some (.lst [.ref p1, .ref p3]) := upd_same
      generalize upd (upd (upd (upd H3 p1 (.tup [.str "say", v])) p2 (.tup [.str "name", .str "b"])) p3 (.tup [.str "let", .str "b", .ref p2, v])) l1 (.lst [.ref p1, .ref p3]) = H5 at kA u1 u2 u3 el1 ⊢
      obtain ⟨x, hx, ex⟩ := atI_in (xs := [V.ref p1, .ref p3]) (i := c / (0 + (i : Int) + 5) % 2) (by omega) (by show _ < ((2 : Nat) : Int); omega)
      refine ⟨_, rfl, _, rfl, _, _, rfl, rfl, _, _, rfl, rfl, ⟨(by omega), (by omega)⟩, _, _, rfl, rfl, (show (0 : Int) < 2 by decide), l1, _, _, _, rfl, rfl, SqL.of el1, ex, ?_⟩
      obtain ⟨e1, e2, e3, e4, e5, e6, e7, e8, e9⟩ := tx_lens
      have r5 := r3.mono kA.tk
      simp only [List.mem_cons, List.not_mem_nil, or_false] at hx
      rcases hx with rfl | rfl
      · refine ⟨.say t, _, _, rfl, g3.trans kA, ⟨p1, v, rfl, u1, r5⟩, ok3, ?_, by show dpT t + 1 ≤ _; omega⟩
        rw [txT]
        simp only [List.length_append, e3, List.length_singleton]
        omega
      · refine ⟨.lett "b" (.name "b") t, _, _, rfl, g3.trans kA, ⟨p3, .ref p2, v, rfl, u3, ⟨p2, rfl, u2⟩, r5⟩, ⟨wb, wb, ok3⟩, ?_, by show max 0 (dpT t) + 1 ≤ _; omega⟩
        rw [txT, show txT (.name "b") = (Str.ofString "b").cps.toList from rfl]
        simp only [List.length_append, e7, e8, e9, wb_len, List.length_singleton]
        omega
    · rintro σ1 H3 ⟨t, v, s2, rfl, g3, r3, ok3, l3, dp3⟩
      exact ⟨_, rfl, q t v H3 g3 r3 ok3 (by omega) (by omega)⟩
end
end K06
set_option Elab.async false
set_option linter.all false
set_option maxRecDepth 100000
set_option maxHeartbeats 4000000
namespace L2
open PySem
def atTr : Atom → Tr
  | .name x => .name x
  | .num n => .num n
  | .gap g => .gap g []
theorem atTr_txt (a : Atom) : txT (atTr a) = txA a := by cases a <;> simp [atTr, txT, txA, txAs]
theorem atTr_ok {a : Atom} (h : AOk a) : TOk (atTr a) := by
  cases a with
  | name x => exact h
  | num n => exact h
  | gap g => exact ⟨h, (fun a ha => by cases ha), Nat.zero_le _⟩
theorem atTr_rep {H : Hp} {a : Atom} {v : V} (h : AtRep H a v) : Rep H (atTr a) v := by
  cases a with
  | name x => exact h
  | num n => exact h
  | gap g =>
    obtain ⟨p, b, e, h1, h2⟩ := h
    exact ⟨p, b, [], e, h1, h2, Nat.zero_le _, .nil⟩
def gdT : Tr → Nat
  | .gap _ (_ :: _) => 1
  | _ => 0
theorem gdT_at (a : Atom) : gdT (atTr a) = 0 := by cases a <;> rfl
end L2
namespace K06
open PySem PySem.Spec L2 PyProof.Rows
abbrev s_law_leaf_written : Stmt := top 41
theorem sc_law_leaf_written : FnScope ["_law_tree_here"] ["_law_tree_here"] (defScope s_law_leaf_written) := ⟨rfl, rfl, rfl, by decide +kernel, rfl, by decide +kernel, by decide +kernel⟩
section
variable {P : Program} {w : World} {K : PySem.W.Frag} {mg : Str → Option Value} {base : Heap}
theorem atTr_leaf (a : Atom) : leafB (atTr a) = true := by cases a <;> rfl
def sp_lwr (n : Nat) : Sp := fun vs H Q _ => ∃ (t : Tr) (v : V), vs = [v] ∧ Rep H t v ∧ TOk t ∧ leafB t = true ∧ gdT t < n ∧ ∀ H', Same H H' → Q (.str (sOf (txT t))) H'
theorem ok_lwr {k n : Nat} {f : Addr} {fd : FuncData} (F : Fun K "_law_leaf_written" "_law_leaf_written" s_law_leaf_written f fd) (z_str : mg "str" = none) (G_law_leaf_written : FnB P w K mg base k "_law_leaf_written" f fd ["_law_tree_here"] (sp_lwr n)) : FnOk P w K mg base CX0 (k + 1) f fd ["_law_tree_here"] (sp_lwr (n + 1)) := by
  refine F.ok sc_law_leaf_written (fun vs H Q E h => ?_) (fun cdv A outer s H vs Q E hr h => ?_)
  · obtain ⟨t, v, rfl, _⟩ := h
    rfl
  obtain ⟨t, v, rfl, hR, ok, hl, hn, q⟩ := h
  have hu0 := Nat.lt_of_succ_lt (hu_of hr)
  refine ⟨_, (pss_cons (ps_if (pt_cmpR op_eq (pe_ix (r := rIxT K) ix_tup (pv 0) pe_int (fun _ _ => rfl)) pe_str (nomark _)) (pss_one (ps_ret (pe_callTy call_str1 (by rfl) z_str PyProof.Rows.boot_str (pa_cons (pe_ix (r := rIxT K) ix_tup (pv 0) pe_int (fun _ _ => rfl)) pa_nil)))) pss_nil)
    (pss_cons (ps_if (pt_cmpR op_eq (pe_ix (r := rIxT K) ix_tup (pv 0) pe_int (fun _ _ => rfl)) pe_str (nomark _)) (pss_one (ps_ret (pe_ix (r := rIxT K) ix_tup (pv 0) pe_int (fun _ _ => rfl)))) pss_nil)
    (pss_cons (ps_if (pw_and (pt_cmpR op_eq (pe_ix (r := rIxT K) ix_tup (pv 0) pe_int (fun _ _ => rfl)) pe_str (nomark _)) (pw_and1 (pt_cmpR (op_eqE hu0) (pe_ix (r := rIxT K) ix_tup (pv 0) pe_int (fun _ _ => rfl)) (pe_tup pa_nil : PE _ _ _) (nomark _)))).pt (pss_one (ps_ret (pe_op op_add_str pe_str (pe_ix (r := rIxT K) ix_tup (pv 0) pe_int (fun _ _ => rfl))))) pss_nil)
    (pss_cons (ps_if (pt_cmpR op_eq (pe_ix (r := rIxT K) ix_tup (pv 0) pe_int (fun _ _ => rfl)) pe_str (nomark _)) (pss_one (ps_ret (pe_op op_add_str (pe_op op_add_str (pe_op op_add_str (pe_op op_add_str pe_str (pe_ix (r := rIxT K) ix_tup (pv 0) pe_int (fun _ _ => rfl))) pe_str) (pe_bm PySem.F.plainAttrs_str PySem.F.slot_str_join PySem.F.type_str_join mt_join pe_str (pa_cons (pe_compB ["_law_atom"] [none] rfl (pi_tup (pe_ix (r := rIxT K) ix_tup (pv 0) pe_int (fun _ _ => rfl))) (fun _ _ _ _ _ => (pg_name (i := 0) (show List.Nodup (["_law_atom"] : List Str) by decide +kernel) rfl (Or.inl rfl))) (fun _ _ _ _ _ => pts_nil) (fun _ _ _ _ _ => (pe_call G_law_leaf_written.ok hr (by rfl) G_law_leaf_written.gl G_law_leaf_written.kp G_law_leaf_written.bd .nil pass0 (pa_cons (pv 0) pa_nil))) rfl) pa_nil))) pe_str))) pss_nil)
    (pss_one (ps_ret (pe_op op_add_str (pe_op op_add_str (pe_op op_add_str (pe_op op_add_str pe_str (pe_ix (r := rIxT K) ix_tup (pv 0) pe_int (fun _ _ => rfl))) pe_str) (pe_ix (r := rIxT K) ix_tup (pv 0) pe_int (fun _ _ => rfl))) pe_str))))))), ?_⟩
  have d0 : 0 ≤ sizeLine := by decide
  cases t with
  | num n =>
    obtain ⟨p, rfl, hp⟩ := hR
    refine ⟨_, rfl, p, _, 0, _, rfl, rfl, SqT.of hp, rfl, rfl, _, rfl, iteT ?_⟩
    refine ⟨_, rfl, p, _, 1, _, rfl, rfl, SqT.of hp, rfl, .inr ⟨n, rfl, NOk.sm ok, ?_⟩⟩
    show Q (.str (numT n)) _
    rw [sOf_eq (x := numT n) rfl]
    exact q _ (.refl _)
  | name x =>
    obtain ⟨p, rfl, hp⟩ := hR
    refine ⟨_, rfl, p, _, 0, _, rfl, rfl, SqT.of hp, rfl, rfl, _, rfl, iteF ?_⟩
    refine ⟨_, rfl, p, _, 0, _, rfl, rfl, SqT.of hp, rfl, rfl, _, rfl, iteT ?_⟩
    refine ⟨_, rfl, p, _, 1, _, rfl, rfl, SqT.of hp, rfl, ?_⟩
    rw [sOf_eq (x := x) rfl]
    exact q _ (.refl _)
  | ask x =>
    obtain ⟨p, rfl, hp⟩ := hR
    have h8 := WOk.hi ok
    refine ⟨_, rfl, p, _, 0, _, rfl, rfl, SqT.of hp, rfl, rfl, _, rfl, iteF ?_⟩
    refine ⟨_, rfl, p, _, 0, _, rfl, rfl, SqT.of hp, rfl, rfl, _, rfl, iteF ?_⟩
    refine ⟨_, rfl, p, _, 0, _, rfl, rfl, SqT.of hp, rfl, rfl, _, rfl, iteF (iteF ?_)⟩
    refine ⟨_, rfl, p, _, 0, _, rfl, rfl, SqT.of hp, rfl, rfl, _, rfl, iteF ?_⟩
    refine ⟨_, rfl, p, _, 0, _, rfl, rfl, SqT.of hp, rfl, _, _, rfl, rfl, line1000 (by decide +kernel), _, _, rfl, rfl, line1000 (by decide +kernel), _, rfl, p, _, 1, _, rfl, rfl, SqT.of hp, rfl, _, _, rfl, rfl, line_of ?_, _, _, rfl, rfl, line_of ?_, ?_⟩
    · rw [show (Str.ofString "(" ++ Str.ofString "ask" ++ Str.ofString " ").length = 5 by decide +kernel]; omega
    · rw [show (Str.ofString "(" ++ Str.ofString "ask" ++ Str.ofString " " ++ x).length = 5 + x.length by rw [strLen_append]; rw [show (Str.ofString "(" ++ Str.ofString "ask" ++ Str.ofString " ").length = 5 by decide +kernel], par_list.2.2.2]; omega
    rw [sOf_eq (x := Str.ofString "(" ++ Str.ofString "ask" ++ Str.ofString " " ++ x ++ Str.ofString ")") (l := txT (.ask x)) (by rw [app_list, app_list, show (Str.ofString "(" ++ Str.ofString "ask" ++ Str.ofString " ").cps.toList = tx "(ask " by decide +kernel, par_list.2.1]; simp [txT])]
    exact q _ (.refl _)
  | stop x =>
    obtain ⟨p, rfl, hp⟩ := hR
    have h8 := WOk.hi ok
    refine ⟨_, rfl, p, _, 0, _, rfl, rfl, SqT.of hp, rfl, rfl, _, rfl, iteF ?_⟩
    refine ⟨_, rfl, p, _, 0, _, rfl, rfl, SqT.of hp, rfl, rfl, _, rfl, iteF ?_⟩
    refine ⟨_, rfl, p, _, 0, _, rfl, rfl, SqT.of hp, rfl, rfl, _, rfl, iteF (iteF ?_)⟩
    refine ⟨_, rfl, p, _, 0, _, rfl, rfl, SqT.of hp, rfl, rfl, _, rfl, iteF ?_⟩
    refine ⟨_, rfl, p, _, 0, _, rfl, rfl, SqT.of hp, rfl, _, _, rfl, rfl, line1000 (by decide +kernel), _, _, rfl, rfl, line1000 (by decide +kernel), _, rfl, p, _, 1, _, rfl, rfl, SqT.of hp, rfl, _, _, rfl, rfl, line_of ?_, _, _, rfl, rfl, line_of ?_, ?_⟩
    · rw [show (Str.ofString "(" ++ Str.ofString "stop" ++ Str.ofString " ").length = 6 by decide +kernel]; omega
    · rw [show (Str.ofString "(" ++ Str.ofString "stop" ++ Str.ofString " " ++ x).length = 6 + x.length by rw [strLen_append]; rw [show (Str.ofString "(" ++ Str.ofString "stop" ++ Str.ofString " ").length = 6 by decide +kernel], par_list.2.2.2]; omega
    rw [sOf_eq (x := Str.ofString "(" ++ Str.ofString "stop" ++ Str.ofString " " ++ x ++ Str.ofString ")") (l := txT (.stop x)) (by rw [app_list, app_list, show (Str.ofString "(" ++ Str.ofString "stop" ++ Str.ofString " ").cps.toList = tx "(stop " by decide +kernel, par_list.2.1]; simp [txT])]
    exact q _ (.refl _)
  | gap g as =>
    obtain ⟨p, b, us, rfl, hp, hb, h900, hus⟩ := hR
    have h8 := WOk.hi ok.1
    have lg := str_len g
    have lu : us.length = as.length := paired_len hus
    refine ⟨_, rfl, p, _, 0, _, rfl, rfl, SqT.of hp, rfl, rfl, _, rfl, iteF ?_⟩
    refine ⟨_, rfl, p, _, 0, _, rfl, rfl, SqT.of hp, rfl, rfl, _, rfl, iteF ?_⟩
    refine ⟨_, rfl, p, _, 0, _, rfl, rfl, SqT.of hp, rfl, rfl, _, rfl, iteT ?_⟩
    refine ⟨_, rfl, p, _, 2, _, rfl, rfl, SqT.of hp, rfl, d0, fun pe hpe => ?_⟩
    have g0 := same_upd (o := .tup []) hpe
    refine ⟨b, pe, _, rfl, rfl, g0 _ _ hb, upd_same, _, rfl, ?_⟩
    generalize upd H pe (.tup []) = H0 at g0 ⊢
    have hp0 := g0 _ _ hp
    have hb0 := g0 _ _ hb
    have e0 : Str.ofString "?" ++ g = sOf (63 :: g.cps.toList) := sOf_eq (by rw [app_list, q_list]; rfl)
    cases as with
    | nil =>
      cases us with
      | cons _ _ => cases lu
      | nil =>
        refine iteT ⟨_, rfl, p, _, 1, _, rfl, rfl, SqT.of hp0, rfl, _, _, rfl, rfl, line_of (by rw [q_len]; omega), ?_⟩
        rw [e0]
        have := q H0 g0
        rwa [show txT (.gap g []) = 63 :: g.cps.toList by simp [txT, txAs]] at this
    | cons a as =>
      cases us with
      | nil => cases lu
      | cons u us =>
        have hn1 : 1 < n + 1 := hn
        refine iteF ?_
        refine ⟨_, rfl, p, _, 0, _, rfl, rfl, SqT.of hp0, rfl, rfl, _, rfl, iteT ?_⟩
        refine ⟨_, rfl, p, _, 1, _, rfl, rfl, SqT.of hp0, rfl, _, _, rfl, rfl, line_of (by rw [q_len]; omega), ?_⟩
        rw [e0, str_tx "[", str_tx "]"]
        have b1 : (tx "[") = [91] := by decide +kernel
        have b2 : (tx "]") = [93] := by decide +kernel
        refine ⟨_, _, rfl, rfl, line_of (by rw [b1, sOf_len, sOf_len]; simp only [List.length_cons, List.length_nil]; omega), ?_⟩
        rw [sOf_app]
        refine ⟨rfl, _, rfl, p, _, 2, _, rfl, rfl, SqT.of hp0, rfl, b, rfl, ⟨_, SqT.of hb0⟩, fun acc hacc => ?_⟩
        refine comp_tupR (xs := u :: us) (fun i H' => Same H0 H' ∧ H' acc = some (.lst ((((a :: as).take i).map fun a => sOf (txA a)).map V.str))) ⟨same_upd hacc, upd_same⟩ (fun i H' _ h => SqT.of (h.1 _ _ hb0)) ?_ ?_
        · rintro i x H1 hx ⟨g1, ea⟩
          obtain ⟨ai, eai, rai⟩ := paired_get hus hx
          have hil : i < (a :: as).length := (List.getElem?_eq_some_iff.mp eai).1
          have oka := ok.2.1 ai (List.mem_of_getElem? eai)
          refine ⟨.skip .nil, ?_⟩
          refine ⟨_, rfl, atTr ai, x, rfl, atTr_rep (rai.mono (g0.trans g1).tk), atTr_ok oka, atTr_leaf ai, by rw [gdT_at]; omega, fun H2 g2 => ?_⟩
          refine ⟨_, g2 _ _ ea, line_lt (by have := ok.2.2; rw [List.length_map, List.length_map, List.length_take]; omega), same_set (g1.trans g2) hacc, ?_⟩
          rw [upd_same, take_next eai, List.map_append, List.map_append, atTr_txt]
          rfl
        · rintro H1 ⟨g1, ea⟩
          have et : (a :: as).take (u :: us).length = a :: as := List.take_of_length_le (by omega)
          rw [et] at ea
          have hm := more_len (as := as) fun x hx => ok.2.1 x (List.mem_cons_of_mem _ hx)
          have ha := atx_len (ok.2.1 a List.mem_cons_self)
          have hl := ok.2.2
          rw [List.length_cons] at hl
          have e1 : Txt.join (Str.ofString " ") ((a :: as).map fun a => sOf (txA a)) = sOf (txA a ++ moreA as) := by
            rw [List.map_cons, join_blank, sOf_list, flat_more]
          refine ⟨_, acc, _, rfl, rfl, ea, (by show 1 ≤ 16; decide), ?_, ?_⟩
          · rw [List.map_cons, List.map_cons, List.sum_cons, List.length_cons, List.length_map, sOf_len, List.map_map]
            have := sum_atx (as := as) fun x hx => ok.2.1 x (List.mem_cons_of_mem _ hx)
            omega
          rw [e1]
          refine ⟨_, _, rfl, rfl, line_of (by rw [b1, sOf_len, sOf_len]; simp only [List.length_append, List.length_cons, List.length_nil]; omega), ?_⟩
          rw [sOf_app]
          refine ⟨_, _, rfl, rfl, line_of (by rw [b1, b2, sOf_len, sOf_len]; simp only [List.length_append, List.length_cons, List.length_nil]; omega), ?_⟩
          rw [sOf_app]
          have := q H1 (g0.trans g1)
          rwa [show txT (.gap g (a :: as)) = 63 :: g.cps.toList ++ tx "[" ++ (txA a ++ moreA as) ++ tx "]" by simp [txT, txAs, b1, b2]] at this
  | _ => cases hl
theorem no_lwr {k : Nat} {f : Addr} {fd : FuncData} : FnOk P w K mg base CX0 k f fd ["_law_tree_here"] (sp_lwr 0) := by
  have no : ∀ vs H Q E, ¬ sp_lwr 0 vs H Q E := fun vs H Q E h => by
    obtain ⟨t, v, _, _, _, _, h1, _⟩ := h
    omega
  exact ⟨fun vs H Q E h => absurd h (no vs H Q E), fun A outer s H args us vs Q E _ _ _ _ h => absurd h (no vs H Q E)⟩
theorem all_lwr {k : Nat} {f : Addr} {fd : FuncData} (F : Fun K "_law_leaf_written" "_law_leaf_written" s_law_leaf_written f fd) (b : Binds K fd ["_law_tree_here"] []) (m : mg "_law_leaf_written" = some (.ref f)) (z_str : mg "str" = none) : ∀ n : Nat, FnB P w K mg base (k + n) "_law_leaf_written" f fd ["_law_tree_here"] (sp_lwr n)
  | 0 => ⟨no_lwr, b, F.kp, m⟩
  | n + 1 => ⟨ok_lwr F z_str (all_lwr F b m z_str n), b, F.kp, m⟩
end
end K06
set_option Elab.async false
set_option linter.all false
set_option maxRecDepth 100000
set_option maxHeartbeats 4000000
namespace L2
open PySem
def plainB : Tr → Bool
  | .say _ => false
  | .ite _ _ _ => false
  | .lett _ _ _ => false
  | _ => true
def sgT : Bin → String
  | .add => "+"
  | .sub => "-"
  | .mul => "*"
  | .thn => ";"
theorem leaf_no {o : Bin} {k : Kd} (h : o.s = k.s) : k = o.kd := by
  cases o <;> cases k <;> first | rfl | exact absurd h (by decide +kernel)
theorem kd_no : ∀ k : Kd, k ≠ .say → k ≠ .lett → k ≠ .ite → k.s ≠ Str.ofString "say" ∧ k.s ≠ Str.ofString "let" ∧ k.s ≠ Str.ofString "if" := by
  intro k h1 h2 h3
  cases k <;> first | exact absurd rfl h1 | exact absurd rfl h2 | exact absurd rfl h3 | decide +kernel
theorem plain_no {t : Tr} (h : plainB t = true) : t.sign ≠ Str.ofString "say" ∧ t.sign ≠ Str.ofString "let" ∧ t.sign ≠ Str.ofString "if" := by
  refine kd_no t.kd ?_ ?_ ?_ <;> (intro z; cases t with
    | say a => cases h
    | ite a b c => cases h
    | lett x a b => cases h
    | bin o a b => cases o <;> cases z
    | _ => cases z)
theorem not_bin {t : Tr} {o : Bin} (hb : plainB t = true) (h : t.sign = o.s) : ∃ a b, t = .bin o a b := by
  have e : t.kd = o.kd := leaf_no h.symm
  cases t with
  | say a => cases hb
  | ite a b c => cases hb
  | lett x a b => cases hb
  | bin p a b => exact ⟨a, b, by cases p <;> cases o <;> first | rfl | cases e⟩
  | _ => cases o <;> cases e
theorem gdT_lt (t : Tr) : gdT t < 2 := by
  cases t with
  | gap g as => cases as <;> simp [gdT]
  | _ => simp [gdT]
theorem bw_mid (o : Bin) : tx (bwT o) = tx " " ++ (tx (sgT o) ++ tx " ") := by cases o <;> decide +kernel
theorem sg_len (o : Bin) : (tx (sgT o)).length = 1 := by cases o <;> decide +kernel
theorem tx_ones : (tx " ").length = 1 ∧ (tx "(").length = 1 ∧ (tx ")").length = 1 := by decide +kernel
end L2
namespace K06
open PySem PySem.Spec L2 PyProof.Rows
abbrev s_law_written : Stmt := top 42
theorem sc_law_written : FnScope ["_law_tree_here", "_law_one", "_law_ahead", "_law_sign", "_law_word_here"] ["_law_tree_here"] (defScope s_law_written) := ⟨rfl, rfl, rfl, by decide +kernel, rfl, by decide +kernel, by decide +kernel⟩
section
variable {P : Program} {w : World} {K : PySem.W.Frag} {mg : Str → Option Value} {base : Heap}
def sp_wr (n : Nat) : Sp := fun vs H Q _ => ∃ (t : Tr) (v : V), vs = [v] ∧ Rep H t v ∧ TOk t ∧ dpT t < n ∧ (txT t).length ≤ 4000 ∧ ∀ H', Same H H' → Q (.str (sOf (txT t))) H'
theorem ok_wr {k n : Nat} {f g1 : Addr} {fd gd1 : FuncData} (F : Fun K "_law_written" "_law_written" s_law_written f fd) (G_law_leaf_written : FnB P w K mg base k "_law_leaf_written" g1 gd1 ["_law_tree_here"] (sp_lwr 2)) (G_law_written : FnB P w K mg base k "_law_written" f fd ["_law_tree_here"] (sp_wr n)) :
    FnOk P w K mg base CX0 (k + 1) f fd ["_law_tree_here"] (sp_wr (n + 1)) := by
  refine F.ok sc_law_written (fun vs H Q E h => ?_) (fun cdv A outer s H vs Q E hr h => ?_)
  · obtain ⟨t, v, rfl, _⟩ := h
    rfl
  obtain ⟨t, v, rfl, hR, ok, hn, h4, q⟩ := h
  refine ⟨_, (Sd.un (pss_consS (ps_ifS ⟨pt_cmpR op_eq (pe_ix (r := rIxT K) ix_tup (pv 0) pe_int (fun _ _ => rfl)) pe_str (nomark _)⟩ (pss_oneS (ps_retS ⟨pe_op op_add_str (pe_op op_add_str pe_str (pe_call G_law_written.ok hr (by rfl) G_law_written.gl G_law_written.kp G_law_written.bd .nil pass0 (pa_cons (pe_ix (r := rIxT K) ix_tup (pv 0) pe_int (fun _ _ => rfl)) pa_nil))) pe_str⟩)) ⟨pss_nil⟩)
    (pss_consS (ps_ifS ⟨pt_cmpR op_eq (pe_ix (r := rIxT K) ix_tup (pv 0) pe_int (fun _ _ => rfl)) pe_str (nomark _)⟩ (pss_consS (ps_setS (i := 1) sc_law_written.nd rfl (Or.inl rfl) ⟨pe_op op_add_str (pe_op op_add_str (pe_op op_add_str pe_str (pe_ix (r := rIxT K) ix_tup (pv 0) pe_int (fun _ _ => rfl))) pe_str) (pe_call G_law_written.ok hr (by rfl) G_law_written.gl G_law_written.kp G_law_written.bd .nil pass0 (pa_cons (pe_ix (r := rIxT K) ix_tup (pv 0) pe_int (fun _ _ => rfl)) pa_nil))⟩)
    (pss_oneS (ps_retS ⟨pe_op op_add_str (pe_op op_add_str (pe_op op_add_str (pv 1) pe_str) (pe_call G_law_written.ok hr (by rfl) G_law_written.gl G_law_written.kp G_law_written.bd .nil pass0 (pa_cons (pe_ix (r := rIxT K) ix_tup (pv 0) pe_int (fun _ _ => rfl)) pa_nil))) pe_str⟩))) ⟨pss_nil⟩)
    (pss_consS (ps_ifS ⟨pt_cmpR op_eq (pe_ix (r := rIxT K) ix_tup (pv 0) pe_int (fun _ _ => rfl)) pe_str (nomark _)⟩ (pss_consS (ps_setS (i := 2) sc_law_written.nd rfl (Or.inl rfl) ⟨pe_op op_add_str (pe_op op_add_str pe_str (pe_call G_law_written.ok hr (by rfl) G_law_written.gl G_law_written.kp G_law_written.bd .nil pass0 (pa_cons (pe_ix (r := rIxT K) ix_tup (pv 0) pe_int (fun _ _ => rfl)) pa_nil))) pe_str⟩)
    (pss_consS (ps_setS (i := 2) sc_law_written.nd rfl (Or.inl rfl) ⟨pe_op op_add_str (pv 2) (pe_call G_law_written.ok hr (by rfl) G_law_written.gl G_law_written.kp G_law_written.bd .nil pass0 (pa_cons (pe_ix (r := rIxT K) ix_tup (pv 0) pe_int (fun _ _ => rfl)) pa_nil))⟩)
    (pss_oneS (ps_retS ⟨pe_op op_add_str (pe_op op_add_str (pe_op op_add_str (pv 2) pe_str) (pe_call G_law_written.ok hr (by rfl) G_law_written.gl G_law_written.kp G_law_written.bd .nil pass0 (pa_cons (pe_ix (r := rIxT K) ix_tup (pv 0) pe_int (fun _ _ => rfl)) pa_nil))) pe_str⟩)))) ⟨pss_nil⟩)
    (pss_consS ⟨ps_for PassesOwn.never rfl (pi_list (Sd.un (pe_lstS (pa_consS (pe_tupS (pa_consS ⟨pe_str⟩ (pa_consS ⟨pe_str⟩ ⟨pa_nil⟩))) (pa_consS (pe_tupS (pa_consS ⟨pe_str⟩ (pa_consS ⟨pe_str⟩ ⟨pa_nil⟩))) (pa_consS (pe_tupS (pa_consS ⟨pe_str⟩ (pa_consS ⟨pe_str⟩ ⟨pa_nil⟩))) (pa_consS (pe_tupS (pa_consS ⟨pe_str⟩ (pa_consS ⟨pe_str⟩ ⟨pa_nil⟩))) ⟨pa_nil⟩))))))) (pg_tup rfl (pgs_cons (pg_name (i := 3) sc_law_written.nd rfl (Or.inl rfl)) (pgs_cons (pg_name (i := 4) sc_law_written.nd rfl (Or.inl rfl)) pgs_nil))) (pss_one (ps_if (pt_cmpR op_eq (pe_ix (r := rIxT K) ix_tup (pv 0) pe_int (fun _ _ => rfl)) (pv 4) (nomark _)) (pss_cons (ps_set (i := 1) sc_law_written.nd rfl (Or.inl rfl) (pe_call G_law_written.ok hr (by rfl) G_law_written.gl G_law_written.kp G_law_written.bd .nil pass0 (pa_cons (pe_ix (r := rIxT K) ix_tup (pv 0) pe_int (fun _ _ => rfl)) pa_nil)))
    (pss_one (ps_ret (pe_op op_add_str (pe_op op_add_str (pe_op op_add_str (pe_op op_add_str (pe_op op_add_str (pe_op op_add_str pe_str (pv 1)) pe_str) (pv 3)) pe_str) (pe_call G_law_written.ok hr (by rfl) G_law_written.gl G_law_written.kp G_law_written.bd .nil pass0 (pa_cons (pe_ix (r := rIxT K) ix_tup (pv 0) pe_int (fun _ _ => rfl)) pa_nil))) pe_str)))) pss_nil))⟩
    (pss_oneS (ps_retS ⟨pe_call G_law_leaf_written.ok hr (by rfl) G_law_leaf_written.gl G_law_leaf_written.kp G_law_leaf_written.bd .nil pass0 (pa_cons (pv 0) pa_nil)⟩))))))), ?_⟩
  have d2 : 2 ≤ sizeLine := by decide
  have d4 : 4 ≤ sizeLine := by decide
  obtain ⟨l1, l2, l3, l4, l5, l6, l7, l8, l9⟩ := tx_lens
  obtain ⟨o1, o2, o3⟩ := tx_ones
  obtain ⟨pp1, pp2⟩ := tx_par
  cases hb : plainB t with
  | false =>
    cases t with
    | say a =>
      obtain ⟨p, u, rfl, hp, ra⟩ := hR
      have hn' : dpT a + 1 < n + 1 := hn
      have ht : txT (.say a) = tx "(say " ++ (txT a ++ tx ")") := by rw [pp2]; rfl
      rw [ht] at q h4
      simp only [List.length_append, l3, o3] at h4
      refine ⟨_, rfl, p, _, 0, _, rfl, rfl, SqT.of hp, rfl, rfl, _, rfl, iteT ?_⟩
      rw [str_tx "(say ", str_tx ")"]
      refine ⟨_, rfl, p, _, 1, _, rfl, rfl, SqT.of hp, rfl, a, u, rfl, ra, ok, by omega, by omega, fun H1 g1 => ?_⟩
      refine ⟨_, _, rfl, rfl, line_of (by rw [sOf_len, sOf_len]; omega), ?_⟩
      rw [sOf_app]
      refine ⟨_, _, rfl, rfl, line_of (by rw [sOf_len, sOf_len, List.length_append]; omega), ?_⟩
      rw [sOf_app, List.append_assoc]
      exact q H1 g1
    | lett x a b =>
      obtain ⟨p, u, v, rfl, hp, ra, rb⟩ := hR
      have hn' : max (dpT a) (dpT b) + 1 < n + 1 := hn
      have hx := ok.1.hi
      have lx := str_len x
      have ht : txT (.lett x a b) = tx "(let " ++ (x.cps.toList ++ (tx " = " ++ (txT a ++ (tx " in " ++ (txT b ++ tx ")"))))) := by rw [pp2]; rfl
      rw [ht] at q h4
      simp only [List.length_append, l7, l8, l9, o3] at h4
      refine ⟨_, rfl, p, _, 0, _, rfl, rfl, SqT.of hp, rfl, rfl, _, rfl, iteF ?_⟩
      refine ⟨_, rfl, p, _, 0, _, rfl, rfl, SqT.of hp, rfl, rfl, _, rfl, iteT ?_⟩
      rw [str_tx "(let ", str_tx " = ", str_tx " in ", str_tx ")"]
      refine ⟨_, rfl, p, _, 1, _, rfl, rfl, SqT.of hp, rfl, _, _, rfl, rfl, line_of (by rw [sOf_len]; omega), ?_⟩
      rw [show sOf (tx "(let ") ++ x = sOf (tx "(let " ++ x.cps.toList) from sOf_eq (by rw [app_list, sOf_list])]
      refine ⟨_, _, rfl, rfl, line_of (by rw [sOf_len, sOf_len, List.length_append]; omega), ?_⟩
      rw [sOf_app]
      refine ⟨_, rfl, p, _, 2, _, rfl, rfl, SqT.of hp, rfl, a, u, rfl, ra, ok.2.1, by omega, by omega, fun H1 g1 => ?_⟩
      refine ⟨_, _, rfl, rfl, line_of (by rw [sOf_len, sOf_len]; simp only [List.length_append]; omega), ?_⟩
      rw [sOf_app]
      have hp1 := g1 _ _ hp
      refine ⟨_, rfl, _, _, rfl, rfl, line_of (by rw [sOf_len, sOf_len]; simp only [List.length_append]; omega), ?_⟩
      rw [sOf_app]
      refine ⟨_, rfl, p, _, 3, _, rfl, rfl, SqT.of hp1, rfl, b, v, rfl, rb.mono g1.tk, ok.2.2, by omega, by omega, fun H2 g2 => ?_⟩
      refine ⟨_, _, rfl, rfl, line_of (by rw [sOf_len, sOf_len]; simp only [List.length_append]; omega), ?_⟩
      rw [sOf_app]
      refine ⟨_, _, rfl, rfl, line_of (by rw [sOf_len, sOf_len]; simp only [List.length_append]; omega), ?_⟩
      rw [sOf_app]
      simp only [List.append_assoc]
      exact q H2 (g1.trans g2)
    | ite a b c =>
      obtain ⟨p, u, v, z, rfl, hp, ra, rb, rc⟩ := hR
      have hn' : max (dpT a) (max (dpT b) (dpT c)) + 1 < n + 1 := hn
      have ht : txT (.ite a b c) = tx "(if " ++ (txT a ++ (tx " then " ++ (txT b ++ (tx " else " ++ (txT c ++ tx ")"))))) := by rw [pp2]; rfl
      rw [ht] at q h4
      simp only [List.length_append, l4, l5, l6, o3] at h4
      refine ⟨_, rfl, p, _, 0, _, rfl, rfl, SqT.of hp, rfl, rfl, _, rfl, iteF ?_⟩
      refine ⟨_, rfl, p, _, 0, _, rfl, rfl, SqT.of hp, rfl, rfl, _, rfl, iteF ?_⟩
      refine ⟨_, rfl, p, _, 0, _, rfl, rfl, SqT.of hp, rfl, rfl, _, rfl, iteT ?_⟩
      rw [str_tx "(if ", str_tx " then ", str_tx " else ", str_tx ")"]
      refine ⟨_, rfl, p, _, 1, _, rfl, rfl, SqT.of hp, rfl, a, u, rfl, ra, ok.1, by omega, by omega, fun H1 g1 => ?_⟩
      refine ⟨_, _, rfl, rfl, line_of (by rw [sOf_len, sOf_len]; omega), ?_⟩
      rw [sOf_app]
      refine ⟨_, _, rfl, rfl, line_of (by rw [sOf_len, sOf_len]; simp only [List.length_append]; omega), ?_⟩
      rw [sOf_app]
      have hp1 := g1 _ _ hp
      refine ⟨_, rfl, _, rfl, p, _, 2, _, rfl, rfl, SqT.of hp1, rfl, b, v, rfl, rb.mono g1.tk, ok.2.1, by omega, by omega, fun H2 g2 => ?_⟩
      refine ⟨_, _, rfl, rfl, line_of (by rw [sOf_len, sOf_len]; simp only [List.length_append]; omega), ?_⟩
      rw [sOf_app]
      have hp2 := g2 _ _ hp1
      refine ⟨_, rfl, _, _, rfl, rfl, line_of (by rw [sOf_len, sOf_len]; simp only [List.length_append]; omega), ?_⟩
      rw [sOf_app]
      refine ⟨_, rfl, p, _, 3, _, rfl, rfl, SqT.of hp2, rfl, c, z, rfl, rc.mono (g1.trans g2).tk, ok.2.2, by omega, by omega, fun H3 g3 => ?_⟩
      refine ⟨_, _, rfl, rfl, line_of (by rw [sOf_len, sOf_len]; simp only [List.length_append]; omega), ?_⟩
      rw [sOf_app]
      refine ⟨_, _, rfl, rfl, line_of (by rw [sOf_len, sOf_len]; simp only [List.length_append]; omega), ?_⟩
      rw [sOf_app]
      simp only [List.append_assoc]
      exact q H3 (g1.trans (g2.trans g3))
    | _ => cases hb
  | true =>
    obtain ⟨n1, n2, n3⟩ := plain_no hb
    obtain ⟨p, hs, us, rfl, hp, hh, hus⟩ := id hR.all
    have no : ∀ {x : Str}, t.sign ≠ x → ¬ decide (V.str t.sign = V.str x) = true := fun h z => h (by have := of_decide_eq_true z; injection this)
    refine ⟨_, rfl, p, _, 0, _, rfl, rfl, SqT.of hp, atI_nat (j := 0) rfl, rfl, _, rfl, ite2 (fun c => absurd c (no n1)) (fun _ => ?_)⟩
    refine ⟨_, rfl, p, _, 0, _, rfl, rfl, SqT.of hp, atI_nat (j := 0) rfl, rfl, _, rfl, ite2 (fun c => absurd c (no n2)) (fun _ => ?_)⟩
    refine ⟨_, rfl, p, _, 0, _, rfl, rfl, SqT.of hp, atI_nat (j := 0) rfl, rfl, _, rfl, ite2 (fun c => absurd c (no n3)) (fun _ => ?_)⟩
    refine ⟨d2, fun p1 h1 => ⟨d2, fun p2 h2 => ⟨d2, fun p3 h3 => ⟨d2, fun p4 h4' => ⟨d4, fun ll hl => ?_⟩⟩⟩⟩⟩
    have k1 := same_upd (o := .tup [.str "+", .str "add"]) h1
    have k2 := same_upd (o := .tup [.str "-", .str "sub"]) h2
    have k3 := same_upd (o := .tup [.str "*", .str "mul"]) h3
    have k4 := same_upd (o := .tup [.str ";", .str "then"]) h4'
    have k5 := same_upd (o := .lst [.ref p1, .ref p2, .ref p3, .ref p4]) hl
    have kA := k1.trans (k2.trans (k3.trans (k4.trans k5)))
    have u1 := k5 _ _ (k4 _ _ (k3 _ _ (k2 _ _ (upd_same (H := H) (a := p1) (o := .tup [.str "+", .str "add"])))))
    have u2 := k5 _ _ (k4 _ _ (k3 _ _ (upd_same (H := upd H p1 (.tup [.str "+", .str "add"])) (a := p2) (o := .tup [.str "-", .str "sub"]))))
    have u3 := k5 _ _ (k4 _ _ (upd_same (H := upd (upd H p1 (.tup [.str "+", .str "add"])) p2 (.tup [.str "-", .str "sub"])) (a := p3) (o := .tup [.str "*", .str "mul"])))
    have u4 := k5 _ _ (upd_same (H := upd (upd (upd H p1 (.tup [.str "+", .str "add"])) p2 (.tup [.str "-", .str "sub"])) p3 (.tup [.str "*", .str "mul"])) (a := p4) (o := .tup [.str ";", .str "then"]))
    have el : (upd (upd (upd (upd (upd H p1 (.tup [.str "+", .str "add"])) p2 (.tup [.str "-", .str "sub"])) p3 (.tup [.str "*", .str "mul"])) p4 (.tup [.str ";", .str "then"])) ll (.lst [.ref p1, .ref p2, .ref p3, .ref p4])) ll = some (.lst [.ref p1, .ref p2, .ref p3, .ref p4]) := upd_same
    generalize upd (upd (upd (upd (upd H p1 (.tup [.str "+", .str "add"])) p2 (.tup [.str "-", .str "sub"])) p3 (.tup [.str "*", .str "mul"])) p4 (.tup [.str ";", .str "then"])) ll (.lst [.ref p1, .ref p2, .ref p3, .ref p4]) = H5 at kA u1 u2 u3 u4 el ⊢
    clear k1 k2 k3 k4 k5
    have hp5 := kA _ _ hp
    have items : ∀ (j : Nat) (x : V), [V.ref p1, .ref p2, .ref p3, .ref p4][j]? = some x → ∃ (o : Bin) (pj : Addr), bins[j]? = some o ∧ x = .ref pj ∧ H5 pj = some (.tup [.str (Str.ofString (sgT o)), .str o.s]) := fun j x hx => by
      have hj : j < 4 := (List.getElem?_eq_some_iff.mp hx).1
      rcases (show j = 0 ∨ j = 1 ∨ j = 2 ∨ j = 3 by omega) with rfl | rfl | rfl | rfl
      · cases hx; exact ⟨.add, p1, rfl, rfl, u1⟩
      · cases hx; exact ⟨.sub, p2, rfl, rfl, u2⟩
      · cases hx; exact ⟨.mul, p3, rfl, rfl, u3⟩
      · cases hx; exact ⟨.thn, p4, rfl, rfl, u4⟩
    refine ⟨ll, rfl, ⟨_, SqL.of el⟩, ?_⟩
    refine for_list (xs := [V.ref p1, .ref p2, .ref p3, .ref p4]) (fun j σ' H' => ∃ s3 s4 : Option V, σ' = [some (.ref p), none, none, s3, s4] ∧ H' = H5 ∧ ∀ j' o, j' < j → bins[j']? = some o → t.sign ≠ o.s) ⟨none, none, rfl, rfl, fun j' o h => absurd h (Nat.not_lt_zero _)⟩ ?_ ?_ ?_
    · rintro j σ' H' _ ⟨s3, s4, rfl, rfl, _⟩
      exact SqL.of el
    · rintro j x σ' H' hx ⟨s3, s4, rfl, rfl, nb⟩
      obtain ⟨o, pj, hj, rfl, hpj⟩ := items j x hx
      refine ⟨pj, _, rfl, SqT.of hpj, rfl, _, _, rfl, _, _, rfl, rfl, ?_⟩
      refine ⟨_, rfl, p, _, 0, _, rfl, rfl, SqT.of hp5, atI_nat (j := 0) rfl, _, rfl, rfl, _, rfl, ite2 (fun c => ?_) (fun c => ?_)⟩
      · have e : t.sign = o.s := by have := of_decide_eq_true c; injection this
        obtain ⟨a, b, rfl⟩ := not_bin hb e
        obtain ⟨p', u, v, e', hp', ra, rb⟩ := hR
        cases e'
        have hn' : max (dpT a) (dpT b) + 1 < n + 1 := hn
        have ht : txT (.bin o a b) = tx "(" ++ (txT a ++ (tx " " ++ (tx (sgT o) ++ (tx " " ++ (txT b ++ tx ")"))))) := by
          rw [txT, bw_mid, pp1, pp2]
          simp
        have hsg := sg_len o
        rw [ht] at q h4
        simp only [List.length_append, o1, o2, o3, hsg] at h4
        have hp6 := kA _ _ hp'
        rw [str_tx "(", str_tx " ", str_tx ")", str_tx (sgT o)]
        refine ⟨_, rfl, p, _, 1, _, rfl, rfl, SqT.of hp6, rfl, a, u, rfl, ra.mono kA.tk, ok.1, by omega, by omega, fun H6 g6 => ?_⟩
        have hp7 := g6 _ _ hp6
        refine ⟨_, rfl, _, _, rfl, rfl, line_of (by rw [sOf_len, sOf_len]; omega), ?_⟩
        rw [sOf_app]
        refine ⟨_, _, rfl, rfl, line_of (by rw [sOf_len, sOf_len]; simp only [List.length_append]; omega), ?_⟩
        rw [sOf_app]
        refine ⟨_, rfl, _, _, rfl, rfl, line_of (by rw [sOf_len, sOf_len]; simp only [List.length_append]; omega), ?_⟩
        rw [sOf_app]
        refine ⟨_, _, rfl, rfl, line_of (by rw [sOf_len, sOf_len]; simp only [List.length_append]; omega), ?_⟩
        rw [sOf_app]
        refine ⟨_, rfl, p, _, 2, _, rfl, rfl, SqT.of hp7, rfl, b, v, rfl, rb.mono (kA.trans g6).tk, ok.2, by omega, by omega, fun H7 g7 => ?_⟩
        refine ⟨_, _, rfl, rfl, line_of (by rw [sOf_len, sOf_len]; simp only [List.length_append]; omega), ?_⟩
        rw [sOf_app]
        refine ⟨_, _, rfl, rfl, line_of (by rw [sOf_len, sOf_len]; simp only [List.length_append]; omega), ?_⟩
        rw [sOf_app]
        simp only [List.append_assoc]
        exact q H7 (kA.trans (g6.trans g7))
      · refine ⟨_, _, rfl, rfl, fun j' o' h h' => ?_⟩
        rcases Nat.lt_or_ge j' j with h2 | h2
        · exact nb j' o' h2 h'
        · have ej : j' = j := by omega
          subst ej
          rw [hj] at h'
          cases h'
          exact fun z => c (decide_eq_true (by rw [z]))
    · rintro σ' H' ⟨s3, s4, rfl, rfl, nb⟩
      have hlf : leafB t = true := by
        cases t with
        | say a => cases hb
        | ite a b c => cases hb
        | lett x a b => cases hb
        | bin o a b =>
          obtain ⟨j, hj, e⟩ := bins_in o
          exact absurd (Bin.kd_s o) (nb j o hj e)
        | _ => rfl
      have hgd : gdT t < 2 := gdT_lt t
      exact ⟨_, rfl, t, _, rfl, hR.mono kA.tk, ok, hlf, hgd, fun H6 g6 => q H6 (kA.trans g6)⟩
theorem no_wr {k : Nat} {f : Addr} {fd : FuncData} : FnOk P w K mg base CX0 k f fd ["_law_tree_here"] (sp_wr 0) := by
  have no : ∀ vs H Q E, ¬ sp_wr 0 vs H Q E := fun vs H Q E h => by
    obtain ⟨t, v, _, _, _, h1, _⟩ := h
    omega
  exact ⟨fun vs H Q E h => absurd h (no vs H Q E), fun A outer s H args us vs Q E _ _ _ _ h => absurd h (no vs H Q E)⟩
theorem all_wr {k : Nat} {f g1 : Addr} {fd gd1 : FuncData} (F : Fun K "_law_written" "_law_written" s_law_written f fd) (b : Binds K fd ["_law_tree_here"] []) (m : mg "_law_written" = some (.ref f)) (G : FnB P w K mg base k "_law_leaf_written" g1 gd1 ["_law_tree_here"] (sp_lwr 2)) : ∀ n : Nat, FnB P w K mg base (k + n) "_law_written" f fd ["_law_tree_here"] (sp_wr n)
  | 0 => ⟨no_wr, b, F.kp, m⟩
  | n + 1 => ⟨ok_wr F (G.up (Nat.le_add_right _ _)) (all_wr F b m G n), b, F.kp, m⟩
end
end K06
set_option Elab.async false
set_option linter.all false
set_option maxRecDepth 100000
set_option maxHeartbeats 4000000
namespace L2
open PySem
def dtA : Atom → Dt
  | .name x => .tup [.str "name", .str x]
  | .num n => .tup [.str "num", .int n]
  | .gap g => .tup [.str "gap", .str g, .tup []]
def dtT : Tr → Dt
  | .num n => .tup [.str "num", .int n]
  | .name x => .tup [.str "name", .str x]
  | .ask x => .tup [.str "ask", .str x]
  | .stop x => .tup [.str "stop", .str x]
  | .gap g as => .tup [.str "gap", .str g, .tup (as.map dtA)]
  | .say a => .tup [.str "say", dtT a]
  | .bin o a b => .tup [.str o.s, dtT a, dtT b]
  | .ite a b c => .tup [.str "if", dtT a, dtT b, dtT c]
  | .lett x a b => .tup [.str "let", .str x, dtT a, dtT b]
theorem AtRep.dr {H : Hp} : ∀ {a : Atom} {v : V}, AtRep H a v → DR H (dtA a) v
  | .name x, _, ⟨a, e, h⟩ => e ▸ .tup h (.cons (.str _) (.cons (.str _) .nil))
  | .num n, _, ⟨a, e, h⟩ => e ▸ .tup h (.cons (.str _) (.cons (.int _) .nil))
  | .gap g, _, ⟨a, b, e, h, h'⟩ => e ▸ .tup h (.cons (.str _) (.cons (.str _) (.cons (.tup h' .nil) .nil)))
theorem atoms_dr {H : Hp} : ∀ {as : List Atom} {us : List V}, Paired (AtRep H) as us → DRs H (as.map dtA) us
  | _, _, .nil => .nil
  | _, _, .cons r t => .cons r.dr (atoms_dr t)
theorem Rep.dr {H : Hp} : ∀ {t : Tr} {v : V}, Rep H t v → DR H (dtT t) v
  | .num n, _, ⟨a, e, h⟩ => e ▸ .tup h (.cons (.str _) (.cons (.int _) .nil))
  | .name n, _, ⟨a, e, h⟩ => e ▸ .tup h (.cons (.str _) (.cons (.str _) .nil))
  | .ask n, _, ⟨a, e, h⟩ => e ▸ .tup h (.cons (.str _) (.cons (.str _) .nil))
  | .stop n, _, ⟨a, e, h⟩ => e ▸ .tup h (.cons (.str _) (.cons (.str _) .nil))
  | .gap g as, _, ⟨a, b, us, e, h, h', _, p⟩ => e ▸ .tup h (.cons (.str _) (.cons (.str _) (.cons (.tup h' (atoms_dr p)) .nil)))
  | .say _, _, ⟨a, u, e, h, r⟩ => e ▸ .tup h (.cons (.str _) (.cons r.dr .nil))
  | .bin o _ _, _, ⟨a, u, w, e, h, r, s⟩ => e ▸ .tup h (.cons (.str _) (.cons r.dr (.cons s.dr .nil)))
  | .ite _ _ _, _, ⟨a, u, w, z, e, h, r, s, t⟩ => e ▸ .tup h (.cons (.str _) (.cons r.dr (.cons s.dr (.cons t.dr .nil))))
  | .lett x _ _, _, ⟨a, u, w, e, h, r, s⟩ => e ▸ .tup h (.cons (.str _) (.cons (.str _) (.cons r.dr (.cons s.dr .nil))))
theorem dtA_deeps : ∀ as : List Atom, Dt.deeps (as.map dtA) ≤ 2
  | [] => by simp [Dt.deeps]
  | a :: as => by
    have := dtA_deeps as
    cases a <;> simp [Dt.deeps, dtA, Dt.deep] <;> omega
theorem dtT_deep : ∀ t : Tr, (dtT t).deep ≤ dpT t + 4
  | .num _ => by simp [dtT, Dt.deep, Dt.deeps]
  | .name _ => by simp [dtT, Dt.deep, Dt.deeps]
  | .ask _ => by simp [dtT, Dt.deep, Dt.deeps]
  | .stop _ => by simp [dtT, Dt.deep, Dt.deeps]
  | .gap _ as => by have := dtA_deeps as; simp [dtT, Dt.deep, Dt.deeps]; omega
  | .say a => by have := dtT_deep a; simp [dtT, Dt.deep, Dt.deeps, dpT]; omega
  | .bin _ a b => by have := dtT_deep a; have := dtT_deep b; simp [dtT, Dt.deep, Dt.deeps, dpT]; omega
  | .ite a b c => by have := dtT_deep a; have := dtT_deep b; have := dtT_deep c; simp [dtT, Dt.deep, Dt.deeps, dpT]; omega
  | .lett _ a b => by have := dtT_deep a; have := dtT_deep b; simp [dtT, Dt.deep, Dt.deeps, dpT]; omega
end L2
namespace K06
open PySem PySem.Spec L2 PyProof.Rows
abbrev s_law_same : Stmt := top 43
theorem sc_law_same : FnScope ["_law_found", "_law_due", "_law_one", "_law_other"] ["_law_found", "_law_due"] (defScope s_law_same) := ⟨rfl, rfl, rfl, by decide +kernel, rfl, by decide +kernel, by decide +kernel⟩
section
variable {P : Program} {w : World} {K : PySem.W.Frag} {mg : Str → Option Value} {base : Heap}
def sp_same (n : Nat) : Sp := fun vs H Q _ => ∃ (d : Dt) (v1 v2 : V), vs = [v1, v2] ∧ DR H d v1 ∧ DR H d v2 ∧ d.deep < n ∧ ∀ H', Same H H' → Q (.bl true) H'
theorem ok_same {k n : Nat} {f : Addr} {fd : FuncData} (F : Fun K "_law_same" "_law_same" s_law_same f fd) (z_isinstance : mg "isinstance" = none) (z_tuple : mg "tuple" = none) (z_str : mg "str" = none) (z_int : mg "int" = none) (z_bool : mg "bool" = none) (z_len : mg "len" = none) (z_zip : mg "zip" = none)
    (G_law_same : FnB P w K mg base k "_law_same" f fd ["_law_found", "_law_due"] (sp_same n)) : FnOk P w K mg base CX0 (k + 1) f fd ["_law_found", "_law_due"] (sp_same (n + 1)) := by
  refine F.ok sc_law_same (fun vs H Q E h => ?_) (fun cdv A outer s H vs Q E hr h => ?_)
  · obtain ⟨d, v1, v2, rfl, _⟩ := h
    rfl
  obtain ⟨d, v1, v2, rfl, r1, r2, hdn, q⟩ := h
  refine ⟨_, (pss_cons (ps_if (pt_val (pe_callB call_isi (by rfl) z_isinstance PyProof.Rows.boot_isinstance (pa_cons (pv 1) (pa_cons (pe_bltn (v := .ty _) (by rfl) z_tuple PyProof.Rows.boot_tuple (by rfl)) pa_nil)))) (pss_cons (ps_if (pw_or (pt_not (pt_val (pe_callB call_isi (by rfl) z_isinstance PyProof.Rows.boot_isinstance (pa_cons (pv 0) (pa_cons (pe_bltn (v := .ty _) (by rfl) z_tuple PyProof.Rows.boot_tuple (by rfl)) pa_nil))))) (pw_or1 (pt_cmpR op_ne (pe_callB call_len_seq (by rfl) z_len PySem.boot_len (pa_cons (pv 0) pa_nil)) (pe_callB call_len_seq (by rfl) z_len PySem.boot_len (pa_cons (pv 1) pa_nil)) (nomark _)))).pt (pss_one (ps_ret pe_bl)) pss_nil)
    (pss_cons (ps_for PassesOwn.never rfl (pi_zip (by rfl) z_zip (pa_cons (pv 0) (pa_cons (pv 1) pa_nil))) (pg_tup rfl (pgs_cons (pg_name (i := 2) sc_law_same.nd rfl (Or.inl rfl)) (pgs_cons (pg_name (i := 3) sc_law_same.nd rfl (Or.inl rfl)) pgs_nil))) (pss_one (ps_if (pt_not (pt_val (pe_call G_law_same.ok hr (by rfl) G_law_same.gl G_law_same.kp G_law_same.bd .nil pass0 (pa_cons (pv 2) (pa_cons (pv 3) pa_nil))))) (pss_one (ps_ret pe_bl)) pss_nil)))
    (pss_one (ps_ret pe_bl)))) pss_nil)
    (pss_cons (ps_if (pt_val (pe_callB call_isi (by rfl) z_isinstance PyProof.Rows.boot_isinstance (pa_cons (pv 1) (pa_cons (pe_bltn (v := .ty _) (by rfl) z_str PyProof.Rows.boot_str (by rfl)) pa_nil)))) (pss_one (ps_ret (pe_and (pe_callB call_isi (by rfl) z_isinstance PyProof.Rows.boot_isinstance (pa_cons (pv 0) (pa_cons (pe_bltn (v := .ty _) (by rfl) z_str PyProof.Rows.boot_str (by rfl)) pa_nil))) (pe_one (pe_cmpR op_eq (pv 0) (pv 1) (nomark _)))))) pss_nil)
    (pss_one (ps_ret (pe_and (pe_callB call_isi (by rfl) z_isinstance PyProof.Rows.boot_isinstance (pa_cons (pv 0) (pa_cons (pe_bltn (v := .ty _) (by rfl) z_int PyProof.Rows.boot_int (by rfl)) pa_nil))) (pe_and (pe_not (pe_callB call_isi (by rfl) z_isinstance PyProof.Rows.boot_isinstance (pa_cons (pv 0) (pa_cons (pe_bltn (v := .ty _) (by rfl) z_bool PyProof.Rows.boot_bool (by rfl)) pa_nil)))) (pe_one (pe_cmpR op_eq (pv 0) (pv 1) (nomark _))))))))), ?_⟩
  cases r1 with
  | @tup a xs ds ha hxs =>
    cases r2 with
    | @tup b ys _ hb hys =>
      have lx := hxs.length
      have ly := hys.length
      refine ⟨_, rfl, .ref b, "tuple", _, true, rfl, .tup hb, rfl, _, rfl, iteT ?_⟩
      refine ⟨_, rfl, .ref a, "tuple", _, true, rfl, .tup ha, rfl, _, rfl, iteF ?_⟩
      refine ⟨_, rfl, a, _, rfl, .inr (SqT.of ha), _, rfl, b, _, rfl, .inr (SqT.of hb), rfl, _, rfl, ?_⟩
      refine ite2 (fun c => ?_) (fun _ => ?_)
      · have en : xs.length = ys.length := by omega
        rw [en, decide_eq_true rfl] at c
        cases c
      refine ⟨_, rfl, _, rfl, a, b, xs, ys, rfl, ha, hb, ?_⟩
      refine for_zip (xs := xs) (ys := ys) (fun i σ' H' => ∃ s2 s3 : Option V, σ' = [some (.ref a), some (.ref b), s2, s3] ∧ Same H H') ?_ ?_ ?_ ?_
      · exact ⟨none, none, rfl, Same.refl _⟩
      · rintro i σ1 H1 _ ⟨s2, s3, rfl, g⟩
        exact ⟨g _ _ ha, g _ _ hb⟩
      · rintro i x y T σ1 H1 hx hy ⟨s2, s3, rfl, g⟩ hT
        obtain ⟨d1, e1, rd1⟩ := hxs.get hx
        obtain ⟨d2, e2, rd2⟩ := hys.get hy
        rw [e1] at e2; cases e2
        have g1 := g.trans (same_upd (o := .tup [x, y]) hT)
        have hd := deep_get e1
        have hdd : (Dt.tup ds).deep = Dt.deeps ds + 1 := rfl
        refine ⟨T, [x, y], rfl, SqT.of upd_same, rfl, _, _, rfl, _, _, rfl, rfl, ?_⟩
        refine ⟨_, rfl, _, rfl, d1, x, y, rfl, rd1.mono g1.tk, rd2.mono g1.tk, by omega, fun H2 g2 => ⟨_, rfl, iteF ?_⟩⟩
        exact ⟨_, _, rfl, g1.trans g2⟩
      · rintro σ1 H1 ⟨s2, s3, rfl, g⟩
        exact q H1 g
  | str x =>
    cases r2 with
    | str _ =>
      refine ⟨_, rfl, .str x, "tuple", _, false, rfl, .str x, rfl, _, rfl, iteF ?_⟩
      refine ⟨_, rfl, .str x, "str", _, true, rfl, .str x, rfl, _, rfl, iteT ?_⟩
      refine ⟨_, rfl, .str x, "str", _, true, rfl, .str x, rfl, _, rfl, iteT ?_⟩
      refine ⟨_, rfl, _, rfl, rfl, ?_⟩
      rw [decide_eq_true rfl]
      exact q H (Same.refl _)
  | int i =>
    cases r2 with
    | int _ =>
      refine ⟨_, rfl, .int i, "tuple", _, false, rfl, .int i, rfl, _, rfl, iteF ?_⟩
      refine ⟨_, rfl, .int i, "str", _, false, rfl, .int i, rfl, _, rfl, iteF ?_⟩
      refine ⟨_, rfl, .int i, "int", _, true, rfl, .int i, rfl, _, rfl, iteT ?_⟩
      refine ⟨_, rfl, .int i, "bool", _, false, rfl, .int i, rfl, _, rfl, _, rfl, iteT ?_⟩
      refine ⟨_, rfl, _, rfl, rfl, ?_⟩
      rw [decide_eq_true rfl]
      exact q H (Same.refl _)
theorem no_same {k : Nat} {f : Addr} {fd : FuncData} : FnOk P w K mg base CX0 k f fd ["_law_found", "_law_due"] (sp_same 0) := by
  have no : ∀ vs H Q E, ¬ sp_same 0 vs H Q E := fun vs H Q E h => by
    obtain ⟨d, v1, v2, _, _, _, h1, _⟩ := h
    omega
  exact ⟨fun vs H Q E h => absurd h (no vs H Q E), fun A outer s H args us vs Q E _ _ _ _ h => absurd h (no vs H Q E)⟩
theorem all_same {k : Nat} {f : Addr} {fd : FuncData} (F : Fun K "_law_same" "_law_same" s_law_same f fd) (b : Binds K fd ["_law_found", "_law_due"] []) (m : mg "_law_same" = some (.ref f)) (z_isinstance : mg "isinstance" = none) (z_tuple : mg "tuple" = none) (z_str : mg "str" = none) (z_int : mg "int" = none) (z_bool : mg "bool" = none) (z_len : mg "len" = none) (z_zip : mg "zip" = none) :
    ∀ n : Nat, FnB P w K mg base (k + n) "_law_same" f fd ["_law_found", "_law_due"] (sp_same n)
  | 0 => ⟨no_same, b, F.kp, m⟩
  | n + 1 => ⟨ok_same F z_isinstance z_tuple z_str z_int z_bool z_len z_zip (all_same F b m z_isinstance z_tuple z_str z_int z_bool z_len z_zip n), b, F.kp, m⟩
end
end K06
set_option Elab.async false
set_option linter.all false
set_option maxRecDepth 100000
set_option maxHeartbeats 4000000
namespace L2
open PySem
theorem cutSome {ns : List Int} (lo hi : Option Int) {n : Nat} (h : HT.sIx ns.length ns.length hi - HT.sIx ns.length 0 lo ≤ n) : ∃ ms : List Int, cutV (ns.map V.int) lo hi = ms.map V.int ∧ ms.length ≤ n := by
  obtain ⟨ms, e, l⟩ := cutInts (ns := ns) (lo := lo) (hi := hi) rfl rfl (HT.sIx_le _ _ (Nat.le_refl _) _)
  exact ⟨ms, e, by omega⟩
theorem cut20 {ns : List Int} (a : Nat) : ∃ ms : List Int, cutV (ns.map V.int) (some (a : Int)) (some ((a + 20 : Nat) : Int)) = ms.map V.int ∧ ms.length ≤ 20 := cutSome _ _ (by rw [HT.sIx_nat, HT.sIx_nat]; omega)
structure AllOk (t : Tr) : Prop where
  ok : TOk t
  len : (txT t).length ≤ 2000
  op : opT t ≤ 16
  dp : dpT t ≤ 16
end L2
namespace K06
open PySem PySem.Spec L2 PyProof.Rows
abbrev s_law : Stmt := top 44
theorem sc_law : FnScope ["_law_script", "_law_trees", "_law_told", "_law_tree_here", "_law_text", "_law_great_here"] ["_law_script"] (defScope s_law) := ⟨rfl, rfl, rfl, by decide +kernel, rfl, by decide +kernel, by decide +kernel⟩
section
variable {P : Program} {w : World} {K : PySem.W.Frag} {mg : Str → Option Value} {base : Heap}
theorem GdT.all {t : Tr} {n : Nat} (h : GdT t n 12) (hn : n ≤ 20) : AllOk t := by
  obtain ⟨h1, h2, h3, h4⟩ := h
  exact ⟨h1, by omega, by omega, by omega⟩
def sp_law (K : PySem.W.Frag) : Sp := fun vs H Q _ => ∃ (a : Addr) (ns : List Int), vs = [.ref a] ∧ SqL K H a (ns.map V.int) ∧ ns.length ≤ 63 ∧ ∀ H', Q (.bl true) H'
theorem ok_law {k : Nat} {f g1 g2 g3 g4 g5 g6 g7 g8 : Addr} {fd gd1 gd2 gd3 gd4 gd5 gd6 gd7 gd8 : FuncData} (F : Fun K "law" "law" s_law f fd) (z_isinstance : mg "isinstance" = none) (z_str : mg "str" = none) (z_zip : mg "zip" = none)
    (G_law_tree : FnB P w K mg base k "_law_tree" g1 gd1 ["_law_cells", "_law_deep", "_law_gaps"] (sp_tree K 13)) (G_law_cell_at : FnB P w K mg base k "_law_cell_at" g2 gd2 ["_law_script", "_law_k"] (sp_cell_at K)) (G_law_nested : FnB P w K mg base k "_law_nested" g3 gd3 ["_law_cell", "_law_more"] sp_nested)
    (G_law_great : FnB P w K mg base k "_law_great" g4 gd4 ["_law_cell"] sp_great) (G_law_written : FnB P w K mg base k "_law_written" g5 gd5 ["_law_tree_here"] (sp_wr 97)) (G_law_same : FnB P w K mg base k "_law_same" g6 gd6 ["_law_found", "_law_due"] (sp_same 22))
    (G_shown : FnB P w K mg base k "shown" g7 gd7 ["tree"] sp_shown) (G_read : FnB P w K mg base k "read" g8 gd8 ["text"] (sp_read 17)) : FnOk P w K mg base CX0 (k + 1) f fd ["_law_script"] (sp_law K) := by
  refine F.ok sc_law (fun vs H Q E h => ?_) (fun cdv A outer s H vs Q E hr h => ?_)
  · obtain ⟨a, ns, rfl, _⟩ := h
    rfl
  obtain ⟨a, ns, rfl, hS, h63, q⟩ := h
  refine ⟨_, (Sd.un (pss_consS (ps_setS (i := 1) sc_law.nd rfl (Or.inl rfl) (pe_lstS (pa_consS ⟨pe_call G_law_tree.ok hr (by rfl) G_law_tree.gl G_law_tree.kp G_law_tree.bd .nil pass0 (pa_cons (pe_slice (r := rSlL K) sl_list (pv 0) (po_some pe_int) (po_some pe_int)) (pa_cons pe_int (pa_cons pe_bl pa_nil)))⟩ (pa_consS ⟨pe_call G_law_tree.ok hr (by rfl) G_law_tree.gl G_law_tree.kp G_law_tree.bd .nil pass0 (pa_cons (pe_slice (r := rSlL K) sl_list (pv 0) (po_some pe_int) (po_some pe_int)) (pa_cons pe_int (pa_cons pe_bl pa_nil)))⟩ ⟨pa_nil⟩))))
    (pss_consS (ps_exprS (pe_bmS PySem.F.plainAttrs_list PySem.F.slot_list_append PySem.F.type_list_append mt_append ⟨pv 1⟩ (pa_consS ⟨pe_call G_law_tree.ok hr (by rfl) G_law_tree.gl G_law_tree.kp G_law_tree.bd .nil pass0 (pa_cons (pe_slice (r := rSlL K) sl_list (pv 0) (po_some pe_int) (po_some pe_int)) (pa_cons pe_int (pa_cons pe_bl pa_nil)))⟩ ⟨pa_nil⟩)))
    (pss_consS (ps_exprS (pe_bmS PySem.F.plainAttrs_list PySem.F.slot_list_append PySem.F.type_list_append mt_append ⟨pv 1⟩ (pa_consS ⟨pe_call G_law_nested.ok hr (by rfl) G_law_nested.gl G_law_nested.kp G_law_nested.bd .nil pass0 (pa_cons (pe_call G_law_cell_at.ok hr (by rfl) G_law_cell_at.gl G_law_cell_at.kp G_law_cell_at.bd .nil pass0 (pa_cons (pv 0) (pa_cons pe_int pa_nil))) (pa_cons (pe_call G_law_cell_at.ok hr (by rfl) G_law_cell_at.gl G_law_cell_at.kp G_law_cell_at.bd .nil pass0 (pa_cons (pv 0) (pa_cons pe_int pa_nil))) pa_nil))⟩ ⟨pa_nil⟩)))
    (pss_consS (ps_setS (i := 2) sc_law.nd rfl (Or.inl rfl) (pe_lstS ⟨pa_nil⟩))
    (pss_consS ⟨ps_for PassesOwn.never rfl (pi_list (pv 1)) (pg_name (i := 3) sc_law.nd rfl (Or.inl rfl)) (pss_cons (ps_set (i := 4) sc_law.nd rfl (Or.inl rfl) (pe_call G_shown.ok hr (by rfl) G_shown.gl G_shown.kp G_shown.bd .nil pass0 (pa_cons (pv 3) pa_nil)))
    (pss_cons (ps_if (pw_or (pt_not (pt_val (pe_callB call_isi (by rfl) z_isinstance PyProof.Rows.boot_isinstance (pa_cons (pv 4) (pa_cons (pe_bltn (v := .ty _) (by rfl) z_str PyProof.Rows.boot_str (by rfl)) pa_nil))))) (pw_or1 (pt_cmpR op_ne (pv 4) (pe_call G_law_written.ok hr (by rfl) G_law_written.gl G_law_written.kp G_law_written.bd .nil pass0 (pa_cons (pv 3) pa_nil)) (nomark _)))).pt (pss_one (ps_ret pe_bl)) pss_nil)
    (pss_cons (ps_if (pt_not (pt_val (pe_call G_law_same.ok hr (by rfl) G_law_same.gl G_law_same.kp G_law_same.bd .nil pass0 (pa_cons (pe_call G_read.ok hr (by rfl) G_read.gl G_read.kp G_read.bd .nil pass0 (pa_cons (pv 4) pa_nil)) (pa_cons (pv 3) pa_nil))))) (pss_one (ps_ret pe_bl)) pss_nil)
    (pss_one (ps_expr (pe_bm PySem.F.plainAttrs_list PySem.F.slot_list_append PySem.F.type_list_append mt_append (pv 2) (pa_cons (pv 4) pa_nil)))))))⟩
    (pss_consS (ps_setS (i := 5) sc_law.nd rfl (Or.inl rfl) ⟨pe_call G_law_great.ok hr (by rfl) G_law_great.gl G_law_great.kp G_law_great.bd .nil pass0 (pa_cons (pe_op op_fdiv (pe_call G_law_cell_at.ok hr (by rfl) G_law_cell_at.gl G_law_cell_at.kp G_law_cell_at.bd .nil pass0 (pa_cons (pv 0) (pa_cons pe_int pa_nil))) pe_int) pa_nil)⟩)
    (pss_consS (ps_ifS ⟨(pw_or (pt_not (pt_val (pe_callB call_isi (by rfl) z_isinstance PyProof.Rows.boot_isinstance (pa_cons (pe_call G_shown.ok hr (by rfl) G_shown.gl G_shown.kp G_shown.bd .nil pass0 (pa_cons (pv 5) pa_nil)) (pa_cons (pe_bltn (v := .ty _) (by rfl) z_str PyProof.Rows.boot_str (by rfl)) pa_nil))))) (pw_or1 (pt_cmpR op_ne (pe_call G_shown.ok hr (by rfl) G_shown.gl G_shown.kp G_shown.bd .nil pass0 (pa_cons (pv 5) pa_nil)) (pe_call G_law_written.ok hr (by rfl) G_law_written.gl G_law_written.kp G_law_written.bd .nil pass0 (pa_cons (pv 5) pa_nil)) (nomark _)))).pt⟩ (pss_oneS (ps_retS ⟨pe_bl⟩)) ⟨pss_nil⟩)
    (pss_consS ⟨ps_for PassesOwn.never rfl (pi_zipL (by rfl) z_zip (pa_cons (pv 2) (pa_cons (pv 1) pa_nil))) (pg_tup rfl (pgs_cons (pg_name (i := 4) sc_law.nd rfl (Or.inl rfl)) (pgs_cons (pg_name (i := 3) sc_law.nd rfl (Or.inl rfl)) pgs_nil))) (pss_one (ps_if (pw_or (pt_cmpR op_ne (pe_call G_shown.ok hr (by rfl) G_shown.gl G_shown.kp G_shown.bd .nil pass0 (pa_cons (pv 3) pa_nil)) (pv 4) (nomark _)) (pw_or1 (pt_not (pt_val (pe_call G_law_same.ok hr (by rfl) G_law_same.gl G_law_same.kp G_law_same.bd .nil pass0 (pa_cons (pe_call G_read.ok hr (by rfl) G_read.gl G_read.kp G_read.bd .nil pass0 (pa_cons (pv 4) pa_nil)) (pa_cons (pv 3) pa_nil))))))).pt (pss_one (ps_ret pe_bl)) pss_nil))⟩
    (pss_oneS (ps_retS ⟨pe_bl⟩))))))))))), ?_⟩
  have d0 : 0 ≤ sizeLine := by decide
  have d2 : 2 ≤ sizeLine := by decide
  obtain ⟨m1, em1, lm1⟩ := cut20 (ns := ns) 2
  obtain ⟨m2, em2, lm2⟩ := cut20 (ns := ns) 22
  obtain ⟨m3, em3, lm3⟩ := cut20 (ns := ns) 42
  refine ⟨_, rfl, _, rfl, _, rfl, a, _, rfl, hS, fun p1 hp1 => ?_⟩
  rw [show cutV (ns.map V.int) (some 2) (some 22) = m1.map V.int from em1]
  have g1 := same_upd (o := .lst (m1.map V.int)) hp1
  refine ⟨p1, m1, 12, false, rfl, SqL.of upd_same, by omega, by decide, by decide, by decide, fun t1 v1 H1 k1 r1 gd1 => ?_⟩
  have gA := g1.trans k1
  refine ⟨_, rfl, _, rfl, _, rfl, a, _, rfl, gA.seq hS, fun p2 hp2 => ?_⟩
  rw [show cutV (ns.map V.int) (some 22) (some 42) = m2.map V.int from em2]
  have g2 := same_upd (o := .lst (m2.map V.int)) hp2
  refine ⟨p2, m2, 12, true, rfl, SqL.of upd_same, by omega, by decide, by decide, by decide, fun t2 v2 H2 k2 r2 gd2 => ⟨d2, fun tl htl => ?_⟩⟩
  have gB := g2.trans k2
  have g3 := same_upd (o := .lst [v1, v2]) htl
  have htl0 : H tl = none := (gA.trans gB).free htl
  have gC := gA.trans (gB.trans g3)
  have r1c := r1.mono (gB.trans g3).tk
  have r2c := r2.mono g3.tk
  have etl : (upd H2 tl (.lst [v1, v2])) tl = some (.lst [v1, v2]) := upd_same
  generalize upd H2 tl (.lst [v1, v2]) = H3 at g3 gC r1c r2c etl ⊢
  refine ⟨_, rfl, .inl ⟨rfl, _, SqL.of etl⟩, _, rfl, _, rfl, _, rfl, a, _, rfl, gC.seq hS, fun p3 hp3 => ?_⟩
  rw [show cutV (ns.map V.int) (some 42) (some 62) = m3.map V.int from em3]
  have g4 := same_upd (o := .lst (m3.map V.int)) hp3
  refine ⟨p3, m3, 12, false, rfl, SqL.of upd_same, by omega, by decide, by decide, by decide, fun t3 v3 H4 k4 r3 gd3 => ?_⟩
  have gD := g4.trans k4
  refine ⟨tl, _, _, rfl, rfl, gD _ _ etl, line_lt (show 2 ≤ 1000000 by decide), ?_⟩
  have etl4 := gD _ _ etl
  have kk := Tk.lst (o := .lst ([v1, v2] ++ [v3])) etl4
  have gE : Same H (upd H4 tl (.lst ([v1, v2] ++ [v3]))) := same_set (gC.trans gD) htl0
  have r1e := (r1c.mono gD.tk).mono kk
  have r2e := (r2c.mono gD.tk).mono kk
  have r3e := r3.mono kk
  have etl5 : (upd H4 tl (.lst ([v1, v2] ++ [v3]))) tl = some (.lst ([v1, v2] ++ [v3])) := upd_same
  generalize upd H4 tl (.lst ([v1, v2] ++ [v3])) = H5 at kk gE r1e r2e r3e etl5 ⊢
  refine ⟨_, rfl, .inl ⟨rfl, _, SqL.of etl5⟩, _, rfl, a, ns, 0, rfl, gE.seq hS, by decide, fun c0 => ⟨_, rfl, a, ns, 1, rfl, gE.seq hS, by decide, fun c1 => ⟨c0, c1, rfl, fun t4 v4 H6 k6 r4 ok4 len4 op4 dp4 => ?_⟩⟩⟩
  have etl6 := k6 _ _ etl5
  refine ⟨tl, _, _, rfl, rfl, etl6, line_lt (show 3 ≤ 1000000 by decide), ?_⟩
  have kk7 := Tk.lst (o := .lst ([v1, v2] ++ [v3] ++ [v4])) etl6
  have gF : Same H (upd H6 tl (.lst ([v1, v2] ++ [v3] ++ [v4]))) := same_set (gE.trans k6) htl0
  have pr7 : Paired (Rep (upd H6 tl (.lst ([v1, v2] ++ [v3] ++ [v4])))) [t1, t2, t3, t4] [v1, v2, v3, v4] := .cons ((r1e.mono k6.tk).mono kk7) (.cons ((r2e.mono k6.tk).mono kk7) (.cons ((r3e.mono k6.tk).mono kk7) (.cons (r4.mono kk7) .nil)))
  have etl7 : (upd H6 tl (.lst ([v1, v2] ++ [v3] ++ [v4]))) tl = some (.lst [v1, v2, v3, v4]) := upd_same
  generalize upd H6 tl (.lst ([v1, v2] ++ [v3] ++ [v4])) = H7 at gF pr7 etl7 ⊢
  have hall : ∀ t ∈ [t1, t2, t3, t4], AllOk t := by
    intro t ht
    simp only [List.mem_cons, List.not_mem_nil, or_false] at ht
    rcases ht with rfl | rfl | rfl | rfl
    · exact gd1.all lm1
    · exact gd2.all lm2
    · exact gd3.all lm3
    · exact ⟨ok4, by omega, op4, dp4⟩
  have lts : [t1, t2, t3, t4].length = 4 := rfl
  generalize [t1, t2, t3, t4] = ts at pr7 hall lts
  have lvs : [v1, v2, v3, v4].length = 4 := rfl
  generalize [v1, v2, v3, v4] = vs at pr7 etl7 lvs
  refine ⟨d0, fun dl hdl => ?_⟩
  have ndt : dl ≠ tl := fun z => by rw [z, etl7] at hdl; cases hdl
  have hdl0 : H dl = none := gF.free hdl
  have gG := same_upd (o := .lst []) hdl
  refine ⟨_, rfl, tl, rfl, ⟨_, SqL.of (gG _ _ etl7)⟩, ?_⟩
  refine for_list (xs := vs) (fun j σ' H' => ∃ s3 s4 : Option V, σ' = [some (.ref a), some (.ref tl), some (.ref dl), s3, s4, none] ∧ Same H7 H' ∧ H' dl = some (.lst (((ts.take j).map fun t => sOf (txT t)).map V.str))) ⟨none, none, rfl, gG, upd_same⟩ ?_ ?_ ?_
  · rintro j σ' H' _ ⟨s3, s4, rfl, g8, _⟩
    exact SqL.of (g8 _ _ etl7)
  · rintro j v σ' H' hv ⟨s3, s4, rfl, g8, e8⟩
    obtain ⟨t, et, rt⟩ := paired_get pr7 hv
    have al := hall t (List.mem_of_getElem? et)
    have l2 := al.len
    have rt8 := rt.mono g8.tk
    refine ⟨_, rfl, t, v, rfl, rt8, al.ok, by omega, fun H9 g9 => ?_⟩
    have rt9 := rt8.mono g9.tk
    refine ⟨_, rfl, .str _, "str", _, true, rfl, .str _, rfl, _, rfl, iteF ?_⟩
    refine ⟨_, rfl, _, rfl, t, v, rfl, rt9, al.ok, by have := al.dp; omega, by omega, fun HA gA => ⟨rfl, _, rfl, ite2 (fun c => ?_) (fun _ => ?_)⟩⟩
    · rw [decide_eq_true rfl] at c
      cases c
    have rtA := rt9.mono gA.tk
    refine ⟨_, rfl, sOf (txT t), t, rfl, sOf_list _, al.ok, by rw [sOf_len]; exact l2, al.op, by have := al.dp; omega, fun v' HB gB r' => ?_⟩
    refine ⟨_, rfl, dtT t, v', v, rfl, r'.dr, (rtA.mono gB.tk).dr, by have := dtT_deep t; have := al.dp; omega, fun HC gC => ⟨_, rfl, iteF ?_⟩⟩
    have gX := g9.trans (gA.trans (gB.trans gC))
    have eX := gX _ _ e8
    refine ⟨_, rfl, .inl ⟨rfl, _, SqL.of eX⟩, _, rfl, dl, _, _, rfl, rfl, eX, line_lt (by rw [List.length_map, List.length_map, List.length_take]; omega), ?_⟩
    refine ⟨_, _, rfl, same_set (g8.trans gX) hdl, ?_⟩
    rw [upd_same, take_next et, List.map_append, List.map_append]
    rfl
  · rintro σ' H8 ⟨s3, s4, rfl, g8, e8⟩
    rw [lvs, ← lts, List.take_length] at e8
    have pr8 := Paired.mapP pr7 fun _ _ z => Rep.mono g8.tk z
    have etl8 := g8 _ _ etl7
    refine ⟨_, rfl, a, ns, 1, rfl, (gF.trans g8).seq hS, by decide, fun c2 => ⟨_, _, rfl, rfl, ⟨(show (0 : Int) < 7 by decide), (show (7 : Int) < 1073741824 by decide)⟩, _, rfl, fun tg vg H9 g9 rg okg leng dpg => ?_⟩⟩
    refine ⟨_, rfl, tg, vg, rfl, rg, okg, leng, fun HA gA => ?_⟩
    refine ⟨.str _, "str", _, true, rfl, .str _, rfl, _, rfl, iteF ?_⟩
    have rgA := rg.mono gA.tk
    refine ⟨_, rfl, tg, vg, rfl, rgA, okg, leng, fun HB gB => ⟨_, rfl, tg, vg, rfl, rgA.mono gB.tk, okg, by omega, leng, fun HC gC => ⟨rfl, _, rfl, ite2 (fun c => ?_) (fun _ => ?_)⟩⟩⟩
    · rw [decide_eq_true rfl] at c
      cases c
    have gX := g9.trans (gA.trans (gB.trans gC))
    have eX := gX _ _ e8
    have etlX := gX _ _ etl8
    have prX := Paired.mapP pr8 fun _ _ z => Rep.mono gX.tk z
    refine ⟨_, rfl, _, rfl, dl, tl, _, _, rfl, eX, etlX, ?_⟩
    have lxs : ((ts.map fun t => sOf (txT t)).map V.str).length = 4 := by rw [List.length_map, List.length_map, lts]
    refine for_zipL (xs := (ts.map fun t => sOf (txT t)).map V.str) (ys := vs) (fun i σ' H' => ∃ s3 s4 : Option V, σ' = [some (.ref a), some (.ref tl), some (.ref dl), s3, s4, some vg] ∧ Same HC H') ⟨_, _, rfl, .refl _⟩ ?_ ?_ ?_
    · rintro i σ1 H' _ ⟨s3, s4, rfl, g⟩
      exact ⟨g _ _ eX, g _ _ etlX⟩
    · rintro i x y T σ1 H' hx hy ⟨s3, s4, rfl, g⟩ hT
      obtain ⟨t, et, rt⟩ := paired_get prX hy
      have al := hall t (List.mem_of_getElem? et)
      have l2 := al.len
      have ex : x = V.str (sOf (txT t)) := by
        rw [List.getElem?_map, List.getElem?_map, et] at hx
        cases hx
        rfl
      subst ex
      have g1 := g.trans (same_upd (o := .tup [V.str (sOf (txT t)), y]) hT)
      have rt1 := rt.mono g1.tk
      refine ⟨T, _, rfl, SqT.of upd_same, rfl, _, _, rfl, _, _, rfl, rfl, ?_⟩
      refine ⟨_, rfl, t, y, rfl, rt1, al.ok, by omega, fun HD gD => ⟨_, rfl, rfl, _, rfl, ite2 (fun c => ?_) (fun _ => ?_)⟩⟩
      · rw [decide_eq_true rfl] at c
        cases c
      have rt2 := rt1.mono gD.tk
      refine ⟨_, rfl, sOf (txT t), t, rfl, sOf_list _, al.ok, by rw [sOf_len]; exact l2, al.op, by have := al.dp; omega, fun v' HE gE r' => ?_⟩
      refine ⟨_, rfl, dtT t, v', y, rfl, r'.dr, (rt2.mono gE.tk).dr, by have := dtT_deep t; have := al.dp; omega, fun HF gF => ⟨_, rfl, iteF ?_⟩⟩
      exact ⟨_, _, rfl, g1.trans (gD.trans (gE.trans gF))⟩
    · rintro σ1 H' ⟨s3, s4, rfl, g⟩
      exact q H'
end
end K06
set_option Elab.async false
set_option linter.all false
set_option maxRecDepth 100000
set_option maxHeartbeats 4000000
namespace K06
open PySem PySem.Spec L2 PyProof.Rows
theorem keep_of {K : PySem.W.Frag} {f : Addr} {oc : Value} {od : Option Addr} {fd : FuncData} {sl : Array (Option Value)} (l : K.lookup f = some ⟨oc, od, .func fd, sl⟩) : PySem.W.keepIn K (.ref f) = true := by unfold PySem.W.keepIn; dsimp only; rw [l]
theorem all_mk {l : PySem.W.OpenLaw} {w : World} {K : PySem.W.Frag} {h : Heap} {mg : Str → Option Value} {fa f0 f1 f2 f3 f4 f5 f6 f7 f8 f9 f10 f11 f12 f13 f14 f15 f16 f17 f18 f19 f20 f21 f22 f23 f24 f25 f26 f27 f28 f29 f30 f31 f32 f33 lv_LEAF_SIGNS lv_KEPT_WORDS c_Reader : Addr} (X : K.In h) (G : h.Ns mainGlobals mg) (hfa : mg "law" = some (.ref fa))
    {od0 an0 : Option Addr} {sl0 : Array (Option Value)} {oc0 kV0 dc0 pm0 cd0 ct0 : Value}
    {od1 an1 : Option Addr} {sl1 : Array (Option Value)} {oc1 kV1 dc1 pm1 cd1 ct1 : Value}
    {od2 an2 : Option Addr} {sl2 : Array (Option Value)} {oc2 kV2 dc2 pm2 cd2 ct2 : Value}
    {od3 an3 : Option Addr} {sl3 : Array (Option Value)} {oc3 kV3 dc3 pm3 cd3 ct3 : Value}
    {od4 an4 : Option Addr} {sl4 : Array (Option Value)} {oc4 kV4 dc4 pm4 cd4 ct4 : Value}
    {od5 an5 : Option Addr} {sl5 : Array (Option Value)} {oc5 kV5 dc5 pm5 cd5 ct5 : Value}
    {od6 an6 : Option Addr} {sl6 : Array (Option Value)} {oc6 kV6 dc6 pm6 cd6 ct6 : Value}
    {od7 an7 : Option Addr} {sl7 : Array (Option Value)} {oc7 kV7 dc7 pm7 cd7 ct7 : Value}
    {od8 an8 : Option Addr} {sl8 : Array (Option Value)} {oc8 kV8 dc8 pm8 cd8 ct8 : Value}
    {od9 an9 : Option Addr} {sl9 : Array (Option Value)} {oc9 kV9 dc9 pm9 cd9 ct9 : Value}
    {od10 an10 : Option Addr} {sl10 : Array (Option Value)} {oc10 kV10 dc10 pm10 cd10 ct10 : Value}
    {od11 an11 : Option Addr} {sl11 : Array (Option Value)} {oc11 kV11 dc11 pm11 cd11 ct11 : Value}
    {od12 an12 : Option Addr} {sl12 : Array (Option Value)} {oc12 kV12 dc12 pm12 cd12 ct12 : Value}
    {od13 an13 : Option Addr} {sl13 : Array (Option Value)} {oc13 kV13 dc13 pm13 cd13 ct13 : Value}
    {od14 an14 : Option Addr} {sl14 : Array (Option Value)} {oc14 kV14 dc14 pm14 cd14 ct14 : Value}
    {od15 an15 : Option Addr} {sl15 : Array (Option Value)} {oc15 kV15 dc15 pm15 cd15 ct15 : Value}
    {od16 an16 : Option Addr} {sl16 : Array (Option Value)} {oc16 kV16 dc16 pm16 cd16 ct16 : Value}
    {od17 an17 : Option Addr} {sl17 : Array (Option Value)} {oc17 kV17 dc17 pm17 cd17 ct17 : Value}
    {od18 an18 : Option Addr} {sl18 : Array (Option Value)} {oc18 kV18 dc18 pm18 cd18 ct18 : Value}
    {od19 an19 : Option Addr} {sl19 : Array (Option Value)} {oc19 kV19 dc19 pm19 cd19 ct19 : Value}
    {od20 an20 : Option Addr} {sl20 : Array (Option Value)} {oc20 kV20 dc20 pm20 cd20 ct20 : Value}
    {od21 an21 : Option Addr} {sl21 : Array (Option Value)} {oc21 kV21 dc21 pm21 cd21 ct21 : Value}
    {od22 an22 : Option Addr} {sl22 : Array (Option Value)} {oc22 kV22 dc22 pm22 cd22 ct22 : Value}
    {od23 an23 : Option Addr} {sl23 : Array (Option Value)} {oc23 kV23 dc23 pm23 cd23 ct23 : Value}
    {od24 an24 : Option Addr} {sl24 : Array (Option Value)} {oc24 kV24 dc24 pm24 cd24 ct24 : Value}
    {od25 an25 : Option Addr} {sl25 : Array (Option Value)} {oc25 kV25 dc25 pm25 cd25 ct25 : Value}
    {od26 an26 : Option Addr} {sl26 : Array (Option Value)} {oc26 kV26 dc26 pm26 cd26 ct26 : Value}
    {od27 an27 : Option Addr} {sl27 : Array (Option Value)} {oc27 kV27 dc27 pm27 cd27 ct27 : Value}
    {od28 an28 : Option Addr} {sl28 : Array (Option Value)} {oc28 kV28 dc28 pm28 cd28 ct28 : Value}
    {od29 an29 : Option Addr} {sl29 : Array (Option Value)} {oc29 kV29 dc29 pm29 cd29 ct29 : Value}
    {od30 an30 : Option Addr} {sl30 : Array (Option Value)} {oc30 kV30 dc30 pm30 cd30 ct30 : Value}
    {od31 an31 : Option Addr} {sl31 : Array (Option Value)} {oc31 kV31 dc31 pm31 cd31 ct31 : Value}
    {od32 an32 : Option Addr} {sl32 : Array (Option Value)} {oc32 kV32 dc32 pm32 cd32 ct32 : Value}
    {od33 an33 : Option Addr} {sl33 : Array (Option Value)} {oc33 kV33 dc33 pm33 cd33 ct33 : Value}
    {odC0 : Option Addr} {slC0 : Array (Option Value)} {nC0 : Nat} {tC0_0 tC0_1 tC0_2 tC0_3 tC0_4 : Tok}
    {odC1 : Option Addr} {slC1 : Array (Option Value)} {nC1 : Nat} {tC1_0 tC1_1 tC1_2 tC1_3 tC1_4 tC1_5 tC1_6 tC1_7 tC1_8 tC1_9 tC1_10 : Tok}
    {tk1 tk2 tk3 tk4 tk5 tk6 x0 x1 x2 x3 : Tok} {bd : Addr} {esB : Array DictEntry} {nB : Nat}
    (aK_Reader : PySem.W.nsIn K mainGlobals "Reader" = some (some (.ref c_Reader))) (pg_Reader : PySem.W.plainGet K c_Reader Str.empty = true) (hd_Reader : PySem.W.hasDictIn K c_Reader = true) (po_Reader : PySem.W.plainOver K c_Reader = true) (sa_Reader : PySem.W.findIn K (.ref c_Reader) "__setattr__" = some (some (.builtin "object.__setattr__"))) (mk_Reader : PySem.W.makesIn K c_Reader = true) (kc_Reader : PySem.W.keepIn K (.ref c_Reader) = true)
    (n_Reader_text : PySem.W.findIn K (.ref c_Reader) "text" = some none)
    (n_Reader_at : PySem.W.findIn K (.ref c_Reader) "at" = some none)
    (a0 : PySem.W.findIn K (.ref c_Reader) "__init__" = some (some (.ref f0))) (i0 : PySem.W.isFn K (.ref f0) = true)
    (l0 : K.lookup f0 = some ⟨oc0, od0, .func (PySem.W.fnOf "__init__" "Reader.__init__" (defArgs s_Reader___init__) (defBody s_Reader___init__) (defScope s_Reader___init__) .none kV0 dc0 pm0 an0 cd0 ct0), sl0⟩) (c0 : PySem.W.codeIn K cd0 "Reader.__init__" = true)
    (a1 : PySem.W.findIn K (.ref c_Reader) "stands" = some (some (.ref f1))) (i1 : PySem.W.isFn K (.ref f1) = true)
    (l1 : K.lookup f1 = some ⟨oc1, od1, .func (PySem.W.fnOf "stands" "Reader.stands" (defArgs s_Reader_stands) (defBody s_Reader_stands) (defScope s_Reader_stands) .none kV1 dc1 pm1 an1 cd1 ct1), sl1⟩) (c1 : PySem.W.codeIn K cd1 "Reader.stands" = true)
    (a2 : PySem.W.findIn K (.ref c_Reader) "skipped" = some (some (.ref f2))) (i2 : PySem.W.isFn K (.ref f2) = true)
    (l2 : K.lookup f2 = some ⟨oc2, od2, .func (PySem.W.fnOf "skipped" "Reader.skipped" (defArgs s_Reader_skipped) (defBody s_Reader_skipped) (defScope s_Reader_skipped) .none kV2 dc2 pm2 an2 cd2 ct2), sl2⟩) (c2 : PySem.W.codeIn K cd2 "Reader.skipped" = true)
    (a3 : PySem.W.findIn K (.ref c_Reader) "skip" = some (some (.ref f3))) (i3 : PySem.W.isFn K (.ref f3) = true)
    (l3 : K.lookup f3 = some ⟨oc3, od3, .func (PySem.W.fnOf "skip" "Reader.skip" (defArgs s_Reader_skip) (defBody s_Reader_skip) (defScope s_Reader_skip) .none kV3 dc3 pm3 an3 cd3 ct3), sl3⟩) (c3 : PySem.W.codeIn K cd3 "Reader.skip" = true)
    (a4 : PySem.W.findIn K (.ref c_Reader) "run_of" = some (some (.ref f4))) (i4 : PySem.W.isFn K (.ref f4) = true)
    (l4 : K.lookup f4 = some ⟨oc4, od4, .func (PySem.W.fnOf "run_of" "Reader.run_of" (defArgs s_Reader_run_of) (defBody s_Reader_run_of) (defScope s_Reader_run_of) .none kV4 dc4 pm4 an4 cd4 ct4), sl4⟩) (c4 : PySem.W.codeIn K cd4 "Reader.run_of" = true)
    (a5 : PySem.W.findIn K (.ref c_Reader) "skip_end" = some (some (.ref f5))) (i5 : PySem.W.isFn K (.ref f5) = true)
    (l5 : K.lookup f5 = some ⟨oc5, od5, .func (PySem.W.fnOf "skip_end" "Reader.skip_end" (defArgs s_Reader_skip_end) (defBody s_Reader_skip_end) (defScope s_Reader_skip_end) .none kV5 dc5 pm5 an5 cd5 ct5), sl5⟩) (c5 : PySem.W.codeIn K cd5 "Reader.skip_end" = true)
    (a6 : PySem.W.nsIn K mainGlobals "atom_text" = some (some (.ref f6)))
    (l6 : K.lookup f6 = some ⟨oc6, od6, .func (PySem.W.fnOf "atom_text" "atom_text" (defArgs s_atom_text) (defBody s_atom_text) (defScope s_atom_text) .none kV6 dc6 pm6 an6 cd6 ct6), sl6⟩) (c6 : PySem.W.codeIn K cd6 "atom_text" = true)
    (a7 : PySem.W.nsIn K mainGlobals "gap_text" = some (some (.ref f7)))
    (l7 : K.lookup f7 = some ⟨oc7, od7, .func (PySem.W.fnOf "gap_text" "gap_text" (defArgs s_gap_text) (defBody s_gap_text) (defScope s_gap_text) .none kV7 dc7 pm7 an7 cd7 ct7), sl7⟩) (c7 : PySem.W.codeIn K cd7 "gap_text" = true)
    (a8 : PySem.W.nsIn K mainGlobals "leaf_text" = some (some (.ref f8)))
    (l8 : K.lookup f8 = some ⟨oc8, od8, .func (PySem.W.fnOf "leaf_text" "leaf_text" (defArgs s_leaf_text) (defBody s_leaf_text) (defScope s_leaf_text) .none kV8 dc8 pm8 an8 cd8 ct8), sl8⟩) (c8 : PySem.W.codeIn K cd8 "leaf_text" = true)
    (a9 : PySem.W.nsIn K mainGlobals "written_row" = some (some (.ref f9)))
    (l9 : K.lookup f9 = some ⟨oc9, od9, .func (PySem.W.fnOf "written_row" "written_row" (defArgs s_written_row) (defBody s_written_row) (defScope s_written_row) .none kV9 dc9 pm9 an9 cd9 ct9), sl9⟩) (c9 : PySem.W.codeIn K cd9 "written_row" = true)
    (a10 : PySem.W.nsIn K mainGlobals "shown" = some (some (.ref f10)))
    (l10 : K.lookup f10 = some ⟨oc10, od10, .func (PySem.W.fnOf "shown" "shown" (defArgs s_shown) (defBody s_shown) (defScope s_shown) .none kV10 dc10 pm10 an10 cd10 ct10), sl10⟩) (c10 : PySem.W.codeIn K cd10 "shown" = true)
    (a11 : PySem.W.nsIn K mainGlobals "most_open" = some (some (.ref f11)))
    (l11 : K.lookup f11 = some ⟨oc11, od11, .func (PySem.W.fnOf "most_open" "most_open" (defArgs s_most_open) (defBody s_most_open) (defScope s_most_open) .none kV11 dc11 pm11 an11 cd11 ct11), sl11⟩) (c11 : PySem.W.codeIn K cd11 "most_open" = true)
    (a12 : PySem.W.nsIn K mainGlobals "begun" = some (some (.ref f12)))
    (l12 : K.lookup f12 = some ⟨oc12, od12, .func (PySem.W.fnOf "begun" "begun" (defArgs s_begun) (defBody s_begun) (defScope s_begun) .none kV12 dc12 pm12 an12 cd12 ct12), sl12⟩) (c12 : PySem.W.codeIn K cd12 "begun" = true)
    (a13 : PySem.W.nsIn K mainGlobals "word_from" = some (some (.ref f13)))
    (l13 : K.lookup f13 = some ⟨oc13, od13, .func (PySem.W.fnOf "word_from" "word_from" (defArgs s_word_from) (defBody s_word_from) (defScope s_word_from) .none kV13 dc13 pm13 an13 cd13 ct13), sl13⟩) (c13 : PySem.W.codeIn K cd13 "word_from" = true)
    (a14 : PySem.W.nsIn K mainGlobals "number_from" = some (some (.ref f14)))
    (l14 : K.lookup f14 = some ⟨oc14, od14, .func (PySem.W.fnOf "number_from" "number_from" (defArgs s_number_from) (defBody s_number_from) (defScope s_number_from) .none kV14 dc14 pm14 an14 cd14 ct14), sl14⟩) (c14 : PySem.W.codeIn K cd14 "number_from" = true)
    (a15 : PySem.W.nsIn K mainGlobals "plain_leaf_from" = some (some (.ref f15)))
    (l15 : K.lookup f15 = some ⟨oc15, od15, .func (PySem.W.fnOf "plain_leaf_from" "plain_leaf_from" (defArgs s_plain_leaf_from) (defBody s_plain_leaf_from) (defScope s_plain_leaf_from) .none kV15 dc15 pm15 an15 cd15 ct15), sl15⟩) (c15 : PySem.W.codeIn K cd15 "plain_leaf_from" = true)
    (a16 : PySem.W.nsIn K mainGlobals "atom_from" = some (some (.ref f16)))
    (l16 : K.lookup f16 = some ⟨oc16, od16, .func (PySem.W.fnOf "atom_from" "atom_from" (defArgs s_atom_from) (defBody s_atom_from) (defScope s_atom_from) .none kV16 dc16 pm16 an16 cd16 ct16), sl16⟩) (c16 : PySem.W.codeIn K cd16 "atom_from" = true)
    (a17 : PySem.W.nsIn K mainGlobals "atoms_from" = some (some (.ref f17)))
    (l17 : K.lookup f17 = some ⟨oc17, od17, .func (PySem.W.fnOf "atoms_from" "atoms_from" (defArgs s_atoms_from) (defBody s_atoms_from) (defScope s_atoms_from) .none kV17 dc17 pm17 an17 cd17 ct17), sl17⟩) (c17 : PySem.W.codeIn K cd17 "atoms_from" = true)
    (a18 : PySem.W.nsIn K mainGlobals "shape_from" = some (some (.ref f18)))
    (l18 : K.lookup f18 = some ⟨oc18, od18, .func (PySem.W.fnOf "shape_from" "shape_from" (defArgs s_shape_from) (defBody s_shape_from) (defScope s_shape_from) .none kV18 dc18 pm18 an18 cd18 ct18), sl18⟩) (c18 : PySem.W.codeIn K cd18 "shape_from" = true)
    (a19 : PySem.W.nsIn K mainGlobals "bracket_from" = some (some (.ref f19)))
    (l19 : K.lookup f19 = some ⟨oc19, od19, .func (PySem.W.fnOf "bracket_from" "bracket_from" (defArgs s_bracket_from) (defBody s_bracket_from) (defScope s_bracket_from) .none kV19 dc19 pm19 an19 cd19 ct19), sl19⟩) (c19 : PySem.W.codeIn K cd19 "bracket_from" = true)
    (a20 : PySem.W.nsIn K mainGlobals "if_from" = some (some (.ref f20)))
    (l20 : K.lookup f20 = some ⟨oc20, od20, .func (PySem.W.fnOf "if_from" "if_from" (defArgs s_if_from) (defBody s_if_from) (defScope s_if_from) .none kV20 dc20 pm20 an20 cd20 ct20), sl20⟩) (c20 : PySem.W.codeIn K cd20 "if_from" = true)
    (a21 : PySem.W.nsIn K mainGlobals "let_from" = some (some (.ref f21)))
    (l21 : K.lookup f21 = some ⟨oc21, od21, .func (PySem.W.fnOf "let_from" "let_from" (defArgs s_let_from) (defBody s_let_from) (defScope s_let_from) .none kV21 dc21 pm21 an21 cd21 ct21), sl21⟩) (c21 : PySem.W.codeIn K cd21 "let_from" = true)
    (a22 : PySem.W.nsIn K mainGlobals "two_from" = some (some (.ref f22)))
    (l22 : K.lookup f22 = some ⟨oc22, od22, .func (PySem.W.fnOf "two_from" "two_from" (defArgs s_two_from) (defBody s_two_from) (defScope s_two_from) .none kV22 dc22 pm22 an22 cd22 ct22), sl22⟩) (c22 : PySem.W.codeIn K cd22 "two_from" = true)
    (a23 : PySem.W.nsIn K mainGlobals "read" = some (some (.ref f23)))
    (l23 : K.lookup f23 = some ⟨oc23, od23, .func (PySem.W.fnOf "read" "read" (defArgs s_read) (defBody s_read) (defScope s_read) .none kV23 dc23 pm23 an23 cd23 ct23), sl23⟩) (c23 : PySem.W.codeIn K cd23 "read" = true)
    (a24 : PySem.W.nsIn K mainGlobals "_law_cell_at" = some (some (.ref f24)))
    (l24 : K.lookup f24 = some ⟨oc24, od24, .func (PySem.W.fnOf "_law_cell_at" "_law_cell_at" (defArgs s_law_cell_at) (defBody s_law_cell_at) (defScope s_law_cell_at) .none kV24 dc24 pm24 an24 cd24 ct24), sl24⟩) (c24 : PySem.W.codeIn K cd24 "_law_cell_at" = true)
    (a25 : PySem.W.nsIn K mainGlobals "_law_word" = some (some (.ref f25)))
    (l25 : K.lookup f25 = some ⟨oc25, od25, .func (PySem.W.fnOf "_law_word" "_law_word" (defArgs s_law_word) (defBody s_law_word) (defScope s_law_word) .none kV25 dc25 pm25 an25 cd25 ct25), sl25⟩) (c25 : PySem.W.codeIn K cd25 "_law_word" = true)
    (a26 : PySem.W.nsIn K mainGlobals "_law_leaf" = some (some (.ref f26)))
    (l26 : K.lookup f26 = some ⟨oc26, od26, .func (PySem.W.fnOf "_law_leaf" "_law_leaf" (defArgs s_law_leaf) (defBody s_law_leaf) (defScope s_law_leaf) .none kV26 dc26 pm26 an26 cd26 ct26), sl26⟩) (c26 : PySem.W.codeIn K cd26 "_law_leaf" = true)
    (a27 : PySem.W.nsIn K mainGlobals "_law_tree" = some (some (.ref f27)))
    (l27 : K.lookup f27 = some ⟨oc27, od27, .func (PySem.W.fnOf "_law_tree" "_law_tree" (defArgs s_law_tree) (defBody s_law_tree) (defScope s_law_tree) .none kV27 dc27 pm27 an27 cd27 ct27), sl27⟩) (c27 : PySem.W.codeIn K cd27 "_law_tree" = true)
    (a28 : PySem.W.nsIn K mainGlobals "_law_great" = some (some (.ref f28)))
    (l28 : K.lookup f28 = some ⟨oc28, od28, .func (PySem.W.fnOf "_law_great" "_law_great" (defArgs s_law_great) (defBody s_law_great) (defScope s_law_great) .none kV28 dc28 pm28 an28 cd28 ct28), sl28⟩) (c28 : PySem.W.codeIn K cd28 "_law_great" = true)
    (a29 : PySem.W.nsIn K mainGlobals "_law_nested" = some (some (.ref f29)))
    (l29 : K.lookup f29 = some ⟨oc29, od29, .func (PySem.W.fnOf "_law_nested" "_law_nested" (defArgs s_law_nested) (defBody s_law_nested) (defScope s_law_nested) .none kV29 dc29 pm29 an29 cd29 ct29), sl29⟩) (c29 : PySem.W.codeIn K cd29 "_law_nested" = true)
    (a30 : PySem.W.nsIn K mainGlobals "_law_leaf_written" = some (some (.ref f30)))
    (l30 : K.lookup f30 = some ⟨oc30, od30, .func (PySem.W.fnOf "_law_leaf_written" "_law_leaf_written" (defArgs s_law_leaf_written) (defBody s_law_leaf_written) (defScope s_law_leaf_written) .none kV30 dc30 pm30 an30 cd30 ct30), sl30⟩) (c30 : PySem.W.codeIn K cd30 "_law_leaf_written" = true)
    (a31 : PySem.W.nsIn K mainGlobals "_law_written" = some (some (.ref f31)))
    (l31 : K.lookup f31 = some ⟨oc31, od31, .func (PySem.W.fnOf "_law_written" "_law_written" (defArgs s_law_written) (defBody s_law_written) (defScope s_law_written) .none kV31 dc31 pm31 an31 cd31 ct31), sl31⟩) (c31 : PySem.W.codeIn K cd31 "_law_written" = true)
    (a32 : PySem.W.nsIn K mainGlobals "_law_same" = some (some (.ref f32)))
    (l32 : K.lookup f32 = some ⟨oc32, od32, .func (PySem.W.fnOf "_law_same" "_law_same" (defArgs s_law_same) (defBody s_law_same) (defScope s_law_same) .none kV32 dc32 pm32 an32 cd32 ct32), sl32⟩) (c32 : PySem.W.codeIn K cd32 "_law_same" = true)
    (a33 : PySem.W.nsIn K mainGlobals "law" = some (some (.ref f33)))
    (l33 : K.lookup f33 = some ⟨oc33, od33, .func (PySem.W.fnOf "law" "law" (defArgs s_law) (defBody s_law) (defScope s_law) .none kV33 dc33 pm33 an33 cd33 ct33), sl33⟩) (c33 : PySem.W.codeIn K cd33 "law" = true)
    (aC0 : PySem.W.nsIn K mainGlobals "LEAF_SIGNS" = some (some (.ref lv_LEAF_SIGNS))) (lC0 : K.lookup lv_LEAF_SIGNS = some ⟨.type "tuple", odC0, .seq #[.str "num" tC0_0, .str "name" tC0_1, .str "ask" tC0_2, .str "stop" tC0_3, .str "gap" tC0_4] nC0, slC0⟩)
    (aC1 : PySem.W.nsIn K mainGlobals "KEPT_WORDS" = some (some (.ref lv_KEPT_WORDS))) (lC1 : K.lookup lv_KEPT_WORDS = some ⟨.type "tuple", odC1, .seq #[.str "let" tC1_0, .str "in" tC1_1, .str "if" tC1_2, .str "then" tC1_3, .str "else" tC1_4, .str "say" tC1_5, .str "ask" tC1_6, .str "stop" tC1_7, .str "where" tC1_8, .str "quiet" tC1_9, .str "number" tC1_10] nC1, slC1⟩)
    (aLt : PySem.W.nsIn K mainGlobals "LETTERS" = some (some (.str "abcdefghijklmnopqrstuvwxyz" tk1)))
    (aFg : PySem.W.nsIn K mainGlobals "FIGURES" = some (some (.str "0123456789" tk2)))
    (aM1 : PySem.W.nsIn K mainGlobals "MOST_SIGNS" = some (some (.int 2000 tk3)))
    (aM2 : PySem.W.nsIn K mainGlobals "MOST_OPEN" = some (some (.int 16 tk4)))
    (aM3 : PySem.W.nsIn K mainGlobals "MOST_LETTERS" = some (some (.int 8 tk5)))
    (aM4 : PySem.W.nsIn K mainGlobals "MOST_FIGURES" = some (some (.int 30 tk6)))
    (aB : PySem.W.nsIn K mainGlobals "BETWEEN" = some (some (.ref bd)))
    (lB : K.lookup bd = some ⟨.type "dict", none, .dict esB nB, #[]⟩)
    (kB : PySem.W.KeysLit w.params esB.toList)
    (sB : (bd == sysModules) = false)
    (pB : Paired (fun (x : Str) (e : DictEntry) => ∃ t, e.key = .str x t) betw esB.toList)
    (nB0 : PySem.W.nsIn K bd "add" = some (some (.str " + " x0)))
    (nB1 : PySem.W.nsIn K bd "sub" = some (some (.str " - " x1)))
    (nB2 : PySem.W.nsIn K bd "mul" = some (some (.str " * " x2)))
    (nB3 : PySem.W.nsIn K bd "then" = some (some (.str " ; " x3)))
    (z_len : PySem.W.nsIn K mainGlobals "len" = some none)
    (z_range : PySem.W.nsIn K mainGlobals "range" = some none)
    (z_isinstance : PySem.W.nsIn K mainGlobals "isinstance" = some none)
    (z_int : PySem.W.nsIn K mainGlobals "int" = some none)
    (z_bool : PySem.W.nsIn K mainGlobals "bool" = some none)
    (z_str : PySem.W.nsIn K mainGlobals "str" = some none)
    (z_tuple : PySem.W.nsIn K mainGlobals "tuple" = some none)
    (z_zip : PySem.W.nsIn K mainGlobals "zip" = some none)
    (z_any : PySem.W.nsIn K mainGlobals "any" = some none)
    (z_max : PySem.W.nsIn K mainGlobals "max" = some none)
    (z_min : PySem.W.nsIn K mainGlobals "min" = some none)
    : ∃ fd : FuncData, (∀ (s : Shared) (v : Value), BindsTo s fd ⟨[v], []⟩ [("_law_script", v)]) ∧ ∀ base : Heap, K.In base → base.Ns mainGlobals mg → FnOk l.prog w K mg base CX0 100 fa fd ["_law_script"] (sp_law K) := by
  have e := hfa.symm.trans (PySem.W.mg_of X G a33)
  cases e
  have z_len := PySem.W.mg_none_of X G z_len
  have z_range := PySem.W.mg_none_of X G z_range
  have z_isinstance := PySem.W.mg_none_of X G z_isinstance
  have z_int := PySem.W.mg_none_of X G z_int
  have z_bool := PySem.W.mg_none_of X G z_bool
  have z_str := PySem.W.mg_none_of X G z_str
  have z_tuple := PySem.W.mg_none_of X G z_tuple
  have z_zip := PySem.W.mg_none_of X G z_zip
  have z_any := PySem.W.mg_none_of X G z_any
  have z_max := PySem.W.mg_none_of X G z_max
  have z_min := PySem.W.mg_none_of X G z_min
  have m_LEAF_SIGNS := PySem.W.mg_of X G aC0
  have h_LEAF_SIGNS : LeafK K lv_LEAF_SIGNS := ⟨_, _, _, lC0, rfl, rfl, (by show 5 ≤ sizeLine; decide), (.cons ⟨_, rfl⟩ (.cons ⟨_, rfl⟩ (.cons ⟨_, rfl⟩ (.cons ⟨_, rfl⟩ (.cons ⟨_, rfl⟩ .nil)))))⟩
  have m_KEPT_WORDS := PySem.W.mg_of X G aC1
  have h_KEPT_WORDS : KeptT K lv_KEPT_WORDS := ⟨_, _, _, lC1, rfl, rfl, (by show 11 ≤ sizeLine; decide), (.cons ⟨_, rfl⟩ (.cons ⟨_, rfl⟩ (.cons ⟨_, rfl⟩ (.cons ⟨_, rfl⟩ (.cons ⟨_, rfl⟩ (.cons ⟨_, rfl⟩ (.cons ⟨_, rfl⟩ (.cons ⟨_, rfl⟩ (.cons ⟨_, rfl⟩ (.cons ⟨_, rfl⟩ (.cons ⟨_, rfl⟩ .nil)))))))))))⟩
  have T_Reader : TxtR K mg c_Reader := ⟨⟨pg_Reader, hd_Reader, po_Reader, sa_Reader⟩, n_Reader_text, n_Reader_at, PySem.W.mg_of X G aK_Reader⟩
  have m_LETTERS : mg "LETTERS" = some (.str abcS tk1) := PySem.W.mg_of X G aLt
  have m_FIGURES : mg "FIGURES" = some (.str figS tk2) := PySem.W.mg_of X G aFg
  have m_MS := PySem.W.mg_of X G aM1
  have m_MO := PySem.W.mg_of X G aM2
  have m_ML := PySem.W.mg_of X G aM3
  have m_MF := PySem.W.mg_of X G aM4
  have m_BETWEEN := PySem.W.mg_of X G aB
  have h_BETWEEN : KDicW K w.params bd betw := ⟨⟨esB, nB, lB, kB, pB⟩, by decide +kernel, sB⟩
  have hB : KBtw K bd := fun o => by
    cases o
    · exact ⟨_, nB0⟩
    · exact ⟨_, nB1⟩
    · exact ⟨_, nB2⟩
    · exact ⟨_, nB3⟩
  have k0 := keep_of l0
  have F0 := fun_mk (st := s_Reader___init__) l0 c0 k0
  have b0 := F0.binds (ps := ["self", "text"]) fun _ _ _ _ _ _ us hl => match us, hl with | [_, _], _ => rfl
  have k1 := keep_of l1
  have F1 := fun_mk (st := s_Reader_stands) l1 c1 k1
  have b1 := F1.binds (ps := ["self", "piece"]) fun _ _ _ _ _ _ us hl => match us, hl with | [_, _], _ => rfl
  have k2 := keep_of l2
  have F2 := fun_mk (st := s_Reader_skipped) l2 c2 k2
  have b2 := F2.binds (ps := ["self", "piece"]) fun _ _ _ _ _ _ us hl => match us, hl with | [_, _], _ => rfl
  have k3 := keep_of l3
  have F3 := fun_mk (st := s_Reader_skip) l3 c3 k3
  have b3 := F3.binds (ps := ["self", "piece"]) fun _ _ _ _ _ _ us hl => match us, hl with | [_, _], _ => rfl
  have k4 := keep_of l4
  have F4 := fun_mk (st := s_Reader_run_of) l4 c4 k4
  have b4 := F4.binds (ps := ["self", "signs"]) fun _ _ _ _ _ _ us hl => match us, hl with | [_, _], _ => rfl
  have k5 := keep_of l5
  have F5 := fun_mk (st := s_Reader_skip_end) l5 c5 k5
  have b5 := F5.binds (ps := ["self"]) fun _ _ _ _ _ _ us hl => match us, hl with | [_], _ => rfl
  have k6 := keep_of l6
  have F6 := fun_mk (st := s_atom_text) l6 c6 k6
  have b6 := F6.binds (ps := ["atom"]) fun _ _ _ _ _ _ us hl => match us, hl with | [_], _ => rfl
  have m6 := PySem.W.mg_of X G a6
  have k7 := keep_of l7
  have F7 := fun_mk (st := s_gap_text) l7 c7 k7
  have b7 := F7.binds (ps := ["gap"]) fun _ _ _ _ _ _ us hl => match us, hl with | [_], _ => rfl
  have m7 := PySem.W.mg_of X G a7
  have k8 := keep_of l8
  have F8 := fun_mk (st := s_leaf_text) l8 c8 k8
  have b8 := F8.binds (ps := ["leaf"]) fun _ _ _ _ _ _ us hl => match us, hl with | [_], _ => rfl
  have m8 := PySem.W.mg_of X G a8
  have k9 := keep_of l9
  have F9 := fun_mk (st := s_written_row) l9 c9 k9
  have b9 := F9.binds (ps := ["tree"]) fun _ _ _ _ _ _ us hl => match us, hl with | [_], _ => rfl
  have m9 := PySem.W.mg_of X G a9
  have k10 := keep_of l10
  have F10 := fun_mk (st := s_shown) l10 c10 k10
  have b10 := F10.binds (ps := ["tree"]) fun _ _ _ _ _ _ us hl => match us, hl with | [_], _ => rfl
  have m10 := PySem.W.mg_of X G a10
  have k11 := keep_of l11
  have F11 := fun_mk (st := s_most_open) l11 c11 k11
  have b11 := F11.binds (ps := ["text"]) fun _ _ _ _ _ _ us hl => match us, hl with | [_], _ => rfl
  have m11 := PySem.W.mg_of X G a11
  have k12 := keep_of l12
  have F12 := fun_mk (st := s_begun) l12 c12 k12
  have b12 := F12.binds (ps := ["text"]) fun _ _ _ _ _ _ us hl => match us, hl with | [_], _ => rfl
  have m12 := PySem.W.mg_of X G a12
  have k13 := keep_of l13
  have F13 := fun_mk (st := s_word_from) l13 c13 k13
  have b13 := F13.binds (ps := ["reader"]) fun _ _ _ _ _ _ us hl => match us, hl with | [_], _ => rfl
  have m13 := PySem.W.mg_of X G a13
  have k14 := keep_of l14
  have F14 := fun_mk (st := s_number_from) l14 c14 k14
  have b14 := F14.binds (ps := ["reader"]) fun _ _ _ _ _ _ us hl => match us, hl with | [_], _ => rfl
  have m14 := PySem.W.mg_of X G a14
  have k15 := keep_of l15
  have F15 := fun_mk (st := s_plain_leaf_from) l15 c15 k15
  have b15 := F15.binds (ps := ["reader"]) fun _ _ _ _ _ _ us hl => match us, hl with | [_], _ => rfl
  have m15 := PySem.W.mg_of X G a15
  have k16 := keep_of l16
  have F16 := fun_mk (st := s_atom_from) l16 c16 k16
  have b16 := F16.binds (ps := ["reader"]) fun _ _ _ _ _ _ us hl => match us, hl with | [_], _ => rfl
  have m16 := PySem.W.mg_of X G a16
  have k17 := keep_of l17
  have F17 := fun_mk (st := s_atoms_from) l17 c17 k17
  have b17 := F17.binds (ps := ["reader"]) fun _ _ _ _ _ _ us hl => match us, hl with | [_], _ => rfl
  have m17 := PySem.W.mg_of X G a17
  have k18 := keep_of l18
  have F18 := fun_mk (st := s_shape_from) l18 c18 k18
  have b18 := F18.binds (ps := ["reader"]) fun _ _ _ _ _ _ us hl => match us, hl with | [_], _ => rfl
  have m18 := PySem.W.mg_of X G a18
  have k19 := keep_of l19
  have F19 := fun_mk (st := s_bracket_from) l19 c19 k19
  have b19 := F19.binds (ps := ["reader"]) fun _ _ _ _ _ _ us hl => match us, hl with | [_], _ => rfl
  have m19 := PySem.W.mg_of X G a19
  have k20 := keep_of l20
  have F20 := fun_mk (st := s_if_from) l20 c20 k20
  have b20 := F20.binds (ps := ["reader"]) fun _ _ _ _ _ _ us hl => match us, hl with | [_], _ => rfl
  have m20 := PySem.W.mg_of X G a20
  have k21 := keep_of l21
  have F21 := fun_mk (st := s_let_from) l21 c21 k21
  have b21 := F21.binds (ps := ["reader"]) fun _ _ _ _ _ _ us hl => match us, hl with | [_], _ => rfl
  have m21 := PySem.W.mg_of X G a21
  have k22 := keep_of l22
  have F22 := fun_mk (st := s_two_from) l22 c22 k22
  have b22 := F22.binds (ps := ["reader"]) fun _ _ _ _ _ _ us hl => match us, hl with | [_], _ => rfl
  have m22 := PySem.W.mg_of X G a22
  have k23 := keep_of l23
  have F23 := fun_mk (st := s_read) l23 c23 k23
  have b23 := F23.binds (ps := ["text"]) fun _ _ _ _ _ _ us hl => match us, hl with | [_], _ => rfl
  have m23 := PySem.W.mg_of X G a23
  have k24 := keep_of l24
  have F24 := fun_mk (st := s_law_cell_at) l24 c24 k24
  have b24 := F24.binds (ps := ["_law_script", "_law_k"]) fun _ _ _ _ _ _ us hl => match us, hl with | [_, _], _ => rfl
  have m24 := PySem.W.mg_of X G a24
  have k25 := keep_of l25
  have F25 := fun_mk (st := s_law_word) l25 c25 k25
  have b25 := F25.binds (ps := ["_law_cell"]) fun _ _ _ _ _ _ us hl => match us, hl with | [_], _ => rfl
  have m25 := PySem.W.mg_of X G a25
  have k26 := keep_of l26
  have F26 := fun_mk (st := s_law_leaf) l26 c26 k26
  have b26 := F26.binds (ps := ["_law_cell", "_law_gaps"]) fun _ _ _ _ _ _ us hl => match us, hl with | [_, _], _ => rfl
  have m26 := PySem.W.mg_of X G a26
  have k27 := keep_of l27
  have F27 := fun_mk (st := s_law_tree) l27 c27 k27
  have b27 := F27.binds (ps := ["_law_cells", "_law_deep", "_law_gaps"]) fun _ _ _ _ _ _ us hl => match us, hl with | [_, _, _], _ => rfl
  have m27 := PySem.W.mg_of X G a27
  have k28 := keep_of l28
  have F28 := fun_mk (st := s_law_great) l28 c28 k28
  have b28 := F28.binds (ps := ["_law_cell"]) fun _ _ _ _ _ _ us hl => match us, hl with | [_], _ => rfl
  have m28 := PySem.W.mg_of X G a28
  have k29 := keep_of l29
  have F29 := fun_mk (st := s_law_nested) l29 c29 k29
  have b29 := F29.binds (ps := ["_law_cell", "_law_more"]) fun _ _ _ _ _ _ us hl => match us, hl with | [_, _], _ => rfl
  have m29 := PySem.W.mg_of X G a29
  have k30 := keep_of l30
  have F30 := fun_mk (st := s_law_leaf_written) l30 c30 k30
  have b30 := F30.binds (ps := ["_law_tree_here"]) fun _ _ _ _ _ _ us hl => match us, hl with | [_], _ => rfl
  have m30 := PySem.W.mg_of X G a30
  have k31 := keep_of l31
  have F31 := fun_mk (st := s_law_written) l31 c31 k31
  have b31 := F31.binds (ps := ["_law_tree_here"]) fun _ _ _ _ _ _ us hl => match us, hl with | [_], _ => rfl
  have m31 := PySem.W.mg_of X G a31
  have k32 := keep_of l32
  have F32 := fun_mk (st := s_law_same) l32 c32 k32
  have b32 := F32.binds (ps := ["_law_found", "_law_due"]) fun _ _ _ _ _ _ us hl => match us, hl with | [_, _], _ => rfl
  have m32 := PySem.W.mg_of X G a32
  have k33 := keep_of l33
  have F33 := fun_mk (st := s_law) l33 c33 k33
  have b33 := F33.binds (ps := ["_law_script"]) fun _ _ _ _ _ _ us hl => match us, hl with | [_], _ => rfl
  have m33 := PySem.W.mg_of X G a33
  refine ⟨PySem.W.fnOf "law" "law" (defArgs s_law) (defBody s_law) (defScope s_law) .none kV33 dc33 pm33 an33 cd33 ct33, fun s v => .of_eq rfl, fun base _ _ => ?_⟩
  have G0 : FnM l.prog w K mg base 1 c_Reader "__init__" f0 _ _ _ := ⟨ok_init (k := 0) F0 T_Reader, b0, ⟨a0, i0, k0⟩⟩
  have G1 : FnM l.prog w K mg base 1 c_Reader "stands" f1 _ _ _ := ⟨ok_stands (k := 0) F1 T_Reader, b1, ⟨a1, i1, k1⟩⟩
  have G2 : FnM l.prog w K mg base 2 c_Reader "skipped" f2 _ _ _ := ⟨ok_skipped F2 T_Reader z_len (G1.up (k := 1) (by decide)), b2, ⟨a2, i2, k2⟩⟩
  have G3 : FnM l.prog w K mg base 3 c_Reader "skip" f3 _ _ _ := ⟨ok_skip F3 T_Reader (G2.up (k := 2) (by decide)), b3, ⟨a3, i3, k3⟩⟩
  have G4 : FnM l.prog w K mg base 1 c_Reader "run_of" f4 _ _ _ := ⟨ok_run_of (k := 0) F4 T_Reader z_len, b4, ⟨a4, i4, k4⟩⟩
  have G5 : FnM l.prog w K mg base 1 c_Reader "skip_end" f5 _ _ _ := ⟨ok_skip_end (k := 0) F5 T_Reader z_len, b5, ⟨a5, i5, k5⟩⟩
  have G13 : FnB l.prog w K mg base 2 "word_from" f13 _ _ _ := ⟨ok_word_from F13 T_Reader z_len m_LETTERS m_ML m_KEPT_WORDS h_KEPT_WORDS (G4.up (k := 1) (by decide)), b13, k13, m13⟩
  have G14 : FnB l.prog w K mg base 2 "number_from" f14 _ _ _ := ⟨ok_number_from F14 T_Reader z_len z_int m_FIGURES m_MF (G4.up (k := 1) (by decide)), b14, k14, m14⟩
  have G15 : FnB l.prog w K mg base 3 "plain_leaf_from" f15 _ _ _ := ⟨ok_pleaf F15 T_Reader z_any m_FIGURES (G1.up (k := 2) (by decide)) (G14.up (k := 2) (by decide)) (G13.up (k := 2) (by decide)), b15, k15, m15⟩
  have G16 : FnB l.prog w K mg base 4 "atom_from" f16 _ _ _ := ⟨ok_atom F16 T_Reader (G2.up (k := 3) (by decide)) (G15.up (k := 3) (by decide)) (G13.up (k := 3) (by decide)), b16, k16, m16⟩
  have G17 : FnB l.prog w K mg base 5 "atoms_from" f17 _ _ _ := ⟨ok_atoms F17 T_Reader z_tuple (G2.up (k := 4) (by decide)) (G3.up (k := 4) (by decide)) (G16.up (k := 4) (by decide)), b17, k17, m17⟩
  have G18 := all_shape F18 F19 F20 F21 F22 b18 b19 b20 b21 b22 m18 m19 m20 m21 m22 T_Reader m_BETWEEN h_BETWEEN hB (G2.up (k := 5) (by decide)) (G3.up (k := 5) (by decide)) (G13.up (k := 5) (by decide)) (G17.up (k := 5) (by decide)) (G15.up (k := 5) (by decide)) 17
  have G11 : FnB l.prog w K mg base 1 "most_open" f11 _ _ _ := ⟨ok_most (k := 0) F11 z_max, b11, k11, m11⟩
  have G12 : FnB l.prog w K mg base 3 "begun" f12 _ _ _ := ⟨ok_begun F12 z_len m_MS m_MO T_Reader ⟨mk_Reader, a0, i0, kc_Reader⟩ (G11.up (k := 2) (by decide)) (G0.up (k := 1) (by decide)), b12, k12, m12⟩
  have G23 : FnB l.prog w K mg base 57 "read" f23 _ _ _ := ⟨ok_read F23 T_Reader (G12.up (k := 56) (by decide)) (G18.up (k := 56) (by decide)) (G5.up (k := 56) (by decide)), b23, k23, m23⟩
  have G6 : FnB l.prog w K mg base 1 "atom_text" f6 _ _ _ := ⟨ok_atext (k := 0) F6 z_str, b6, k6, m6⟩
  have G7 : FnB l.prog w K mg base 2 "gap_text" f7 _ _ _ := ⟨ok_gtext F7 (G6.up (k := 1) (by decide)), b7, k7, m7⟩
  have G8 : FnB l.prog w K mg base 3 "leaf_text" f8 _ _ _ := ⟨ok_ltext F8 z_str (G7.up (k := 2) (by decide)), b8, k8, m8⟩
  have G9 : FnB l.prog w K mg base 4 "written_row" f9 _ _ _ := ⟨ok_row F9 m_LEAF_SIGNS h_LEAF_SIGNS m_BETWEEN h_BETWEEN hB (G8.up (k := 3) (by decide)), b9, k9, m9⟩
  have G10 : FnB l.prog w K mg base 5 "shown" f10 _ _ _ := ⟨ok_shown F10 z_isinstance z_str (G9.up (k := 4) (by decide)), b10, k10, m10⟩
  have G24 : FnB l.prog w K mg base 1 "_law_cell_at" f24 _ _ _ := ⟨ok_cell_at (k := 0) F24 z_len, b24, k24, m24⟩
  have G25 : FnB l.prog w K mg base 1 "_law_word" f25 _ _ _ := ⟨ok_lword (k := 0) F25 z_range, b25, k25, m25⟩
  have G26 : FnB l.prog w K mg base 2 "_law_leaf" f26 _ _ _ := ⟨ok_lleaf F26 z_tuple (G25.up (k := 1) (by decide)), b26, k26, m26⟩
  have G27 := all_tree F27 b27 m27 z_len (G25.up (k := 2) (by decide)) (G26.up (k := 2) (by decide)) 13
  have G28 : FnB l.prog w K mg base 1 "_law_great" f28 _ _ _ := ⟨ok_great (k := 0) F28 z_len z_range, b28, k28, m28⟩
  have G29 : FnB l.prog w K mg base 3 "_law_nested" f29 _ _ _ := ⟨ok_nested F29 z_min z_range (G26.up (k := 2) (by decide)), b29, k29, m29⟩
  have G30 := all_lwr (P := l.prog) (w := w) (base := base) (k := 0) F30 b30 m30 z_str 2
  have G31 := all_wr F31 b31 m31 (G30.up (k := 2) (by decide)) 97
  have G32 := all_same (P := l.prog) (w := w) (base := base) (k := 0) F32 b32 m32 z_isinstance z_tuple z_str z_int z_bool z_len z_zip 22
  exact ok_law F33 z_isinstance z_str z_zip (G27.up (k := 99) (by decide)) (G24.up (k := 99) (by decide)) (G29.up (k := 99) (by decide)) (G28.up (k := 99) (by decide)) (G31.up (k := 99) (by decide)) (G32.up (k := 99) (by decide)) (G10.up (k := 99) (by decide)) (G23.up (k := 99) (by decide))
theorem walk {l : PySem.W.OpenLaw} {q : Program} {loose : List Str} {XP : (Str → Option Value) → Heap → Prop} {YP : World → Heap → Prop} {d : DefRec} {K : Params → PySem.W.Frag} (hn : l.most = some 63) (hdf : d.params.defaults = [])
    (hY : ∀ (w : World) (h : Heap), YP w h → (K w.params).In h)
    (F : ∀ (w : World) (mg : Str → Option Value) (fa : Addr) (h : Heap), (K w.params).In h → h.Ns mainGlobals mg → mg d.name = some (.ref fa) →
      ∃ fd : FuncData, (∀ (s : Shared) (u : Value), BindsTo s fd ⟨[u], []⟩ [("_law_script", u)]) ∧ ∀ base : Heap, (K w.params).In base → base.Ns mainGlobals mg → FnOk l.prog w (K w.params) mg base CX0 100 fa fd ["_law_script"] (sp_law (K w.params))) :
    PySem.W.WalkO q loose XP YP l.row.toRowW d [] (fun f vs => PySem.call f vs) :=
  L2.walk_of (n := 63) (k := 100) (x := "_law_script") (CX := fun _ => CX0) (sp := fun w => sp_law (K w.params)) hn (by decide) hdf ⟨rfl, by decide, by decide⟩ hY F (fun _ _ a ns hl _ hS => ⟨a, ns, rfl, hS, hl, fun _ => rfl⟩) fun _ _ _ _ _ z => z
end K06
def PySem.W.Fast.tw17815230686431949820 : Unit := ()
def PySem.W.Fast.tw1387324201026708587 : Unit := ()
def PySem.W.Fast.tw15473905953233439361 : Unit := ()
def PySem.W.Fast.tw16169111939659494786 : Unit := ()
def PySem.W.Fast.tw14558194349447958164 : Unit := ()
def PySem.W.Fast.tw3636154258326818085 : Unit := ()
def PySem.W.Fast.tw8992239183986499676 : Unit := ()
open PySem PySem.W PyProof.Rows
set_option maxRecDepth 100000 in
set_option maxHeartbeats 0 in
theorem PySem.Challenge.cw_recastle_k06_texts_read_again_holds : PySem.Challenge.rw_recastle_k06_texts_read_again.Holds := by
  w_on; o_law; k_head; (case hw => w_witness2)
  k_fill
  refine K06.walk (l := PySem.Challenge.rw_recastle_k06_texts_read_again) rfl rfl (fun w h Y => PySem.W.kIn_of Y) ?F
  case F =>
    intro w mg fa h KX G hmg
    refine' K06.all_mk KX G hmg ?aK_Reader ?pg_Reader ?hd_Reader ?po_Reader ?sa_Reader ?mk_Reader ?kc_Reader ?n_Reader_text ?n_Reader_at ?a0 ?i0 ?l0 ?c0 ?a1 ?i1 ?l1 ?c1 ?a2 ?i2 ?l2 ?c2 ?a3 ?i3 ?l3 ?c3 ?a4 ?i4 ?l4 ?c4 ?a5 ?i5 ?l5 ?c5 ?a6 ?l6 ?c6 ?a7 ?l7 ?c7 ?a8 ?l8 ?c8 ?a9 ?l9 ?c9 ?a10 ?l10 ?c10 ?a11 ?l11 ?c11 ?a12 ?l12 ?c12 ?a13 ?l13 ?c13 ?a14 ?l14 ?c14 ?a15 ?l15 ?c15 ?a16 ?l16 ?c16 ?a17 ?l17 ?c17 ?a18 ?l18 ?c18 ?a19 ?l19 ?c19 ?a20 ?l20 ?c20 ?a21 ?l21 ?c21 ?a22 ?l22 ?c22 ?a23 ?l23 ?c23 ?a24 ?l24 ?c24 ?a25 ?l25 ?c25 ?a26 ?l26 ?c26 ?a27 ?l27 ?c27 ?a28 ?l28 ?c28 ?a29 ?l29 ?c29 ?a30 ?l30 ?c30 ?a31 ?l31 ?c31 ?a32 ?l32 ?c32 ?a33 ?l33 ?c33 ?aC0 ?lC0 ?aC1 ?lC1 ?aLt ?aFg ?aM1 ?aM2 ?aM3 ?aM4 ?aB ?lB ?kB ?sB ?pB ?nB0 ?nB1 ?nB2 ?nB3 ?z_len ?z_range ?z_isinstance ?z_int ?z_bool ?z_str ?z_tuple ?z_zip ?z_any ?z_max ?z_min
    (case aK_Reader => k_is); (case pg_Reader => k_is); (case hd_Reader => k_is); (case po_Reader => k_is)
    (case sa_Reader => k_is); (case mk_Reader => k_is); (case kc_Reader => k_is); (case n_Reader_text => k_is)
    (case n_Reader_at => k_is); (case a0 => k_is); (case i0 => k_is); (case l0 => k_is)
    (case c0 => k_is); (case a1 => k_is); (case i1 => k_is); (case l1 => k_is)
    (case c1 => k_is); (case a2 => k_is); (case i2 => k_is); (case l2 => k_is)
    (case c2 => k_is); (case a3 => k_is); (case i3 => k_is); (case l3 => k_is)
    (case c3 => k_is); (case a4 => k_is); (case i4 => k_is); (case l4 => k_is)
    (case c4 => k_is); (case a5 => k_is); (case i5 => k_is); (case l5 => k_is)
    (case c5 => k_is); (case a6 => k_is); (case l6 => k_is); (case c6 => k_is)
    (case a7 => k_is); (case l7 => k_is); (case c7 => k_is); (case a8 => k_is)
    (case l8 => k_is); (case c8 => k_is); (case a9 => k_is); (case l9 => k_is)
    (case c9 => k_is); (case a10 => k_is); (case l10 => k_is); (case c10 => k_is)
    (case a11 => k_is); (case l11 => k_is); (case c11 => k_is); (case a12 => k_is)
    (case l12 => k_is); (case c12 => k_is); (case a13 => k_is); (case l13 => k_is)
    (case c13 => k_is); (case a14 => k_is); (case l14 => k_is); (case c14 => k_is)
    (case a15 => k_is); (case l15 => k_is); (case c15 => k_is); (case a16 => k_is)
    (case l16 => k_is); (case c16 => k_is); (case a17 => k_is); (case l17 => k_is)
    (case c17 => k_is); (case a18 => k_is); (case l18 => k_is); (case c18 => k_is)
    (case a19 => k_is); (case l19 => k_is); (case c19 => k_is); (case a20 => k_is)
    (case l20 => k_is); (case c20 => k_is); (case a21 => k_is); (case l21 => k_is)
    (case c21 => k_is); (case a22 => k_is); (case l22 => k_is); (case c22 => k_is)
    (case a23 => k_is); (case l23 => k_is); (case c23 => k_is); (case a24 => k_is)
    (case l24 => k_is); (case c24 => k_is); (case a25 => k_is); (case l25 => k_is)
    (case c25 => k_is); (case a26 => k_is); (case l26 => k_is); (case c26 => k_is)
    (case a27 => k_is); (case l27 => k_is); (case c27 => k_is); (case a28 => k_is)
    (case l28 => k_is); (case c28 => k_is); (case a29 => k_is); (case l29 => k_is)
    (case c29 => k_is); (case a30 => k_is); (case l30 => k_is); (case c30 => k_is)
    (case a31 => k_is); (case l31 => k_is); (case c31 => k_is); (case a32 => k_is)
    (case l32 => k_is); (case c32 => k_is); (case a33 => k_is); (case l33 => k_is)
    (case c33 => k_is); (case aC0 => k_is); (case lC0 => k_is); (case aC1 => k_is)
    (case lC1 => k_is); (case aLt => k_is); (case aFg => k_is); (case aM1 => k_is)
    (case aM2 => k_is); (case aM3 => k_is); (case aM4 => k_is); (case aB => k_is)
    (case lB => k_is); (case kB => k_keys); (case sB => decide); (case pB => exact .cons ⟨_, rfl⟩ (.cons ⟨_, rfl⟩ (.cons ⟨_, rfl⟩ (.cons ⟨_, rfl⟩ .nil))))
    (case nB0 => k_is); (case nB1 => k_is); (case nB2 => k_is); (case nB3 => k_is)
    (case z_len => k_is); (case z_range => k_is); (case z_isinstance => k_is); (case z_int => k_is)
    (case z_bool => k_is); (case z_str => k_is); (case z_tuple => k_is); (case z_zip => k_is)
    (case z_any => k_is); (case z_max => k_is); (case z_min => k_is)
#print axioms PySem.Challenge.cw_recastle_k06_texts_read_again_holds