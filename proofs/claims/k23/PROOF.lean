import PyProof.Rows.All
import Wide.All
import OpenK.AllK
import Wide.FinOn
import Lean
import PyProof.EqAt
import PyProof.EqKinds
import PyProof.TupleCall
import PyProof.NeKinds
import PyProof.AttrMissHeap
import KE.KDictOf
import KE.KDictLaws
import KE.KSortTup
import PyProof.Rows.SortWalk
import PyProof.Rows.SortShellK
import PySem.Challenge.RW_recastle_k23_all_steps
local macro_rules|`(tactic|right)=>`(tactic|decide +kernel)
abbrev XQ:=PySem.Value->PySem.Shared->Prop
abbrev lE:=@List.length_map
abbrev mF:=@List.size_toArray
abbrev mJ:=@List.getElem?_map
abbrev mK:=@List.length_append
abbrev mL:=@List.map_cons
abbrev mM:=@List.length_cons
abbrev mN:=@List.length_take
abbrev mO:=@List.take_length
abbrev mP:=@List.map_append
abbrev mQ:=@List.mem_singleton
abbrev mS:=@List.getElem?_append_left
abbrev mT:=@List.getElem?_append_right
abbrev mU:=@List.take_of_length_le
abbrev mV:=@List.length_drop
abbrev mW:=@List.mem_flatMap
abbrev mX:=@List.append_assoc
abbrev mZ:=@List.not_mem_nil
abbrev nB:=@Nat.lt_of_succ_lt
abbrev nH:=@Array.getElem?_toList
abbrev nJ:=@List.flatMap_append
abbrev nL:=@List.mem_append
abbrev nM:=@List.mem_cons
abbrev nN:=@List.getElem?_eq_getElem
abbrev nP:=@List.append_nil
abbrev nQ:=@List.map_map
abbrev nV:=@List.reverse_append
abbrev nY:=@Int.emod_nonneg
abbrev nZ:=@Int.emod_lt_of_pos
abbrev rA:=@List.nodup_cons
abbrev rD:=@List.flatMap_cons
abbrev rH:=@PyProof.Rows.boot_tuple
abbrev rJ:=@PyProof.Rows.boot_isinstance
abbrev rM:=@PyProof.Rows.boot_str
abbrev rO:=@PySem.F.plainAttrs_list
abbrev rP:=@PySem.F.plainAttrs_dict
abbrev rQ:=@PySem.F.slot_list_append
abbrev rR:=@PySem.F.type_list_append
abbrev rS:=@PySem.F.slot_list_extend
abbrev rT:=@PySem.F.type_list_extend
abbrev lC:=@PySem.wpAny_bind
abbrev lD:=@PySem.wpAny_pure
abbrev lG:=@PySem.wpAny_holding
abbrev lH:=@PySem.Heap.get?_push_of_some
abbrev lI:=@PySem.Heap.get?_push_size
abbrev lJ:=@PySem.Heap.lt_size
abbrev lK:=@List.getElem?_eq_some_iff
abbrev lM:=@List.mem_append
abbrev lN:=@List.mem_of_getElem?
abbrev lO:=@List.mem_cons
abbrev lP:=@List.mem_cons_self
abbrev lQ:=@List.mem_cons_of_mem
abbrev lS:=@Nat.le_refl
abbrev lT:=@Nat.ne_of_lt
abbrev lU:=@of_decide_eq_true
abbrev lW:=@decide_eq_true
abbrev lX:=@Option.map_eq_some_iff
abbrev lY:=@List.getElem?_eq_getElem
abbrev lZ:=@Bool.false_ne_true
abbrev mB:=@Nat.zero_le
abbrev mC:=@Nat.lt_of_lt_of_le
abbrev mD:=@List.mem_append_right
abbrev mE:=@List.mem_map
abbrev mG:=@Option.some.inj
abbrev mH:=@List.mem_append_left
abbrev mI:=@Nat.le_trans
set_option hygiene false
local macro_rules|`(61)=>`(by lia)|`(65)=>`(by dsimp only;lia)|`(66)=>`(λ cdv A outer s H vs Q E hr h=>?_)|`(67)=>`(iC (r:=rIxT K) zAL (pv 0))|`(68)=>`(by simp)|`(69)=>`(by decide)|`(71)=>`(wpS_mono (wpS_forRange (I:=λ i (c:Option (Option Nat) × Nat) st2=>st2=setArr st arr2/\c.1=none/\c.2=i/\1<=c.2/\c.2<=nrem/\SegO R arr2 lo (lo+c.2)) (Q:=λ c st2=>st2=setArr st arr2/\c.1=none/\1<=c.2/\c.2<=nrem/\SegO R arr2 lo (lo+c.2)/\(c.2<nrem->R (arr2.getD (lo+c.2) d0) (arr2.getD (lo+c.2 - 1) d0)=true)) ?_ ?_ ⟨rfl,rfl,rfl,65,65,sg2⟩) ?_)|`(72)=>`(⟨_,rfl⟩)|`(73)=>`(λ Ω Ω Ω Ω Ω=>(zEQ (K:=K) (n:=2) rfl rfl (zAa (zA4 (i:=0) (show List.Nodup (["_law_tree_here", "_law_deep"]:List Str) by right) rfl (Or.inl rfl)) (zAa (zA4 (i:=1) (show List.Nodup (["_law_tree_here", "_law_deep"]:List Str) by right) rfl (Or.inl rfl)) zBK))))|`(74)=>`(model X.prog X.w)|`(75)=>`(λ vs H Q E h=>?_)|`(76)=>`(λ Ω Ω=>rfl)|`(77)=>`(λ c=>?_)|`(78)=>`(zAw L (left:=true) (f:=λ i=>b.getD (kb+1+i) d0) hk (m.ga_at 61) (λ i hi=>zAX 61) (λ i hi=>m.gb_at 61) 61 (zDc L (m.ga_at 61) (λ i hi=>m.gb_at 61) (λ i j hij hj=>m.b_le L 61 61)) λ k1 hk1n hk11 hk12=>?_)|`(79)=>`(zAw L (left:=true) (f:=λ i=>b.getD (0+i) d0) hk (m.ga_at 61) (λ i hi=>zAX 61) (λ i hi=>m.gb_at 61) 61 (zDc L (m.ga_at 61) (λ i hi=>m.gb_at 61) (λ i j hij hj=>m.b_le L 61 61)) λ k1 hk1n hk11 hk12=>?_)|`(80)=>`(iC (r:=rIxT K) zAL (pv 1))|`(85)=>`(wpAny_attempt (wpAny_callSpecial?_slot (name:=Str.ofString "__next__") hT F.slot_enumerate_next (wpAny_call_entry F.slot_enumerate_next hT F.entry_enumerate_next ?_ (F.args_enumerate_next_1 _))))|`(86)=>`(Addr × Obj)|`(87)=>`(λ z=>nomatch z)|`(88)=>`(⟨n1,n2,n3,n4,n5,n6,n7,n8,n9,n10,ne ha 68,ne ha 68,ne ha 68,ne ha 68,ne hb 68,ne hb 68,ne hb 68,ne hb 68⟩)|`(89)=>`(λ q=>hc (by simp[q]))|`(90)=>`(model prog w)|`(91)=>`(zAQ _)|`(92)=>`(wpAny_callSpecial?_slot (name:=Str.ofString "__next__") hT F.slot_zip_next (wpAny_call_entry F.slot_zip_next hT F.entry_zip_next ?_ (F.args_zip_next_1 _)))|`(93)=>`(dfa ?_ ?_ ?_)
local macro_rules|`(94)=>`(by show 0<=sizeLine;decide)|`(95)=>`(∀σ' H',N σ' H'->∃m',m'<m/\W (i+1) m' σ' H')|`(96)=>`(upd (upd (upd H5 pm (.tup [.str "num", .int m1])) pk (.frz ok (.tup []))) pr (.tup [.ref pL,.ref pm,.ref pk]))|`(98)=>`(thn (ha pos jP s σ H _ I h) λ us s1 ⟨vs,H1,I1,r1,q1⟩=>?_)|`(102)=>`(by rfl)
set_option Elab.async false
set_option tactic.hygienic false
set_option linter.all false
set_option maxRecDepth 100000
set_option maxHeartbeats 4000000
namespace L2
inductive A3(a b c:Prop):Prop
 |mk:a->b->c->A3 a b c
inductive A4(a b c d:Prop):Prop
 |mk:a->b->c->d->A4 a b c d
inductive A5(a b c d e:Prop):Prop
 |mk:a->b->c->d->e->A5 a b c d e
inductive A6(a b c d e f:Prop):Prop
 |mk:a->b->c->d->e->f->A6 a b c d e f
inductive A7(a b c d e f g:Prop):Prop
 |mk:a->b->c->d->e->f->g->A7 a b c d e f g
inductive A8(a b c d e f g h:Prop):Prop
 |mk:a->b->c->d->e->f->g->h->A8 a b c d e f g h
inductive A9(a b c d e f g h i:Prop):Prop
 |mk:a->b->c->d->e->f->g->h->i->A9 a b c d e f g h i
inductive A10(a b c d e f g h i j:Prop):Prop
 |mk:a->b->c->d->e->f->g->h->i->j->A10 a b c d e f g h i j
inductive A11(a b c d e f g h i j k:Prop):Prop
 |mk:a->b->c->d->e->f->g->h->i->j->k->A11 a b c d e f g h i j k
inductive A12(a b c d e f g h i j k l:Prop):Prop
 |mk:a->b->c->d->e->f->g->h->i->j->k->l->A12 a b c d e f g h i j k l
inductive A14(a b c d e f g h i j k l m n:Prop):Prop
 |mk:a->b->c->d->e->f->g->h->i->j->k->l->m->n->A14 a b c d e f g h i j k l m n
inductive E2{a b:Type}(p:a->b->Prop):Prop
 |mk:∀A B,p A B->E2 p
inductive E3{a b c:Type}(p:a->b->c->Prop):Prop
 |mk:∀A B C,p A B C->E3 p
inductive E4{a b c d:Type}(p:a->b->c->d->Prop):Prop
 |mk:∀A B C D,p A B C D->E4 p
inductive E5{a b c d e:Type}(p:a->b->c->d->e->Prop):Prop
 |mk:∀A B C D E,p A B C D E->E5 p
inductive E6{a b c d e f:Type}(p:a->b->c->d->e->f->Prop):Prop
 |mk:∀A B C D E F,p A B C D E F->E6 p
inductive E7{a b c d e f g:Type}(p:a->b->c->d->e->f->g->Prop):Prop
 |mk:∀A B C D E F G,p A B C D E F G->E7 p
inductive E8{a b c d e f g h:Type}(p:a->b->c->d->e->f->g->h->Prop):Prop
 |mk:∀A B C D E F G H,p A B C D E F G H->E8 p
inductive E9{a b c d e f g h i:Type}(p:a->b->c->d->e->f->g->h->i->Prop):Prop
 |mk:∀A B C D E F G H I,p A B C D E F G H I->E9 p
inductive E10{a b c d e f g h i j:Type}(p:a->b->c->d->e->f->g->h->i->j->Prop):Prop
 |mk:∀A B C D E F G H I J,p A B C D E F G H I J->E10 p
inductive E11{a b c d e f g h i j k:Type}(p:a->b->c->d->e->f->g->h->i->j->k->Prop):Prop
 |mk:∀A B C D E F G H I J K,p A B C D E F G H I J K->E11 p
open PySem PySem.Spec PyProof.Rows
abbrev Key:=Sum Int Str
noncomputable def keyIs:Key->Value->Bool
 |.inl k,v=>Value.isInt k v
 |.inr x,v=>Value.isStrOf x v
noncomputable def keyH (w:World):Key->Int
 |.inl k=>hashInt k
 |.inr x=>hashStr w x
theorem zAy:∀{k:Key}{v:Value},keyIs k v=true->(∃i t,k=Sum.inl i/\v=Value.int i t)\/(∃x t,k=Sum.inr x/\v=Value.str x t)
 |.inl i,v,h=>by
  obtain⟨t,e⟩:=Value.isInt_shape (k:=i) (v:=v) h;exact .inl ⟨i,t,rfl,e⟩
 |.inr x,v,h=>by
  obtain⟨t,e⟩:=Value.isStrOf_shape (x:=x) (v:=v) h;exact .inr ⟨x,t,rfl,e⟩
theorem zJZ (i:Int) (t:Tok):keyIs (.inl i) (.int i t)=true:=by simp[keyIs,Value.isInt]
theorem zJY (x:Str) (t:Tok):keyIs (.inr x) (.str x t)=true:=by simp[keyIs,Value.isStrOf]
theorem zMs (a b:Int):decide ((Sum.inl a:Key)=Sum.inl b)=(a == b):=by
 by_cases e:a=b
 ·subst e;simp
 ·have h:¬(Sum.inl a:Key)=Sum.inl b:=λ q=>e (Sum.inl.inj q)
  rw[decide_eq_false h];exact(beq_eq_false_iff_ne.mpr e).symm
theorem zMp (a b:Str):decide ((Sum.inr a:Key)=Sum.inr b)=decide (a=b):=by
 by_cases e:a=b
 ·subst e;simp
 ·have h:¬(Sum.inr a:Key)=Sum.inr b:=λ q=>e (Sum.inr.inj q)
  rw[decide_eq_false h,decide_eq_false e]
theorem zMr (a:Int) (b:Str):decide ((Sum.inl a:Key)=Sum.inr b)=false:=decide_eq_false (λ q=>nomatch q)
theorem zMq (a:Str) (b:Int):decide ((Sum.inr a:Key)=Sum.inl b)=false:=decide_eq_false (λ q=>nomatch q)
noncomputable def zAo (prog:Program) (w:World):PySem.KeyKind prog w Key where
 is:=keyIs
 hash:=keyH w
 inj:=λ v a b ha hb=>by
  rcases zAy ha with ⟨i,t,rfl,rfl⟩|⟨x,t,rfl,rfl⟩
  ·rcases zAy hb with ⟨j,u,rfl,e⟩|⟨y,u,rfl,e⟩
   ·injection e with e1 _;rw[e1]
   ·exact nomatch e
  ·rcases zAy hb with ⟨j,u,rfl,e⟩|⟨y,u,rfl,e⟩
   ·exact nomatch e
   ·injection e with e1 _;rw[e1]
 byValue:=λ k v h=>by
  rcases zAy h with ⟨i,t,rfl,rfl⟩|⟨x,t,rfl,rfl⟩<;>rfl
 pyHash:=λ hv h=>by
  rcases zAy hv with ⟨i,t,rfl,rfl⟩|⟨x,t,rfl,rfl⟩
  ·exact wpAny_pyHash_int h
  ·exact wpAny_pyHash_str h
 eqBool:=λ hu hv h=>by
  rcases zAy hu with ⟨i,t,rfl,rfl⟩|⟨x,t,rfl,rfl⟩
  ·rcases zAy hv with ⟨j,u,rfl,rfl⟩|⟨y,u,rfl,rfl⟩
   ·rw[zMs] at h;exact wpAny_eqBool_int h
   ·rw[zMr] at h;exact SeqAt.EqAt.int_str i t y u _ _ _ _ h
  ·rcases zAy hv with ⟨j,u,rfl,rfl⟩|⟨y,u,rfl,rfl⟩
   ·rw[zMq] at h;exact SeqAt.EqAt.str_int x t j u _ _ _ _ h
   ·rw[zMp] at h;exact wpAny_eqBool_str h
 «strs»:=λ k x t v h=>by
  rcases zAy h with ⟨i,u,rfl,e⟩|⟨y,u,rfl,e⟩
  ·exact nomatch e
  ·injection e with e1 _
   subst e1;cases v<;>rfl
theorem zGx (prog:Program) (w:World) (i:Int) (t:Tok):(zAo prog w).is (.inl i) (.int i t)=true:=zJZ i t
theorem zGw (prog:Program) (w:World) (x:Str) (t:Tok):(zAo prog w).is (.inr x) (.str x t)=true:=zJY x t
inductive V where
 |non|bl (b:Bool)|int (i:Int)|str (x:Str)|byt (b:Array UInt8)|flt (b:UInt64)|ref (a:Addr)|ty (n:String)
 deriving DecidableEq
def RelV:V->Value->Prop
 |.non,u=>u=Value.none
 |.bl b,u=>u=Value.bool b
 |.int i,u=>∃t,u=Value.int i t
 |.str x,u=>∃t,u=Value.str x t
 |.byt b,u=>∃t,u=Value.bytes b t
 |.flt b,u=>∃t,u=Value.float b t
 |.ref a,u=>u=Value.ref a
 |.ty n,u=>u=Value.type n
abbrev Vals:List V->List Value->Prop:=Paired RelV
theorem Vals.length {xs:List V}{us:List Value}(r:Vals xs us):xs.length=us.length:=Paired.length r
theorem Vals.get {xs:List V}{us:List Value}{i:Nat}{x:V}(h:Vals xs us):xs[i]?=some x->∃u,us[i]?=some u/\RelV x u:=by
 induction h generalizing i with
 |nil=>exact λ e=>nomatch e
 |cons h t ih=>cases i with
  |zero=>exact λ e=>⟨_,rfl,by cases e;exact h⟩
  |succ i=>exact λ e=>ih (i:=i) (by simpa using e)
theorem Vals.set {x:V}{u:Value}(r:RelV x u):∀{xs:List V}{us:List Value}(i:Nat),Vals xs us->Vals (xs.set i x) (us.set i u)
 |_,_,_,.nil=>.nil
 |_,_,0,.cons _ t=>.cons r t
 |_,_,i+1,.cons q t=>.cons q (Vals.set r i t)
theorem Vals.append {xs ys:List V}{us ws:List Value}(h:Vals xs us) (s:Vals ys ws):Vals (xs++ys) (us++ws):=by
 induction h with
 |nil=>exact s
 |cons r t ih=>exact .cons r ih
theorem Vals.take:∀{xs:List V}{us:List Value}(n:Nat),Vals xs us->Vals (xs.take n) (us.take n)
 |_,_,0,_=>.nil
 |_,_,_+1,.nil=>.nil
 |_,_,n+1,.cons r t=>.cons r (Vals.take n t)
theorem Vals.drop:∀{xs:List V}{us:List Value}(n:Nat),Vals xs us->Vals (xs.drop n) (us.drop n)
 |_,_,0,r=>r
 |_,_,_+1,.nil=>.nil
 |_,_,n+1,.cons _ t=>Vals.drop n t
def RelO:Option V->Option Value->Prop
 |some v,some u=>RelV v u
 |none,none=>True
 |_,_=>False
def KV {κ:Type}:List (κ × V)->List (κ × Value)->Prop:=Paired λ(p:κ × V) (q:κ × Value)=>p.1=q.1/\RelV p.2 q.2
noncomputable def kV:Key->V
 |.inl i=>.int i
 |.inr x=>.str x
inductive HO where
 |lst (xs:List V)
 |tup (xs:List V)
 |dK (kvs:List (Key × V))|dT (kvs:List (List Key × V))
 |set (S:Int->Bool) (n:Nat)
 |ins (C dx:Addr) (fs:List (Str × V))
 |own (x:Addr)
 |xd (fs:List (Str × V))
 |met (f x:Addr)
 |rng (lo hi:Int)
 |frz (o:Obj) (u:HO)
 |tbl (ps:Array Value)
 |ext (φ:Heap->Prop)
abbrev Hp:=Addr->Option HO
noncomputable def upd (H:Hp) (a:Addr) (o:HO):Hp:=λ b=>if b=a then some o else H b
theorem zAB {H:Hp}{a:Addr}{o:HO}:upd H a o a=some o:=by unfold upd;rw[if_pos rfl]
theorem zAd {H:Hp}{a b:Addr}{o:HO}(h:b≠a):upd H a o b=H b:=by unfold upd;rw[if_neg h]
theorem ne_of {H:Hp}{a b:Addr}{o u:HO}(h:H a=some o) (h':H b=some u) (d:o≠u):a≠b:=by
 intro e;subst e;rw[h] at h';exact d (mG h')
theorem zAV {H:Hp}{a b:Addr}{o:HO}(h:H a=some o) (h':H b=none):a≠b:=by
 intro e;subst e;rw[h] at h';cases h'
section
variable (P:Program) (w:World)
def ObjOk (H:Hp) (h:Heap) (a:Addr):HO->Prop
 |.lst xs=>xs.length<=sizeLine/\∃(its:List Value) (n:Nat),Vals xs its/\h.get? a=some { cls:=.type "list", data:=.seq its.toArray n }
 |.tup xs=>xs.length<=sizeLine/\∃its:List Value,Vals xs its/\IsTup h a its.toArray
 |.dK kvs=>kvs.length<=sizeLine/\(a == sysModules)=false/\∃vs,KV kvs vs/\h.DictOf (zAo P w) a vs
 |.dT kvs=>kvs.length<=sizeLine/\(a == sysModules)=false/\∃xs:List (List Key × Addr × Value),
   Paired (λ(p:List Key × V) (q:List Key × Addr × Value)=>p.1=q.1/\H q.2.1=some (.tup (p.1.map kV))/\RelV p.2 q.2.2) kvs xs /\
   ∃o es ep,h.get? a=some o/\o.ExactDict/\o.data = .dict es ep/\es.toList=xs.map (entryOfKey (tupleKind (zAo P w)))/\(xs.map (·.1)).Nodup
 |.set S n=>h.SetOf (intKind P w) a S n
 |.ins C dx fs=>H dx=some (.own a)/\fs.length<=1000/\dx≠a/\h.get? a=some (W.instObj C dx) /\
   ∃mA,h.Ns1 dx mA/\(∀f,RelO (fs.lookup f) (mA f))/\PySem.Within mA (fs.map (·.1))
 |.own _=>∃o,h.get? a=some o
 |.xd fs=>∃mA,h.Ns1 a mA/\∀f,RelO (fs.lookup f) (mA f)
 |.rng lo hi=>∃t u v,h.get? a=some { cls:=.type "range", data:=.fields #[.int lo t,.int hi u,.int 1 v] }
 |.frz o u=>h.get? a=some o/\ObjOk H h a u
 |.tbl ps=>h.get? a=some { cls:=.none,data:=.fields ps }
 |.met f x=>h.get? a=some (W.methodObj (.ref f) (.ref x))
 |.ext φ=>φ h/\(∃o,h.get? a=some o)/\∀h1 h2:Heap,φ h1->(∀o,h1.get? a=some o->h2.get? a=some o)->φ h2
def HOk (H:Hp) (h:Heap):Prop:=∀a o,H a=some o->ObjOk P w H h a o
end
section
variable {P:Program}{w:World}{H H':Hp}{h h':Heap}{a:Addr}{o:HO}
theorem ObjOk.lt (x:ObjOk P w H h a o):a<h.objs.size:=by
 cases o with
 |lst xs=>obtain⟨_,_,_,_,e⟩:=x;exact lJ e
 |tup xs=>obtain⟨_,_,_,p⟩:=x;exact p.lt
 |dK kvs=>obtain⟨_,_,_,_,o,_,_,e,_⟩:=x;exact lJ e
 |dT kvs=>obtain⟨_,_,_,_,o,_,_,e,_⟩:=x;exact lJ e
 |set S n=>obtain⟨o,_,_,_,e,_⟩:=x;exact lJ e
 |ins C dx fs=>obtain⟨_,_,_,e,_⟩:=x;exact lJ e
 |own y=>obtain⟨_,e⟩:=x;exact lJ e
 |xd fs=>obtain⟨_,⟨_,_,_,e,_⟩,_⟩:=x;exact lJ e
 |rng lo hi=>obtain⟨_,_,_,e⟩:=x;exact lJ e
 |frz ob u=>obtain⟨e,_⟩:=x;exact lJ e
 |tbl ps=>exact lJ (show h.get? a=some _ from x)
 |met f y=>exact lJ (show h.get? a=some _ from x)
 |ext φ=>obtain⟨_,⟨_,e⟩,_⟩:=x;exact lJ e
theorem Paired.mapP {α β:Type}{F G:α->β->Prop}{l₁:List α}{l₂:List β}(h:Paired F l₁ l₂) (f:∀a b,F a b->G a b):Paired G l₁ l₂:=by
 induction h with
 |nil=>exact .nil
 |cons r t ih=>exact .cons (f _ _ r) ih
theorem ObjOk.stay (x:ObjOk P w H h a o) (k:∀b u,(b=a\/H b=some (.own a))->h.get? b=some u->h'.get? b=some u)
  (ho:∀b,H b=some (.own a)->H' b=some (.own a)) (ht:∀b xs,H b=some (.tup xs)->H' b=some (.tup xs)):ObjOk P w H' h' a o:=by
 induction o with
 |lst xs=>obtain⟨z,its,n,r,e⟩:=x;exact⟨z,its,n,r,k _ _ (.inl rfl) e⟩
 |tup xs=>obtain⟨z,its,r,ob,e,c⟩:=x;exact⟨z,its,r,ob,k _ _ (.inl rfl) e,c⟩
 |dK kvs=>obtain⟨z,y,vs,r,ob,es,ep,e,c⟩:=x;exact⟨z,y,vs,r,ob,es,ep,k _ _ (.inl rfl) e,c⟩
 |dT kvs =>
  obtain⟨z,y,xs,r,ob,es,ep,e,c⟩:=x;exact⟨z,y,xs,Paired.mapP r λ p q z=>⟨z.1,ht _ _ z.2.1,z.2.2⟩,ob,es,ep,k _ _ (.inl rfl) e,c⟩
 |set S n=>obtain⟨ob,es,ep,t,e,c⟩:=x;exact⟨ob,es,ep,t,k _ _ (.inl rfl) e,c⟩
 |ins C dx fs =>
  obtain⟨d,z,ne,e,mA,⟨od,es,ep,e2,c⟩,r⟩:=x;exact⟨ho _ d,z,ne,k _ _ (.inl rfl) e,mA,⟨od,es,ep,k _ _ (.inr d) e2,c⟩,r⟩
 |own y=>obtain⟨ob,e⟩:=x;exact⟨ob,k _ _ (.inl rfl) e⟩
 |xd fs=>obtain⟨mA,⟨od,es,ep,e,c⟩,r⟩:=x;exact⟨mA,⟨od,es,ep,k _ _ (.inl rfl) e,c⟩,r⟩
 |rng lo hi=>obtain⟨t,u,v,e⟩:=x;exact⟨t,u,v,k _ _ (.inl rfl) e⟩
 |frz ob u ih=>obtain⟨e,q⟩:=x;exact⟨k _ _ (.inl rfl) e,ih q⟩
 |tbl ps =>
  have e:h.get? a=some { cls:=.none,data:=.fields ps }:=x;show h'.get? a=some { cls:=.none,data:=.fields ps };exact k a _ (.inl rfl) e
 |met f y =>
  have e:h.get? a=some (W.methodObj (.ref f) (.ref y)):=x;show h'.get? a=some (W.methodObj (.ref f) (.ref y));exact k a _ (.inl rfl) e
 |ext φ=>obtain⟨p,⟨o,e⟩,st⟩:=x;exact⟨st _ _ p λ o q=>k _ _ (.inl rfl) q,⟨o,k _ _ (.inl rfl) e⟩,st⟩
theorem HOk.lt (x:HOk P w H h) (e:H a=some o):a<h.objs.size:=(x a o e).lt
theorem HOk.fresh (x:HOk P w H h) (e:h.objs.size<=a):H a=none:=by
 cases q:H a with
 |none=>rfl
 |some u=>exact absurd (mC (x.lt q) e) (Nat.lt_irrefl _)
theorem HOk.kept (x:HOk P w H h) (k:∀b u,h.get? b=some u->h'.get? b=some u):HOk P w H h':=λ a o e =>
 (x a o e).stay (λ b u Ω q=>k b u q) (λ Ω q=>q) λ Ω Ω q=>q
theorem HOk.laid (x:HOk P w H h) (k:∀b u,h.get? b=some u->h'.get? b=some u) (hp:h.objs.size<=a) (new:ObjOk P w (upd H a o) h' a o):HOk P w (upd H a o) h':=λ b u e=>by
 have hn:=x.fresh hp
 by_cases hb:b=a
 ·subst hb;rw[zAB] at e;cases e;exact new
 ·rw[zAd hb] at e
  exact(x b u e).stay (λ c v Ω q=>k c v q) (λ c q=>by rw[zAd (zAV q hn)];exact q) λ c xs q=>by rw[zAd (zAV q hn)];exact q
end
def Rd (H:Hp) (a:Addr) (u:HO):Prop:=H a=some u\/∃o,H a=some (.frz o u)
theorem Rd.ok {P:Program}{w:World}{H:Hp}{h:Heap}{a:Addr}{u:HO}(r:Rd H a u) (x:HOk P w H h):ObjOk P w H h a u:=by
 rcases r with r|⟨o,r⟩
 ·exact x a u r
 ·obtain⟨_,q⟩:=x a _ r
  exact q
def Mut:Option HO->Prop
 |some (.lst _)=>True
 |some (.dK _)=>True
 |some (.dT _)=>True
 |some (.set _ _)=>True
 |some (.ins _ _ _)=>True
 |some (.ext _)=>True
 |_=>False
section
variable {P:Program}{w:World}{H:Hp}{h h':Heap}{x e:Addr}{o':HO}
theorem HOk.write (ok:HOk P w H h) (mu:Mut (H x)) (he:e=x\/H e=some (.own x)) (k:∀b u,b≠e->h.get? b=some u->h'.get? b=some u) (heo:∃u,h'.get? e=some u)
  (new:ObjOk P w (upd H x o') h' x o'):HOk P w (upd H x o') h':=λ b u q=>by
 have nown:∀c y,H c=some (.own y)->c≠x:=λ c y r z=>by subst z;rw[r] at mu;exact mu
 have ntup:∀c xs,H c=some (.tup xs)->c≠x:=λ c xs r z=>by subst z;rw[r] at mu;exact mu
 by_cases hb:b=x
 ·subst hb;rw[zAB] at q;cases q;exact new
 ·rw[zAd hb] at q
  by_cases hbe:b=e
  ·have q':H b=some (.own x):=by
    rcases he with z|z
    ·exact absurd (hbe.trans z) hb
    ·rw[hbe];exact z
   rw[q] at q';cases q';obtain⟨v,hv⟩:=heo;exact⟨v,by rw[hbe];exact hv⟩
  ·refine(ok b u q).stay (λ c v hc r=>k c v ?_ r) (λ c r=>by rw[zAd (nown c b r)];exact r) λ c xs r=>by rw[zAd (ntup c xs r)];exact r
   rcases hc with rfl|hc
   ·exact hbe
   ·rintro rfl
    rcases he with z|z
    ·exact nown c b hc z
    ·rw[hc] at z;cases z;exact hb rfl
end
structure Un (fs ex:List Addr) (H H':Hp) (h h':Heap):Prop where
 keep:∀b o,h.get? b=some o->H b=none->b∉fs->b∉ex->h'.get? b=some o
 slot:∀b o,h.get? b=some o->H b=none->b∈fs->b∉ex->∃sl,h'.get? b=some { o with slots:=sl }
 free:∀b o,h.get? b=some o->H b=none->b∉ex->H' b=none
 there:∀b o,h.get? b=some o->b∉ex->∃o',h'.get? b=some o'
 tups:∀b xs,H b=some (.tup xs)->H' b=some (.tup xs)
 frzs:∀b o u,H b=some (.frz o u)->H' b=some (.frz o u)
 tbls:∀b ps,H b=some (.tbl ps)->∃more,H' b=some (.tbl (ps++more))
section
variable {fs fs' ex ex':List Addr}{H H1 H2:Hp}{h h1 h2 h':Heap}{a x e:Addr}{o:HO}
theorem Un.any (u:Un fs ex H H1 h h1) {b:Addr}{ob:Obj}(q:h.get? b=some ob) (n:H b=none) (hx:b∉ex):∃sl,h1.get? b=some { ob with slots:=sl }:=by
 by_cases hb:b∈fs
 ·exact u.slot b ob q n hb hx
 ·exact⟨ob.slots,u.keep b ob q n hb hx⟩
theorem Un.kept (k:∀b u,h.get? b=some u->h'.get? b=some u):Un fs ex H H h h' :=
 ⟨λ b ob q Ω Ω Ω=>k b ob q,λ b ob q Ω Ω Ω=>⟨ob.slots,k b ob q⟩,λ Ω Ω Ω n Ω=>n,λ b ob q Ω=>⟨ob,k b ob q⟩,λ Ω Ω q=>q,λ Ω Ω Ω q=>q,λ Ω ps q=>⟨#[],by rw[q];simp⟩⟩
theorem Un.refl:Un fs ex H H h h:=Un.kept λ Ω Ω q=>q
theorem Un.laid (k:∀b u,h.get? b=some u->h'.get? b=some u) (hp:h.objs.size<=a) (hn:H a=none):Un fs ex H (upd H a o) h h' where
 keep:=λ b u q Ω Ω Ω=>k b u q
 slot:=λ b u q Ω Ω Ω=>⟨u.slots,k b u q⟩
 free:=λ b u q n Ω=>by rw[zAd (Nat.ne_of_lt (Nat.lt_of_lt_of_le (Heap.lt_size q) hp))];exact n
 there:=λ b u q Ω=>⟨u,k b u q⟩
 tups:=λ b xs q=>by rw[zAd (zAV q hn)];exact q
 frzs:=λ b u xs q=>by rw[zAd (zAV q hn)];exact q
 tbls:=λ b ps q=>⟨#[],by rw[zAd (zAV q hn),q];simp⟩
theorem Un.write (mu:Mut (H x)) (he:e=x\/H e=some (.own x)) (k:∀b u,b≠e->h.get? b=some u->h'.get? b=some u) (heo:∃u,h'.get? e=some u):Un fs ex H (upd H x o) h h':=by
 have hx:∀b,H b=none->b≠x:=λ b n z=>by subst z;rw[n] at mu;exact mu
 have hb:∀b,H b=none->b≠e:=λ b n z=>by
  subst z;rcases he with r|r
  ·exact hx b n r
  ·rw[n] at r;cases r
 have hm:∀b u,H b=some u->¬Mut (some u)->b≠x:=λ b u q nm z=>by subst z;rw[q] at mu;exact nm mu
 refine⟨λ b u q n Ω Ω=>k b u (hb b n) q,λ b u q n Ω Ω=>⟨u.slots,k b u (hb b n) q⟩,λ b u q n Ω=>by rw[zAd (hx b n)];exact n,λ b u q Ω=>?_,
  λ b xs q=>by rw[zAd (hm b _ q λ z=>z)];exact q,λ b u xs q=>by rw[zAd (hm b _ q λ z=>z)];exact q,λ b ps q=>⟨#[],by rw[zAd (hm b _ q λ z=>z),q];simp⟩⟩
 by_cases hbe:b=e
 ·subst hbe;exact heo
 ·exact⟨u,k b u hbe q⟩
end
noncomputable def trk (h:Heap) (H:Hp):List Addr:=(List.range h.objs.size).filter λ a=>(H a).isSome
noncomputable def hidT (h:Heap) (H:Hp):Heap:=W.hideAll h (trk h H)
theorem zJl (h:Heap) (H:Hp):(hidT h H).objs.size=h.objs.size:=W.hideAll_size _ _
theorem zKm {h:Heap}{H:Hp}{b:Addr}{o:Obj}(e:h.get? b=some o) (n:H b=none):(hidT h H).get? b=some o :=
 W.hideAll_get _ e λ hm=>by
  have q:(H b).isSome=true:=(List.mem_filter.mp hm).2;rw[n] at q;simp at q
theorem zL0 {h:Heap}{H:Hp}{b:Addr}{o:Obj}(e:(hidT h H).get? b=some o):h.get? b=some o/\H b=none:=by
 have e':h.get? b=some o:=W.of_hideAll (trk h H) e;refine⟨e',?_⟩;cases q:H b with
 |none=>rfl
 |some x =>
  have hm:b∈trk h H:=List.mem_filter.mpr ⟨List.mem_range.mpr (lJ e'),by simp[q]⟩;have z:(hidT h H).get? b=none:=W.hideAll_none (trk h H) hm;rw[z] at e;cases e
noncomputable def zMF (g h:Heap) (L:Addr):List 86:=(List.range h.objs.size).filterMap λ a=>if a=L\/(g.get? a).isSome=true then none else (h.get? a).map λ o=>(a,o)
noncomputable def rest (g h:Heap) (L d:Addr):List 86:=(zMF g h L).filter λ p=>decide (p.1≠d)
structure Mod (K:W.Frag) (mg:Str->Option Value) (base:Heap):Prop where
 kin:K.In base
 glob:base.Ns mainGlobals mg
 blt:∃mb,base.Ns builtinsNs mb/\∀x:Str,x ≠ "__name__" -> mb x=bootBuiltins x
 nolimit:base.NoLimit
structure Cx where
 prog:Program
 w:World
 K:W.Frag
 mg:Str->Option Value
 base:Heap
 A:Around
 N:List Str
 s₀:Shared
 H₀:Hp
 env:Env
 outer:List Env
 stack:List Env
 ex:List Addr
 fn:Str->Bool
 calm:Bool
 pn:List 86
 xe:Value->Shared->Prop
def frs (l:List Env):List Addr:=l.filterMap (·.frame)
abbrev Cx.fs (X:Cx):List Addr:=frs X.outer
def Vis (sc:Scope) (x:Str):Prop:=sc.names.lookup x=some .local\/sc.names.lookup x=some .cell\/sc.names.lookup x=some .free
def Loc (sc:Scope) (x:Str):Prop:=sc.names.lookup x=some .local\/sc.names.lookup x=some .cell
def Look (env:Env) (h:Heap) (m:Str->Option Value) (x:Str) (u:Value):Prop :=
 (env.kindOf x=some .local/\m x=some u)\/((env.kindOf x=some .cell\/env.kindOf x=some .free)/\∃c,env.cells.lookup x=some c/\h.IsCell c (some u))
structure Cx.Ok (X:Cx):Prop where
 mod:Mod X.K X.mg X.base
 kind:X.env.scope.kind = .function
 glob:X.env.globals=mainGlobals
 blt:X.env.builtins=builtinsNs
 above:X.s₀.heap.objs.size<=X.env.locals
 inj:∀x y c,X.env.cells.lookup x=some c->X.env.cells.lookup y=some c->x=y
 has:∀x,(X.env.kindOf x=some .cell\/X.env.kindOf x=some .free)->∃c,X.env.cells.lookup x=some c
 cab:∀x c,X.fn x=true->X.env.cells.lookup x=some c->X.s₀.heap.objs.size<=c
 hd:X.calm=true->X.A.handled=none
 frames:X.A.frames=some X.stack
 stk:X.stack=X.outer\/(X.stack=X.env::X.outer/\X.env.frame=some X.env.locals)
 exf:∀b∈X.ex,b≠X.env.locals/\∀x c,X.env.cells.lookup x=some c->c≠b
 bs:∀b o,X.base.get? b=some o->X.s₀.heap.get? b=some o/\X.H₀ b=none
 bsz:X.base.objs.size<=X.s₀.heap.objs.size
 noex:∀b o,X.base.get? b=some o->b∉X.ex
 exfs:∀b∈X.ex,b∉X.fs
 funs:X.s₀.heap.FunFrames X.base X.outer
 frf:∀b∈X.fs,X.H₀ b=none
structure Inv (X:Cx) (jP:List (Addr × Obj)) (σ:List (Option V)) (H:Hp) (s:Shared):Prop where
 ok:X.Ok
 os:s.os=X.s₀.os
 bare:AllBare s.gens
 base:Un X.fs X.ex X.H₀ H X.s₀.heap s.heap
 loc:∃m,s.heap.Ns X.env.locals m/\∀(i:Nat) (x:Str) (v:V),X.N[i]?=some x->σ[i]?=some (some v)->Vis X.env.scope x->∃u,RelV v u/\Look X.env s.heap m x u
 cell:∀x c,X.env.cells.lookup x=some c->∃v,s.heap.IsCell c v
 free:H X.env.locals=none
 freeC:∀x c,X.env.cells.lookup x=some c->H c=none
 pin:∀p∈X.pn++jP,s.heap.get? p.1=some p.2/\H p.1=none/\p.1≠X.env.locals/\p.1∉X.fs/\∀v,p.2.data ≠ .cell v
 hok:HOk X.prog X.w H s.heap
 len:σ.length=X.N.length
section
variable {X:Cx}{jP:List (Addr × Obj)}{σ:List (Option V)}{H H':Hp}{s:Shared}{h':Heap}
theorem Cx.Ok.nofr (ok:X.Ok) {b:Addr}{o:Obj}(e:X.base.get? b=some o):b∉X.fs:=λ hb=>by
 have:=(ok.funs.mem hb).1;rw[e] at this;cases this
theorem Inv.bs (I:Inv X jP σ H s):∀b o,X.base.get? b=some o->s.heap.get? b=some o/\H b=none:=λ b o e =>
 ⟨I.base.keep b o (I.ok.bs b o e).1 (I.ok.bs b o e).2 (I.ok.nofr e) (I.ok.noex b o e),I.base.free b o (I.ok.bs b o e).1 (I.ok.bs b o e).2 (I.ok.noex b o e)⟩
theorem Inv.bk (I:Inv X jP σ H s):∀b o,X.base.get? b=some o->s.heap.get? b=some o:=λ b o e=>(I.bs b o e).1
theorem Inv.mod (I:Inv X jP σ H s):Mod X.K X.mg X.base:=I.ok.mod
theorem Inv.kIn (I:Inv X jP σ H s):X.K.In s.heap:=I.ok.mod.kin.keeps I.bk
theorem Inv.lt (I:Inv X jP σ H s):X.env.locals<s.heap.objs.size:=let ⟨_,hn,_⟩:=I.loc;hn.lt
theorem Inv.sz (I:Inv X jP σ H s):X.s₀.heap.objs.size<=s.heap.objs.size:=mI I.ok.above (Nat.le_of_lt I.lt)
theorem Inv.nofs (I:Inv X jP σ H s) {a:Addr}(h:s.heap.objs.size<=a):a∉X.fs:=λ hb=>by
 obtain⟨_,o,ho,_⟩:=I.ok.funs.mem hb;exact absurd (mC (lJ ho) (mI I.sz h)) (Nat.lt_irrefl _)
theorem Inv.cne (I:Inv X jP σ H s):∀x c,X.env.cells.lookup x=some c->c≠X.env.locals:=λ x c e z=>by
 obtain⟨v,o,ho,hd⟩:=I.cell x c e;obtain⟨m,⟨o',es,ep,ho',hd',_⟩,_⟩:=I.loc;rw[z,ho'] at ho;cases ho;rw[hd'] at hd;cases hd
theorem Inv.funs (I:Inv X jP σ H s):s.heap.FunFrames X.base X.outer:=by
 have all:∀(l:List Env),(∀b∈frs l,b∈X.fs)->X.s₀.heap.FunFrames X.base l->s.heap.FunFrames X.base l:=by
  intro l
  induction l with
  |nil=>intro _ _;trivial
  |cons env r ih =>
   intro hs hl;obtain⟨hk,⟨L,o,hf,hn,ho,hd⟩,hr⟩:=hl;have hL:L∈X.fs:=hs L (by unfold frs;rw[List.filterMap_cons,hf];exact lP);obtain⟨sl,e⟩:=I.base.slot L o ho (I.ok.frf L hL) hL λ z=>I.ok.exfs L z hL;exact⟨hk,⟨L,_,hf,hn,e,hd⟩,ih (λ b hb=>hs b (by unfold frs;rw[List.filterMap_cons,hf];exact lQ _ hb)) hr⟩
 exact all X.outer (λ Ω hb=>hb) I.ok.funs
theorem Inv.stack (I:Inv X jP σ H s):s.heap.FunFrames X.base X.stack:=by
 rcases I.ok.stk with e|⟨e,hf⟩
 ·rw[e];exact I.funs
 ·rw[e]
  obtain⟨m,hn,_⟩:=I.loc;refine .cons (by rw[I.ok.kind];decide) hf hn ?_ I.funs;exact Heap.get?_none_of_le (mI I.ok.bsz I.ok.above)
theorem Inv.stkSub (I:Inv X jP σ H s):∀b∈frs X.stack,b∈X.env.locals::X.fs:=λ b hb=>by
 rcases I.ok.stk with e|⟨e,hf⟩
 ·rw[e] at hb;exact lQ _ hb
 ·rw[e] at hb
  unfold frs at hb;rw[List.filterMap_cons,hf] at hb;exact hb
theorem Inv.stkFree (I:Inv X jP σ H s):∀b∈frs X.stack,H b=none:=λ b hb=>by
 rcases lO.mp (I.stkSub b hb) with e|hb
 ·rw[e];exact I.free
 ·obtain⟨_,o,ho,_⟩:=I.ok.funs.mem hb
  exact I.base.free b o ho (I.ok.frf b hb) λ z=>I.ok.exfs b z hb
theorem Inv.step {g':Array GenState}{t':Nat}{d':Drawn}{ch:List Addr}(I:Inv X jP σ H s)
  (hch:∀b∈ch,(b∈X.ex\/X.s₀.heap.objs.size<=b)/\b≠X.env.locals/\(∀x c,X.env.cells.lookup x=some c->c≠b)/\∀p∈X.pn++jP,p.1≠b)
  (keep:∀b o,b≠X.env.locals->b∉X.fs->b∉ch->s.heap.get? b=some o->H b=none->h'.get? b=some o)
  (slot:∀b o,b≠X.env.locals->b∈X.fs->b∉ch->s.heap.get? b=some o->H b=none->∃sl,h'.get? b=some { o with slots:=sl }) (free:∀b o,b∉ch->s.heap.get? b=some o->H b=none->H' b=none)
  (there:∀b o,b∉ch->s.heap.get? b=some o->∃o',h'.get? b=some o')
  (tups:∀b xs,H b=some (.tup xs)->H' b=some (.tup xs)) (frzs:∀b o u,H b=some (.frz o u)->H' b=some (.frz o u)) (tbls:∀b ps,H b=some (.tbl ps)->∃more,H' b=some (.tbl (ps++more)))
  (ns:∀m,s.heap.Ns X.env.locals m->h'.Ns X.env.locals m) (hok:HOk X.prog X.w H' h') (hg:AllBare g') :
  Inv X jP σ H' { s with heap:=h',gens:=g',drawn:=d',toks:=t' }:=by
 have neL:∀b o,X.s₀.heap.get? b=some o->b≠X.env.locals:=λ b o e=>lT (mC (lJ e) I.ok.above)
 have neC:∀b o,X.s₀.heap.get? b=some o->b∉X.ex->b∉ch:=λ b o e hx hb=>by
  rcases (hch b hb).1 with z|z
  ·exact hx z
  ·exact absurd (mC (lJ e) z) (Nat.lt_irrefl _)
 have cellK:∀x c,X.env.cells.lookup x=some c->∀v,s.heap.IsCell c v->h'.IsCell c v:=λ x c e v ⟨o,ho,hd⟩=>by
  have nch:c∉ch:=λ z=>(hch c z).2.2.1 x c e rfl
  by_cases hc:c∈X.fs
  ·obtain⟨sl,q⟩:=slot c o (I.cne x c e) hc nch ho (I.freeC x c e)
   exact⟨_,q,hd⟩
  ·exact⟨o,keep c o (I.cne x c e) hc nch ho (I.freeC x c e),hd⟩
 refine⟨I.ok,I.os,hg,⟨λ b o e n hb hx=>?_,λ b o e n hb hx=>?_,λ b o e n hx=>?_,λ b o e hx=>?_,λ b xs e=>tups b xs (I.base.tups b xs e),λ b o xs e=>frzs b o xs (I.base.frzs b o xs e),λ b ps e=>?_⟩,?_,λ x c e=>?_,?_,λ x c e=>?_,λ p hp=>?_,hok,I.len⟩
 ·exact keep b o (neL b o e) hb (neC b o e hx) (I.base.keep b o e n hb hx) (I.base.free b o e n hx)
 ·obtain⟨sl,e1⟩:=I.base.slot b o e n hb hx
  obtain⟨sl',e2⟩:=slot b _ (neL b o e) hb (neC b o e hx) e1 (I.base.free b o e n hx);exact⟨sl',e2⟩
 ·obtain⟨o',e1⟩:=I.base.there b o e hx
  exact free b o' (neC b o e hx) e1 (I.base.free b o e n hx)
 ·obtain⟨o',e1⟩:=I.base.there b o e hx
  exact there b o' (neC b o e hx) e1
 ·obtain⟨m1,e1⟩:=I.base.tbls b ps e
  obtain⟨m2,e2⟩:=tbls b _ e1;exact⟨m1++m2,by rw[e2,Array.append_assoc]⟩
 ·obtain⟨m,hn,hl⟩:=I.loc
  refine⟨m,ns m hn,λ i x v e1 e2 e3=>?_⟩;obtain⟨u,r,l⟩:=hl i x v e1 e2 e3;refine⟨u,r,?_⟩;rcases l with l|⟨k,c,e,z⟩
  ·exact .inl l
  ·exact .inr ⟨k,c,e,cellK x c e _ z⟩
 ·obtain⟨v,z⟩:=I.cell x c e
  exact⟨v,cellK x c e v z⟩
 ·obtain⟨m,⟨o,_,_,ho,_⟩,_⟩:=I.loc
  exact free _ o (λ z=>(hch _ z).2.1 rfl) ho I.free
 ·obtain⟨v,o,ho,hd⟩:=I.cell x c e
  exact free c o (λ z=>(hch c z).2.2.1 x c e rfl) ho (I.freeC x c e)
 ·obtain⟨e,n,ne,nf,d⟩:=I.pin p hp
  have nch:p.1∉ch:=λ z=>(hch p.1 z).2.2.2 p hp rfl;exact⟨keep p.1 p.2 ne nf nch e n,free p.1 p.2 nch e n,ne,nf,d⟩
theorem Inv.un {t':Nat}(I:Inv X jP σ H s) (u:Un X.fs [] H H' s.heap h') (hok:HOk X.prog X.w H' h'):Inv X jP σ H' { s with heap:=h',toks:=t' }:=by
 obtain⟨m,⟨o,es,ep,ho,r⟩,_⟩:=id I.loc;obtain⟨sl,hL⟩:=u.any ho I.free 68
 exact I.step (g':=s.gens) (d':=s.drawn) (ch:=[]) (λ Ω z=>nomatch z) (λ b o Ω hb Ω e n=>u.keep b o e n hb 68) (λ b o Ω hb Ω e n=>u.slot b o e n hb 68) (λ b o Ω e n=>u.free b o e n 68) (λ b o Ω e=>u.there b o e 68) u.tups u.frzs u.tbls (λ m' hm=>by
  obtain⟨o',es',ep',ho',r'⟩:=hm;rw[ho] at ho';cases ho';exact⟨_,es',ep',hL,r'⟩) hok I.bare
theorem Inv.call {g':Array GenState}{t':Nat}{d':Drawn}{ch:List Addr}(I:Inv X jP σ H s) (u:Un (frs X.stack) ch H H' s.heap h') (hok:HOk X.prog X.w H' h') (hg:AllBare g')
  (hch:∀b∈ch,(b∈X.ex\/X.s₀.heap.objs.size<=b)/\b≠X.env.locals/\(∀x c,X.env.cells.lookup x=some c->c≠b)/\∀p∈X.pn++jP,p.1≠b) :
  Inv X jP σ H' { s with heap:=h',gens:=g',drawn:=d',toks:=t' }:=by
 obtain⟨m,⟨o,es,ep,ho,r⟩,_⟩:=id I.loc;obtain⟨sl,hL⟩:=u.any ho I.free λ z=>(hch _ z).2.1 rfl
 exact I.step (ch:=ch) hch (λ b o hL hb hc e n=>u.keep b o e n (λ z=>(lO.mp (I.stkSub b z)).elim hL hb) hc) (λ b o Ω Ω hc e n=>u.any e n hc) (λ b o hc e n=>u.free b o e n hc) (λ b o hc e=>u.there b o e hc) u.tups u.frzs u.tbls (λ m' hm=>by
  obtain⟨o',es',ep',ho',r'⟩:=hm;rw[ho] at ho';cases ho';exact⟨_,es',ep',hL,r'⟩) hok hg
theorem Inv.turned {t':Nat}{it:Addr}(I:Inv X jP σ H s) (k:∀b o,b≠it->s.heap.get? b=some o->h'.get? b=some o) (hn:H it=none) (hL:it≠X.env.locals)
  (h1:it∈X.ex\/X.s₀.heap.objs.size<=it) (h2:∀x c,X.env.cells.lookup x=some c->c≠it) (h3:∀p∈X.pn++jP,p.1≠it):Inv X jP σ H { s with heap:=h',toks:=t' }:=by
 have nit:∀b u,H b=some u->b≠it:=λ b u e z=>by rw[z,hn] at e;cases e
 refine I.step (g':=s.gens) (d':=s.drawn) (ch:=[it]) (λ b hb=>?_) (λ b o Ω Ω hc e Ω=>k b o (λ z=>hc (by simp[z])) e) (λ b o Ω Ω hc e Ω=>⟨o.slots,k b o (λ z=>hc (by simp[z])) e⟩) (λ Ω Ω Ω Ω n=>n)
  (λ b o hc e=>⟨o,k b o (λ z=>hc (by simp[z])) e⟩) (λ Ω Ω e=>e) (λ Ω Ω Ω e=>e) (λ b ps e=>⟨#[],by rw[e];simp⟩) (λ m hm=>?_) (λ b u e=>?_) I.bare
 ·have e:b=it:=by simpa using hb
  subst e;exact⟨h1,hL,h2,h3⟩
 ·obtain⟨o,es,ep,ho,r⟩:=hm
  exact⟨o,es,ep,k _ o (Ne.symm hL) ho,r⟩
 ·refine(I.hok b u e).stay (λ c v hc q=>k c v ?_ q) (λ Ω q=>q) λ Ω Ω q=>q
  rcases hc with z|z
  ·rw[z];exact nit b u e
  ·exact nit c _ z
theorem Inv.tok (I:Inv X jP σ H s) (t:Nat):Inv X jP σ H { s with toks:=t }:=I.un (h':=s.heap) (t':=t) Un.refl I.hok
theorem Inv.kept {t':Nat}(I:Inv X jP σ H s) (k:∀b u,s.heap.get? b=some u->h'.get? b=some u):Inv X jP σ H { s with heap:=h',toks:=t' }:=I.un (Un.kept k) (I.hok.kept k)
theorem Inv.laid {a:Addr}{o:HO}{t':Nat}(I:Inv X jP σ H s) (k:∀b u,s.heap.get? b=some u->h'.get? b=some u) (hp:s.heap.objs.size<=a) (new:ObjOk X.prog X.w (upd H a o) h' a o) :
  Inv X jP σ (upd H a o) { s with heap:=h',toks:=t' }:=I.un (Un.laid k hp (I.hok.fresh hp)) (I.hok.laid k hp new)
theorem Inv.write {x e:Addr}{o:HO}{t':Nat}(I:Inv X jP σ H s) (mu:Mut (H x)) (he:e=x\/H e=some (.own x)) (k:∀b u,b≠e->s.heap.get? b=some u->h'.get? b=some u) (heo:∃u,h'.get? e=some u)
  (new:ObjOk X.prog X.w (upd H x o) h' x o):Inv X jP σ (upd H x o) { s with heap:=h',toks:=t' }:=I.un (Un.write mu he k heo) (I.hok.write mu he k heo new)
theorem Inv.weak {σ':List (Option V)}(I:Inv X jP σ H s) (hl:σ'.length=σ.length) (w:∀(i:Nat) v,σ'[i]?=some (some v)->σ[i]?=some (some v)):Inv X jP σ' H s :=
 ⟨I.ok,I.os,I.bare,I.base,let ⟨m,hn,hl'⟩:=I.loc;⟨m,hn,λ i x v e1 e2 e3=>hl' i x v e1 (w i v e2) e3⟩,I.cell,I.free,I.freeC,I.pin,I.hok,hl.trans I.len⟩
theorem Inv.pins_of {pins':List 86}(I:Inv X jP σ H s) (h:∀p∈pins',s.heap.get? p.1=some p.2/\H p.1=none/\p.1≠X.env.locals/\p.1∉X.fs/\∀v,p.2.data ≠ .cell v):Inv X pins' σ H s :=
 ⟨I.ok,I.os,I.bare,I.base,I.loc,I.cell,I.free,I.freeC,λ p hp=>(lM.mp hp).elim (λ z=>I.pin p (mH _ z)) (h p),I.hok,I.len⟩
theorem zHb {N:List Str}(hN:N.Nodup) {i j:Nat}{x:Str}(a:N[i]?=some x) (b:N[j]?=some x):i=j:=by
 obtain⟨h1,e1⟩:=lK.mp a;obtain⟨h2,e2⟩:=lK.mp b;exact(List.getElem_inj hN).mp (e1.trans e2.symm)
theorem zFo {M:Model}{A:Around}{E:XQ}{i:Nat}{x:Str}{v:V}{u:Value}{Q:Unit->Shared->Prop}(I:Inv X jP σ H s) (hN:X.N.Nodup) (hi:X.N[i]?=some x) (hx:Loc X.env.scope x) (r:RelV v u)
  (h:∀s',Inv X jP (σ.set i (some v)) H s'->(∃a,Heap.SameBut a s.heap s'.heap/\(a=X.env.locals\/X.env.cells.lookup x=some a))->Q () s') (hf:X.fn x=true\/X.env.scope.names.lookup x=some .local:=by first|exact .inl rfl|exact .inr rfl|assumption):wpAny M A (storeName X.env x u) Q E s:=by
 obtain⟨m,hn,hl⟩:=id I.loc;have hcls:(X.env.scope.kind == .class || (X.env.scope.kind == .module && X.env.locals != X.env.globals))=false:=by rw[I.ok.kind];rfl
 have hiσ:i<σ.length:=by rw[I.len];exact(lK.mp hi).1
 have cne:=I.cne
 have tracked:∀{a:Addr}{h':Heap},(∃o,s.heap.get? a=some o/\H a=none)->Heap.SameBut a s.heap h'->HOk X.prog X.w H h':=λ{a h'} ha hs b ob e=>by
  obtain⟨_,_,hfree⟩:=ha;refine(I.hok b ob e).stay (λ c w' hc q=>(hs.2 c ?_).trans q) (λ Ω q=>q) λ Ω Ω q=>q;rintro rfl;rcases hc with rfl|hc
  ·rw[hfree] at e;cases e
  ·rw[hfree] at hc;cases hc
 rcases hx with hk|hk
 ·refine wpAny_storeName_local hk hn (λ h' hn' hs=>?_) hcls
  obtain⟨oL,_,_,hoL,_⟩:=id hn;refine h _ ⟨I.ok,I.os,I.bare,⟨λ b o e n hb hx=>?_,λ b o e n hb hx=>?_,I.base.free,λ b o e hx=>?_,I.base.tups,I.base.frzs,I.base.tbls⟩,⟨_,hn',λ j y v' e1 e2 e3=>?_⟩,λ y c e=>?_,I.free,I.freeC,λ p hp=>?_,tracked ⟨oL,hoL,I.free⟩ hs,by simpa using I.len⟩ ⟨_,hs,.inl rfl⟩
  ·exact(hs.2 b (lT (mC (lJ e) I.ok.above))).trans (I.base.keep b o e n hb hx)
  ·obtain⟨sl,e1⟩:=I.base.slot b o e n hb hx
   exact⟨sl,(hs.2 b (lT (mC (lJ e) I.ok.above))).trans e1⟩
  ·obtain⟨o',e1⟩:=I.base.there b o e hx
   exact⟨o',(hs.2 b (lT (mC (lJ e) I.ok.above))).trans e1⟩
  ·by_cases hj:j=i
   ·subst hj
    rw[hi] at e1;cases e1;rw[List.getElem?_set_self hiσ] at e2;cases e2;exact⟨u,r,.inl ⟨hk,by simp⟩⟩
   ·rw[List.getElem?_set_ne (Ne.symm hj)] at e2
    obtain⟨u',r',q⟩:=hl j y v' e1 e2 e3;refine⟨u',r',?_⟩;rcases q with ⟨k,e⟩|⟨k,c,e,z⟩
    ·refine .inl ⟨k,?_⟩
     have:y≠x:=λ e=>hj (zHb hN e1 (e▸hi));simp[this,e]
    ·exact .inr ⟨k,c,e,z.sameBut hs (cne y c e)⟩
  ·obtain⟨w',z⟩:=I.cell y c e
   exact⟨w',z.sameBut hs (cne y c e)⟩
  ·obtain⟨e,n,ne,nf,d⟩:=I.pin p hp
   exact⟨(hs.2 p.1 ne).trans e,n,ne,nf,d⟩
 ·have hfn:X.fn x=true:=by
   rcases hf with z|z
   ·exact z
   ·rw[z] at hk;cases hk
  obtain⟨c,hc⟩:=I.ok.has x (.inl hk);obtain⟨w',z⟩:=I.cell x c hc;refine wpAny_storeName_cell I.ok.kind hk hc z (λ h' hc' hs=>?_);obtain⟨oc,hoc,hocd⟩:=id z;refine h { s with heap:=h' } ⟨I.ok,I.os,I.bare,⟨λ b o e n hb hx=>?_,λ b o e n hb hx=>?_,I.base.free,λ b o e hx=>?_,I.base.tups,I.base.frzs,I.base.tbls⟩,⟨m,hn.sameBut hs (Ne.symm (cne x c hc)),λ j y v' e1 e2 e3=>?_⟩,λ y c' e=>?_,I.free,I.freeC,λ p hp=>?_,tracked ⟨oc,hoc,I.freeC x c hc⟩ hs,by simpa using I.len⟩ ⟨c,hs,.inr hc⟩
  ·exact(hs.2 b (lT (mC (lJ e) (I.ok.cab x c hfn hc)))).trans (I.base.keep b o e n hb hx)
  ·obtain⟨sl,e1⟩:=I.base.slot b o e n hb hx
   exact⟨sl,(hs.2 b (lT (mC (lJ e) (I.ok.cab x c hfn hc)))).trans e1⟩
  ·obtain⟨o',e1⟩:=I.base.there b o e hx
   exact⟨o',(hs.2 b (lT (mC (lJ e) (I.ok.cab x c hfn hc)))).trans e1⟩
  ·by_cases hj:j=i
   ·subst hj
    rw[hi] at e1;cases e1;rw[List.getElem?_set_self hiσ] at e2;cases e2;exact⟨u,r,.inr ⟨.inl hk,c,hc,hc'⟩⟩
   ·rw[List.getElem?_set_ne (Ne.symm hj)] at e2
    obtain⟨u',r',q⟩:=hl j y v' e1 e2 e3;refine⟨u',r',?_⟩;rcases q with q|⟨k,c',e,z'⟩
    ·exact .inl q
    ·refine .inr ⟨k,c',e,z'.sameBut hs ?_⟩
     rintro rfl;exact hj (zHb hN e1 (I.ok.inj _ _ _ e hc▸hi))
  ·by_cases hcc:c'=c
   ·subst hcc;exact⟨_,hc'⟩
   ·obtain⟨w2,z2⟩:=I.cell y c' e
    exact⟨w2,z2.sameBut hs hcc⟩
  ·obtain⟨e,n,ne,nf,d⟩:=I.pin p hp
   refine⟨(hs.2 p.1 ?_).trans e,n,ne,nf,d⟩;intro q;rw[q,hoc] at e;have q':oc=p.2:=mG e;exact d w' (by rw[←q'];exact hocd)
theorem zHF {M:Model}{A:Around}{E:XQ}{i:Nat}{x:Str}{v:V}{u:Value}{Q:Unit->Shared->Prop}(I:Inv X jP σ H s) (hN:X.N.Nodup) (hi:X.N[i]?=some x) (hx:Loc X.env.scope x) (r:RelV v u)
  (h:∀s',Inv X jP (σ.set i (some v)) H s'->Q () s') (hf:X.fn x=true\/X.env.scope.names.lookup x=some .local:=by first|exact .inl rfl|exact .inr rfl|assumption):wpAny M A (storeName X.env x u) Q E s :=
 zFo I hN hi hx r (λ s' I' Ω=>h s' I') hf
theorem Inv.call' {s':Shared}{ch:List Addr}(I:Inv X jP σ H s) (ho:s'.os=s.os) (u:Un (frs X.stack) ch H H' s.heap s'.heap) (hok:HOk X.prog X.w H' s'.heap) (hg:AllBare s'.gens)
  (hch:∀b∈ch,(b∈X.ex\/X.s₀.heap.objs.size<=b)/\b≠X.env.locals/\(∀x c,X.env.cells.lookup x=some c->c≠b)/\∀p∈X.pn++jP,p.1≠b):Inv X jP σ H' s':=by
 obtain⟨h',g',d',t',o'⟩:=s';have e:o'=s.os:=ho;subst e;exact I.call (g':=g') (t':=t') (d':=d') u hok hg hch
end
abbrev XK:=Value->Option Addr->Hp->Prop
abbrev St:=List (Option V)
abbrev VK:=V->Hp->Prop
abbrev TE:=St->Hp->VK->Prop
abbrev TT:=St->Hp->(Bool->Hp->Prop)->Prop
abbrev TA:=St->Hp->(List V->Hp->Prop)->Prop
structure Ends where
 nx:St->Hp->Prop
 rt:VK
 bk:St->Hp->Prop:=λ Ω Ω=>False
 ct:St->Hp->Prop:=λ Ω Ω=>False
abbrev TS:=Ends->St->Hp->Prop
def EP (X:Cx) (jP:List 86) (σ:St) (Q:VK) (u:Value) (s':Shared):Prop:=∃v H',Inv X jP σ H' s'/\RelV v u/\Q v H'
def TP (X:Cx) (jP:List 86) (σ:St) (Q:Bool->Hp->Prop) (b:Bool) (s':Shared):Prop:=∃H',Inv X jP σ H' s'/\Q b H'
def AP (X:Cx) (jP:List 86) (σ:St) (Q:List V->Hp->Prop) (us:List Value) (s':Shared):Prop:=∃vs H',Inv X jP σ H' s'/\Vals vs us/\Q vs H'
def SP (X:Cx) (jP:List 86) (D:Ends) (f:Flow) (s':Shared):Prop :=
 match f with
 |.next=>∃σ' H',Inv X jP σ' H' s'/\D.nx σ' H'
 |.brk=>∃σ' H',Inv X jP σ' H' s'/\D.bk σ' H'
 |.cont=>∃σ' H',Inv X jP σ' H' s'/\D.ct σ' H'
 |.ret u=>∃v σ' H',Inv X jP σ' H' s'/\RelV v u/\D.rt v H'
def PE (X:Cx) (e:Expr) (t:TE):Prop :=
 ∀(jP:List 86) (s:Shared) (σ:St) (H:Hp) (Q:VK),Inv X jP σ H s->t σ H Q->wpAny 74 X.A (eval e X.env) (EP X jP σ Q) X.xe s
def PT (X:Cx) (e:Expr) (t:TT):Prop :=
 ∀(jP:List 86) (s:Shared) (σ:St) (H:Hp) (Q:Bool->Hp->Prop),Inv X jP σ H s->t σ H Q->wpAny 74 X.A (isTrue e X.env (eval e X.env)) (TP X jP σ Q) X.xe s
def PW (X:Cx) (e:Expr) (t:TT):Prop :=
 ∀(whole:Sem Value) (jP:List 86) (s:Shared) (σ:St) (H:Hp) (Q:Bool->Hp->Prop),Inv X jP σ H s->t σ H Q->wpAny 74 X.A (isTrue e X.env whole) (TP X jP σ Q) X.xe s
theorem PW.pt {X:Cx}{e:Expr}{t:TT}(h:PW X e t):PT X e t:=h _
def PA (X:Cx) (es:List Expr) (t:TA):Prop :=
 ∀(pos:Pos) (jP:List 86) (s:Shared) (σ:St) (H:Hp) (Q:List V->Hp->Prop),Inv X jP σ H s->t σ H Q->wpAny 74 X.A (spliced (backTo pos (starEach es X.env))) (AP X jP σ Q) X.xe s
def PS (X:Cx) (st:Stmt) (t:TS):Prop :=
 ∀(jP:List 86) (s:Shared) (σ:St) (H:Hp) (D:Ends),Inv X jP σ H s->t D σ H->wpAny 74 X.A (exec st X.env) (SP X jP D) X.xe s
def PSs (X:Cx) (st:List Stmt) (t:TS):Prop :=
 ∀(jP:List 86) (s:Shared) (σ:St) (H:Hp) (D:Ends),Inv X jP σ H s->t D σ H->wpAny 74 X.A (execs st X.env) (SP X jP D) X.xe s
theorem thn {α:Type}{t:Sem α}{Q Q':α->Shared->Prop}{M:Model}{A:Around}{E:XQ}{s:Shared}(h:wpAny M A t Q E s) (hQ:∀a s,Q a s->Q' a s):wpAny M A t Q' E s:=wpAny_mono h hQ λ Ω Ω x=>x
section
variable {X:Cx}
inductive tVar (i:Nat) (σ:St) (H:Hp) (Q:VK):Prop
 |mk (v:V) (h:σ[i]?=some (some v)) (q:Q v H)
inductive IsB (Q:Bool->Hp->Prop) (x:V) (H:Hp):Prop
 |mk (c:Bool) (h:x = .bl c) (q:Q c H)
def tC (v:V):TE:=λ Ω H Q=>Q v H
theorem zMb {i:Nat}{x:Str}{pos:Pos}(hN:X.N[i]?=some x) (hv:Vis X.env.scope x) (hd:(x == ("__debug__" : Str))=false:=by decide) (hcd:(x == ("__classdict__" : Str))=false:=by decide):PE X (.Name x pos) (tVar i):=by
 intro jP s σ H Q I h;obtain⟨v,e,h⟩:=h;obtain⟨m,hn,hl⟩:=I.loc;obtain⟨u,r,l⟩:=hl i x v hN e hv;have fin:EP X jP σ Q u s:=⟨v,H,I,r,h⟩;rcases l with ⟨hk,hm⟩|⟨hk,c,hc,hcell⟩
 ·exact wpAny_Name (wpAny_loadName_local I.ok.kind hk hn hm fin) hd
 ·rcases hk with hk|hk
  ·exact wpAny_Name (wpAny_loadName_cell I.ok.kind hk hc hcell fin) hd
  ·exact wpAny_Name (wpAny_loadName_free I.ok.kind hk hc hcell fin hcd) hd
theorem zAH {i j pos}:PE X (.Constant (.int i) j pos) (tC (.int i)):=λ Ω Ω Ω H Ω I h=>wpAny_Constant_int ⟨.int i,H,I.tok _,72,h⟩
theorem pe_bl {b j pos}:PE X (.Constant (.bool b) j pos) (tC (.bl b)):=λ Ω Ω Ω H Ω I h=>Constant_bool ⟨.bl b,H,I,rfl,h⟩
theorem zE7 {j pos}:PE X (.Constant .none j pos) (tC .non):=λ Ω Ω Ω H Ω I h=>Constant_none ⟨.non,H,I,rfl,h⟩
theorem zAe {x j pos}:PE X (.Constant (.str x) j pos) (tC (.str x)):=λ Ω Ω Ω H Ω I h=>Calls.Constant_str ⟨.str x,H,I.tok _,72,h⟩
def Gl (X:Cx) (x:Str):Prop:=X.env.kindOf x=some .globalImplicit
theorem zJQ {E:XQ}{jP:List 86}{s:Shared}{σ:St}{H:Hp}{x:Str}{u:Value}{pos:Pos}{Q:XQ}(I:Inv X jP σ H s) (hg:Gl X x) (hm:X.mg x=some u) (h:Q u s)
  (hd:(x == ("__debug__" : Str))=false:=by decide):wpAny 74 X.A (eval (.Name x pos) X.env) Q E s :=
 Calls.Name_function_global I.ok.kind hg (Calls.loadGlobal_global (by rw[I.ok.glob];exact I.mod.glob.keeps I.bk) hm h) hd
theorem zCI {E:XQ}{jP:List 86}{s:Shared}{σ:St}{H:Hp}{x:Str}{u:Value}{pos:Pos}{Q:XQ}(I:Inv X jP σ H s) (hg:Gl X x) (hm:X.mg x=none) (hv:bootBuiltins x=some u) (h:Q u s)
  (hn:x ≠ "__name__" := by decide) (hd:(x == ("__debug__" : Str))=false:=by decide):wpAny 74 X.A (eval (.Name x pos) X.env) Q E s:=by
 obtain⟨mb,h1,h2⟩:=I.mod.blt;exact Calls.Name_function_global I.ok.kind hg (Calls.loadGlobal_builtin (by rw[I.ok.glob];exact I.mod.glob.keeps I.bk) hm (by rw[I.ok.blt];exact h1.keeps I.bk) ((h2 x hn).trans hv) h) hd
theorem zFT {x:Str}{v:V}{u:Value}{pos:Pos}(hg:Gl X x) (hm:X.mg x=some u) (r:RelV v u) (hd:(x == ("__debug__" : Str))=false:=by decide):PE X (.Name x pos) (tC v) :=
 λ Ω Ω Ω H Ω I h=>zJQ I hg hm ⟨v,H,I,r,h⟩ hd
theorem zGr {x:Str}{v:V}{u:Value}{pos:Pos}(hg:Gl X x) (hm:X.mg x=none) (hv:bootBuiltins x=some u) (r:RelV v u) (hn:x ≠ "__name__" := by decide) (hd:(x == ("__debug__" : Str))=false:=by decide):PE X (.Name x pos) (tC v) :=
 λ Ω Ω Ω H Ω I h=>zCI I hg hm hv ⟨v,H,I,r,h⟩ hn hd
variable {a b:Expr}{ta tb:TE}{pos:Pos}
def tB (t:TE):TT:=λ σ H Q=>t σ H (IsB Q)
theorem zA7 {e:Expr}{t:TE}(h:PE X e t) (he:∀whole,isTrue e X.env whole=(do let v ← whole;standAt e.pos;holding [v] (truthy v)):=by intro _;rfl):PT X e (tB t):=by
  intro jP s σ H Q I hw;refine isTrue_plain (thn (h jP s σ H _ I hw) λ v s1 ⟨x,H1,I1,r1,q1⟩=>?_) (he _);obtain⟨d,rfl,q⟩:=q1;cases r1;exact wpAny_truthy_bool ⟨H1,I1,q⟩
variable {tA tB':TT}{rest:List Expr}
def tAnd (t u:TT):TT:=λ σ H Q=>t σ H λ c H1=>if c=true then u σ H1 Q else Q false H1
def tOr (t u:TT):TT:=λ σ H Q=>t σ H λ c H1=>if c=true then Q true H1 else u σ H1 Q
def tNot (t:TT):TT:=λ σ H Q=>t σ H λ c H1=>Q (!c) H1
theorem zBa (ha:PT X a tA):PW X (.BoolOp .And [a] pos) tA:=by
 intro wh jP s σ H Q I h;refine isTrue_and (thn (ha jP s σ H Q I h) λ c s1 e=>?_);cases c with
 |true=>exact isTrue_and_nil e
 |false=>exact e
theorem zCF (ha:PT X a tA):PW X (.BoolOp .Or [a] pos) tA:=by
 intro wh jP s σ H Q I h;refine isTrue_or (thn (ha jP s σ H Q I h) λ c s1 e=>?_);cases c with
 |false=>exact isTrue_or_nil e
 |true=>exact e
theorem zB3 (ha:PT X a tA) (hb:PW X (.BoolOp .And (b::rest) pos) tB'):PW X (.BoolOp .And (a::b::rest) pos) (tAnd tA tB'):=by
 intro wh jP s σ H Q I h;refine isTrue_and (thn (ha jP s σ H _ I h) λ c s1 ⟨H1,I1,q1⟩=>?_);cases c with
 |true=>exact hb wh jP s1 σ H1 Q I1 q1
 |false=>exact⟨H1,I1,q1⟩
theorem pw_or (ha:PT X a tA) (hb:PW X (.BoolOp .Or (b::rest) pos) tB'):PW X (.BoolOp .Or (a::b::rest) pos) (tOr tA tB'):=by
 intro wh jP s σ H Q I h;refine isTrue_or (thn (ha jP s σ H _ I h) λ c s1 ⟨H1,I1,q1⟩=>?_);cases c with
 |true=>exact⟨H1,I1,q1⟩
 |false=>exact hb wh jP s1 σ H1 Q I1 q1
theorem zBO (ha:PT X a tA):PT X (.UnaryOp .Not a pos) (tNot tA):=by
 intro jP s σ H Q I h;exact isTrue_not (ha jP s σ H (λ c H1=>Q (!c) H1) I h)
def tAndV (ta tb:TE):TE:=λ σ H Q=>ta σ H (IsB λ c H1=>if c=true then tb σ H1 Q else Q (.bl false) H1)
def tOrV (ta tb:TE):TE:=λ σ H Q=>ta σ H λ x H1=>∃c,x = .bl c/\if c=true then Q (.bl true) H1 else tb σ H1 Q
def tNotV (ta:TE):TE:=λ σ H Q=>ta σ H (IsB λ c H1=>Q (.bl (!c)) H1)
theorem zCk {op} {t:TE}(h:PE X a t):PE X (.BoolOp op [a] pos) t:=λ jP s σ H Q I hw=>BoolOp_one (h jP s σ H Q I hw)
theorem zF4 (ha:PE X a ta) (hb:PE X (.BoolOp .And (b::rest) pos) tb):PE X (.BoolOp .And (a::b::rest) pos) (tAndV ta tb):=by
 intro jP s σ H Q I h;refine BoolOp_and (thn (ha jP s σ H _ I h) λ v s1 ⟨x,H1,I1,r1,q1⟩=>?_);obtain⟨c,rfl,q1⟩:=q1;cases r1;refine wpAny_truthy_bool ?_;cases c with
 |true=>exact hb jP s1 σ H1 Q I1 q1
 |false=>exact⟨.bl false,H1,I1,rfl,q1⟩
theorem pe_or (ha:PE X a ta) (hb:PE X (.BoolOp .Or (b::rest) pos) tb):PE X (.BoolOp .Or (a::b::rest) pos) (tOrV ta tb):=by
 intro jP s σ H Q I h;refine BoolOp_or (thn (ha jP s σ H _ I h) λ v s1 ⟨x,H1,I1,r1,q1⟩=>?_);obtain⟨c,rfl,q1⟩:=q1;cases r1;refine wpAny_truthy_bool ?_;cases c with
 |false=>exact hb jP s1 σ H1 Q I1 q1
 |true=>exact⟨.bl true,H1,I1,rfl,q1⟩
theorem zMc (ha:PE X a ta):PE X (.UnaryOp .Not a pos) (tNotV ta):=by
 intro jP s σ H Q I h;refine UnaryOp_ (thn (ha jP s σ H _ I h) λ v s1 ⟨x,H1,I1,r1,q1⟩=>?_);obtain⟨c,rfl,q1⟩:=q1;cases r1;exact not_of (wpAny_truthy_bool ⟨.bl (!c),H1,I1,rfl,q1⟩)
end
def SqL (K:W.Frag) (H:Hp) (a:Addr) (xs:List V):Prop :=
 Rd H a (.lst xs) \/
  ∃(o:Obj) (its:Array Value) (n:Nat),K.lookup a=some o/\o.cls = .type "list" /\ o.dict=none/\o.data = .seq its n/\its.size<=sizeLine/\Vals xs its.toList
def SqT (K:W.Frag) (H:Hp) (a:Addr) (xs:List V):Prop :=
 Rd H a (.tup xs) \/
  ∃(o:Obj) (its:Array Value) (n:Nat),K.lookup a=some o/\o.cls = .type "tuple" /\ o.data = .seq its n/\its.size<=sizeLine/\Vals xs its.toList
noncomputable def absV:Value->Option V
 |.none=>some .non
 |.bool b=>some (.bl b)
 |.int i _=>some (.int i)
 |.str x _=>some (.str x)
 |.bytes b _=>some (.byt b)
 |.float b _=>some (.flt b)
 |.ref a=>some (.ref a)
 |.type n=>some (.ty n)
 |_=>none
theorem RelV.abs {x:V}{u:Value}(r:RelV x u):absV u=some x:=by
 cases x with
 |non=>cases r;rfl
 |bl _=>cases r;rfl
 |int _=>obtain⟨t,rfl⟩:=r;rfl
 |str _=>obtain⟨t,rfl⟩:=r;rfl
 |byt _=>obtain⟨t,rfl⟩:=r;rfl
 |flt _=>obtain⟨t,rfl⟩:=r;rfl
 |ref _=>cases r;rfl
 |ty _=>cases r;rfl
theorem RelV.inj {x y:V}{u:Value}(r:RelV x u) (q:RelV y u):x=y:=mG (r.abs.symm.trans q.abs)
theorem Vals.inj {xs ys:List V}{us:List Value}(h:Vals xs us):Vals ys us->xs=ys:=by
 induction h generalizing ys with
 |nil=>intro z;cases z;rfl
 |cons r t ih=>intro z;cases z with|cons r' t'=>rw[r.inj r',ih t']
section
variable {X:Cx}{jP:List (Addr × Obj)}{σ:St}{H:Hp}{s:Shared}{a:Addr}{xs ys:List V}
theorem SqL.of {K:W.Frag}(h:H a=some (.lst xs)):SqL K H a xs:=.inl (.inl h)
theorem SqT.of {K:W.Frag}(h:H a=some (.tup xs)):SqT K H a xs:=.inl (.inl h)
theorem Inv.list (I:Inv X jP σ H s) (h:SqL X.K H a xs):∃its:List Value,Vals xs its/\PlainL s.heap a its.toArray/\xs.length<=sizeLine:=by
 rcases h with h|⟨o,its,n,hk,hc,hd,hs,hz,r⟩
 ·obtain⟨z,its,n,r,e⟩:=h.ok I.hok
  exact⟨its,r,⟨_,n,e,rfl,rfl,rfl⟩,z⟩
 ·refine⟨its.toList,r,⟨o,n,I.kIn a o hk,hc,hd,by simpa using hs⟩,?_⟩
  have e:=r.length;simp only[Array.length_toList] at e
  lia
theorem Inv.tuple (I:Inv X jP σ H s) (h:SqT X.K H a xs):∃its:List Value,Vals xs its/\IsTup s.heap a its.toArray/\xs.length<=sizeLine:=by
 rcases h with h|⟨o,its,n,hk,hc,hs,hz,r⟩
 ·obtain⟨z,its,r,p⟩:=h.ok I.hok
  exact⟨its,r,p,z⟩
 ·refine⟨its.toList,r,⟨o,I.kIn a o hk,hc,n,by simpa using hs⟩,?_⟩
  have e:=r.length;simp only[Array.length_toList] at e
  lia
theorem Inv.list_inj (I:Inv X jP σ H s) (h:SqL X.K H a xs) (h':SqL X.K H a ys):xs=ys:=by
 obtain⟨its,r,⟨o,n,e,_,_,d⟩,_⟩:=I.list h;obtain⟨its',r',⟨o',n',e',_,_,d'⟩,_⟩:=I.list h';rw[e] at e';cases e';rw[d] at d';injection d' with d1 _
 have:its=its':=by simpa using congrArg Array.toList d1
 subst this;exact r.inj r'
theorem Inv.tuple_inj (I:Inv X jP σ H s) (h:SqT X.K H a xs) (h':SqT X.K H a ys):xs=ys:=by
 obtain⟨its,r,⟨o,e,_,n,d⟩,_⟩:=I.tuple h;obtain⟨its',r',⟨o',e',_,n',d'⟩,_⟩:=I.tuple h';rw[e] at e';cases e';rw[d] at d';injection d' with d1 _
 have:its=its':=by simpa using congrArg Array.toList d1
 subst this;exact r.inj r'
end
abbrev Cx.wish (X:Cx) (E:XQ):Cx:={ X with xe:=E }
abbrev Cx.nox (X:Cx):Cx:=X.wish λ Ω Ω=>False
theorem Cx.Ok.wish {X:Cx}(ok:X.Ok) (E:XQ):(X.wish E).Ok :=
 ⟨ok.mod,ok.kind,ok.glob,ok.blt,ok.above,ok.inj,ok.has,ok.cab,ok.hd,ok.frames,ok.stk,ok.exf,ok.bs,ok.bsz,ok.noex,ok.exfs,ok.funs,ok.frf⟩
theorem Cx.Ok.unwish {X:Cx}{E:XQ}(ok:(X.wish E).Ok):X.Ok :=
 ⟨ok.mod,ok.kind,ok.glob,ok.blt,ok.above,ok.inj,ok.has,ok.cab,ok.hd,ok.frames,ok.stk,ok.exf,ok.bs,ok.bsz,ok.noex,ok.exfs,ok.funs,ok.frf⟩
section
variable {X:Cx}{jP:List (Addr × Obj)}{σ:St}{H:Hp}{s:Shared}{E:XQ}
theorem Inv.wish (I:Inv X jP σ H s) (E:XQ):Inv (X.wish E) jP σ H s:=⟨I.ok.wish E,I.os,I.bare,I.base,I.loc,I.cell,I.free,I.freeC,I.pin,I.hok,I.len⟩
theorem Inv.unwish (I:Inv (X.wish E) jP σ H s):Inv X jP σ H s:=⟨I.ok.unwish,I.os,I.bare,I.base,I.loc,I.cell,I.free,I.freeC,I.pin,I.hok,I.len⟩
theorem SP.unwish {D:Ends}{f:Flow}{s':Shared}(h:SP (X.wish E) jP D f s'):SP X jP D f s':=by
 cases f with
 |next=>obtain⟨σ',H',I,q⟩:=h;exact⟨σ',H',I.unwish,q⟩
 |brk=>obtain⟨σ',H',I,q⟩:=h;exact⟨σ',H',I.unwish,q⟩
 |cont=>obtain⟨σ',H',I,q⟩:=h;exact⟨σ',H',I.unwish,q⟩
 |ret u=>obtain⟨v,σ',H',I,r,q⟩:=h;exact⟨v,σ',H',I.unwish,r,q⟩
theorem PSs.nox {st:List Stmt}{t:TS}(h:PSs X.nox st t):PSs X st t:=λ jP s σ H D I hw =>
 wpAny_mono (h jP s σ H D (I.wish _) hw) (λ Ω Ω q=>q.unwish) λ Ω Ω z=>False.elim z
end
section
variable {X:Cx}{st:Stmt}{rest:List Stmt}{t u:TS}{e:Expr}{te:TE}{pos:Pos}
def tNext:TS:=λ D σ H=>D.nx σ H
def tSeq (t u:TS):TS:=λ D σ H=>t { D with nx:=u D } σ H
theorem zAN:PSs X [] tNext:=λ _ _ σ H _ I h=>wpAny_execs_nil ⟨σ,H,I,h⟩
theorem zAF (h1:PS X st t) (h2:PSs X rest u):PSs X (st::rest) (tSeq t u):=by
 intro jP s σ H D I h;refine wpAny_execs_cons (thn (h1 jP s σ H { D with nx:=u D } I h) λ f s1 q=>?_);cases f with
 |next =>
  obtain⟨σ',H',I',q⟩:=q;exact h2 jP s1 σ' H' D I' q
 |ret v=>exact q
 |brk=>exact q
 |cont=>exact q
theorem zAE (h1:PS X st t):PSs X [st] t:=by
 intro jP s σ H D I h;refine wpAny_execs_cons (thn (h1 jP s σ H D I h) λ f s1 q=>?_);cases f with
 |next=>exact wpAny_execs_nil q
 |ret v=>exact q
 |brk=>exact q
 |cont=>exact q
theorem Inv.quiet {jP:List 86}{σ:St}{H:Hp}{s:Shared}(I:Inv X jP σ H s):interactive X.env=false:=by simp[interactive,I.ok.kind]
def tDrop (te:TE):TS:=λ D σ H=>te σ H λ Ω H1=>D.nx σ H1
theorem zDq (he:PE X e te) (hs:swapsWith e none pos.line X.env=pure false:=by rfl):PS X (.Expr e pos) (tDrop te):=by
 intro jP s σ H D I h;exact wpAny_Expr_any (thn (he jP s σ H _ I h) λ v s1 ⟨x,H1,I1,r1,q1⟩=>⟨σ,H1,I1,q1⟩) I.quiet hs
def tRet (te:TE):TS:=λ D σ H=>te σ H D.rt
theorem zAU (he:PE X e te):PS X (.Return (some e) pos) (tRet te):=by
 intro jP s σ H D I h;exact wpAny_Return_some (thn (he jP s σ H _ I h) λ v s1 ⟨x,H1,I1,r1,q1⟩=>⟨x,σ,H1,I1,r1,q1⟩)
def tIfS (c:TT) (t u:TS):TS:=λ D σ H=>c σ H λ b H1=>if b=true then t D σ H1 else u D σ H1
theorem ps_if {c:Expr}{a b:List Stmt}{tc:TT}(hc:PT X c tc) (ha:PSs X a t) (hb:PSs X b u):PS X (.If c a b pos) (tIfS tc t u):=by
 intro jP s σ H D I h;refine wpAny_If (thn (hc jP s σ H _ I h) λ d s1 ⟨H1,I1,q1⟩=>?_);cases d with
 |true=>exact ha jP s1 σ H1 D I1 q1
 |false=>exact hb jP s1 σ H1 D I1 q1
def zML:TS:=λ Ω Ω Ω=>False
theorem zCj {sts:List Stmt}:PSs X sts zML:=λ Ω Ω Ω Ω Ω Ω h=>h.elim
end
abbrev TG:=V->St->Hp->(St->Hp->Prop)->Prop
abbrev TGs:=List V->St->Hp->(St->Hp->Prop)->Prop
def PG (X:Cx) (target:Expr) (t:TG):Prop :=
 ∀(jP:List 86) (s:Shared) (σ:St) (H:Hp) (v:V) (u:Value) (Q:St->Hp->Prop),Inv X jP σ H s->RelV v u->t v σ H Q ->
  wpAny 74 X.A (assign target X.env u) (λ Ω s'=>∃σ' H',Inv X jP σ' H' s'/\Q σ' H') X.xe s
def PGs (X:Cx) (ts:List Expr) (t:TGs):Prop :=
 ∀(jP:List 86) (s:Shared) (σ:St) (H:Hp) (vs:List V) (us:List Value) (Q:St->Hp->Prop),Inv X jP σ H s->Vals vs us->t vs σ H Q ->
  wpAny 74 X.A (assignInOrder ((assignEach ts X.env).map (·.2)) us) (λ Ω s'=>∃σ' H',Inv X jP σ' H' s'/\Q σ' H') X.xe s
abbrev TSet:=V->V->V->Hp->(Hp->Prop)->Prop
def PSet (X:Cx) (t:TSet):Prop :=
 ∀(jP:List 86) (s:Shared) (σ:St) (H:Hp) (o i v:V) (ov iv u:Value) (Q:Hp->Prop),Inv X jP σ H s->RelV o ov->RelV i iv->RelV v u->t o i v H Q ->
  wpAny 74 X.A (setItem ov iv u) (λ Ω s'=>∃H',Inv X jP σ H' s'/\Q H') X.xe s
section
variable {X:Cx}{pos:Pos}
def gName (i:Nat):TG:=λ v σ H Q=>Q (σ.set i (some v)) H
theorem zA4 {i:Nat}{x:Str}(hN:X.N.Nodup) (hi:X.N[i]?=some x) (hx:Loc X.env.scope x) (hf:X.fn x=true\/X.env.scope.names.lookup x=some .local:=by first|exact .inl rfl|exact .inr rfl|assumption):PG X (.Name x pos) (gName i):=by
 intro jP s σ H v u Q I r h;exact wpAny_assign_Name (zHF I hN hi hx r (λ s' I'=>⟨_,H,I',h⟩) hf)
theorem pGn {i:Nat}{x:Str}(hN:X.N.Nodup)(hi:X.N[i]?=some x:=by rfl)(hx:Loc X.env.scope x:=by exact Or.inl rfl)(hf:X.fn x=true\/X.env.scope.names.lookup x=some .local:=by first|exact .inl rfl|exact .inr rfl|assumption):PG X (.Name x pos) (gName i):=zA4 hN hi hx hf
def gNil:TGs:=λ vs σ H Q=>vs=[]/\Q σ H
inductive gCons (t:TG) (u:TGs) (vs:List V) (σ:St) (H:Hp) (Q:St->Hp->Prop):Prop
 |mk (v:V) (r:List V) (h:vs=v::r) (q:t v σ H λ σ' H'=>u r σ' H' Q)
theorem zBK:PGs X [] gNil:=by
 intro jP s σ H vs us Q I r h;obtain⟨e,h⟩:=h;subst e;cases r;exact assignInOrder_nil ⟨σ,H,I,h⟩
theorem zAa {e:Expr}{es:List Expr}{t:TG}{u:TGs}(h1:PG X e t) (h2:PGs X es u)
  (hs:(assignEach (e::es) X.env).map (·.2)=assign e X.env::(assignEach es X.env).map (·.2):=by rfl):PGs X (e::es) (gCons t u):=by
 intro jP s σ H vs us Q I r h;obtain⟨v,vr,e1,h⟩:=h;subst e1;cases r with
 |cons r rr =>
  rw[hs];refine assignInOrder_cons (thn (h1 jP s σ H _ _ _ I r h) λ _ s1 ⟨σ1,H1,I1,q1⟩=>?_);exact h2 jP s1 σ1 H1 _ _ Q I1 rr q1
def gTup (K:W.Frag) (n:Nat) (t:TGs):TG:=λ v σ H Q=>E2 λ a xs=>A4 (v = .ref a) (SqT K H a xs) (xs.length=n) (t xs σ H Q)
theorem zCG {es:List Expr}{k:Nat}{t:TGs}{n:Nat}(hc:X.calm=true) (h:PGs X es t)
  (hn:(assignEach es X.env).length=n:=by rfl) (hst:(assignEach es X.env).findIdx? (·.1)=none:=by rfl):PG X (.Tuple es k pos) (gTup X.K n t):=by
 intro jP s σ H v u Q I r hw;obtain⟨a,xs,e1,hq,hl,hw⟩:=hw;subst e1;cases r;obtain⟨its,rv,ht,hz⟩:=I.tuple hq;refine assign_Tuple_tuple (I.ok.hd hc) ht (by simp[hn,←hl,rv.length]) hst λ h' hx=>?_;have I1:Inv X jP σ H { s with heap:=h' }:=I.kept (t':=s.toks) λ b o e=>hx b o (lT (lJ e)) e;exact h jP _ σ H xs _ Q I1 (by simpa using rv) hw
def gSub (to ti:TE) (t:TSet):TG:=λ v σ H Q=>to σ H λ o H1=>ti σ H1 λ i H2=>t o i v H2 λ H3=>Q σ H3
theorem zMa {o i:Expr}{to ti:TE}{t:TSet}(ho:PE X o to) (hi:PE X i ti) (hs:PSet X t)
  (ha:∀v,assign (.Subscript o i pos) X.env v=(do
   let ov ← holding [v] (eval o X.env)
   let iv ← holding [v,ov] (eval i X.env)
   standAt pos
   holding [v,ov,iv] (setItem ov iv v)
   release [v,ov,iv] []):=by intro _;rfl):PG X (.Subscript o i pos) (gSub to ti t):=by
 intro jP s σ H v u Q I r h;rw[ha];refine lC (lG (thn (ho jP s σ H _ I h) λ ov s1 ⟨x,H1,I1,r1,q1⟩=>?_));refine lC (lG (thn (hi jP s1 σ H1 _ I1 q1) λ iv s2 ⟨y,H2,I2,r2,q2⟩=>?_));refine lC (wpAny_standAt (lC (lG (thn (hs jP s2 σ H2 x y v ov iv u _ I2 r1 r2 r q2) λ _ s3 ⟨H3,I3,q3⟩=>?_))));exact wpAny_release ⟨σ,H3,I3,q3⟩
def tAsg (te:TE) (g:TG):TS:=λ D σ H=>te σ H λ x H1=>g x σ H1 D.nx
theorem zMW {tg e:Expr}{te:TE}{g:TG}(he:PE X e te) (hg:PG X tg g) (hs:swapsWithSole [tg] e pos.line X.env=pure false:=by rfl) (hw:swappedStores [tg] e X.env=pure none:=by rfl)
  (h1:(assignEach [tg] X.env).map (·.2)=[assign tg X.env]:=by rfl):PS X (.Assign [tg] e pos) (tAsg te g):=by
 intro jP s σ H D I h;refine wpAny_Assign_stores (thn (he jP s σ H _ I h) λ v s1 ⟨x,H1,I1,r1,q1⟩=>?_) hs hw;rw[h1];exact thn (hg jP s1 σ H1 x v _ I1 r1 q1) λ Ω s2 q=>q
theorem zF0 {i:Nat}{x:Str}{e:Expr}{te:TE}{pos':Pos}(hN:X.N.Nodup) (hi:X.N[i]?=some x) (hx:Loc X.env.scope x) (he:PE X e te) (hs:swapsWith e (some (.Name x pos')) pos.line X.env=pure false:=by rfl) (hf:X.fn x=true\/X.env.scope.names.lookup x=some .local:=by first|exact .inl rfl|exact .inr rfl|assumption) :
  PS X (.Assign [.Name x pos'] e pos) (tAsg te (gName i)):=by
 intro jP s σ H D I h;refine wpAny_Assign_Name (thn (he jP s σ H _ I h) λ v s1 ⟨y,H1,I1,r1,q1⟩=>?_) hs;exact zHF I1 hN hi hx r1 (λ s2 I2=>⟨_,H1,I2,q1⟩) hf
theorem pS {i:Nat}{x:Str}{e:Expr}{te:TE}{pos':Pos}(hN:X.N.Nodup)(he:PE X e te)(hi:X.N[i]?=some x:=by rfl)(hx:Loc X.env.scope x:=by exact Or.inl rfl)(hs:swapsWith e (some (.Name x pos')) pos.line X.env=pure false:=by rfl)(hf:X.fn x=true\/X.env.scope.names.lookup x=some .local:=by first|exact .inl rfl|exact .inr rfl|assumption):PS X (.Assign [.Name x pos'] e pos) (tAsg te (gName i)):=zF0 hN hi hx he hs hf
end
section
variable {X:Cx}{pos:Pos}
def zMK (c:TT) (tb:TS):TS:=λ D σ H=>∃W:Nat->St->Hp->Prop,(∃m,W m σ H)/\∀m σ H,W m σ H ->
 c σ H λ b H1=>if b=true then ∃N:St->Hp->Prop,(∀σ' H',N σ' H'->∃m',m'<m/\W m' σ' H')/\tb { D with nx:=N,ct:=N,bk:=D.nx } σ H1 else D.nx σ H1
theorem zCY {c:Expr}{body:List Stmt}{tc:TT}{tb:TS}(hp:PassesOwn 74 X.A X.env X.xe) (hc:PT X c tc) (hb:PSs X body tb):PS X (.While c body [] pos) (zMK tc tb):=by
 intro jP s σ H D I h;obtain⟨W,⟨m0,w0⟩,turn⟩:=h;refine wpAny_While (codeAny_whileLoop (λ n s'=>∃σ' H',Inv X jP σ' H' s'/\W n σ' H') ?_ m0 ⟨σ,H,I,w0⟩);rintro n s1 ⟨σ1,H1,I1,w1⟩;refine wpAny_passesOwn hp (thn (hc jP s1 σ1 H1 _ I1 (turn n σ1 H1 w1)) λ b s2 ⟨H2,I2,q2⟩=>?_);cases b with
 |true =>
  obtain⟨N,hN,q2⟩:=q2;rw[if_pos rfl];refine wpAny_passesOwn hp (thn (hb jP s2 σ1 H2 _ I2 q2) λ f s3 q3=>?_);cases f with
  |next =>
   obtain⟨σ3,H3,I3,n3⟩:=q3;obtain⟨m',hm,w3⟩:=hN σ3 H3 n3;exact⟨m',hm,σ3,H3,I3,w3⟩
  |cont =>
   obtain⟨σ3,H3,I3,n3⟩:=q3;obtain⟨m',hm,w3⟩:=hN σ3 H3 n3;exact⟨m',hm,σ3,H3,I3,w3⟩
  |brk=>exact q3
  |ret v=>exact q3
 |false =>
  rw[if_neg Bool.false_ne_true];exact wpAny_execs_nil ⟨σ1,H2,I2,q2⟩
end
structure It where
 go:Nat->Hp->Prop
 yld:Nat->Hp->V->Hp->Prop
 stop:Nat->Hp->Prop
def FpOk (X:Cx) (jP:List 86) (H:Hp) (b:Addr):Prop :=
 H b=none/\b≠X.env.locals/\b∉X.fs/\(b∈X.ex\/X.s₀.heap.objs.size<=b)/\(∀x c,X.env.cells.lookup x=some c->c≠b)/\∀p∈X.pn++jP,p.1≠b
theorem Inv.fpOk {X:Cx}{jP:List 86}{σ:St}{H H':Hp}{s:Shared}{b:Addr}(I:Inv X jP σ H s) (hb:s.heap.objs.size<=b) (hn:H' b=none):FpOk X jP H' b:=by
 refine⟨hn,Nat.ne_of_gt (mC I.lt hb),I.nofs hb,.inr (mI I.sz hb),λ x c e z=>?_,λ p hp z=>?_⟩
 ·obtain⟨v,q⟩:=I.cell x c e
  exact absurd (mC q.lt (by rw[z];exact hb)) (Nat.lt_irrefl _)
 ·exact absurd (mC (lJ (I.pin p hp).1) (by rw[z];exact hb)) (Nat.lt_irrefl _)
structure Turn (P:Program) (w:World) (K:W.Frag) (tg:Expr) (J:It) (fp:List Addr) (it:Addr) (tn:Nat->Heap->Prop):Prop where
 mem:it∈fp
 obj:∀i h,tn i h->∀b∈fp,∃o,h.get? b=some o/\∀v,o.data ≠ .cell v
 keep:∀i h h',tn i h->(∀b∈fp,∀o,h.get? b=some o->h'.get? b=some o)->tn i h'
 item:∀(X:Cx),X.prog=P->X.w=w->X.K=K->X.calm=true->∀(i:Nat) (jP:List 86) (s:Shared) (σ:St) (H:Hp) (E:XQ),Inv X jP σ H s->(∀b∈fp,FpOk X jP H b)->tn i s.heap->J.go i H ->
  wpAny (model P w) X.A (pyNext (.ref it)) (λ r s1=>∃u,r=some u /\
   wpAny (model P w) X.A (letOwnedTupleGo tg (.ref it) u) (λ Ω s2=>∃x H',Inv X jP σ H' s2/\RelV x u/\J.yld i H x H'/\tn (i+1) s2.heap/\∀b∈fp,H' b=none) E s1) E s
 done:∀(X:Cx),X.prog=P->X.w=w->X.K=K->X.calm=true->∀(i:Nat) (jP:List 86) (s:Shared) (σ:St) (H:Hp) (E:XQ),Inv X jP σ H s->(∀b∈fp,FpOk X jP H b)->tn i s.heap->J.stop i H ->
  wpAny (model P w) X.A (pyNext (.ref it)) (λ r s1=>r=none/\Inv X jP σ H s1) E s
 self:∀(A:Around) (i:Nat) (s:Shared) (Q:XQ) (E:XQ),tn i s.heap->Q (.ref it) s->wpAny (model P w) A (pyIter (.ref it)) Q E s
abbrev TI:=St->Hp->(It->Hp->Prop)->Prop
def PIE (X:Cx) (jP:List 86) (σ:St) (tg:Expr) (R:It->Hp->Prop) (itv:Value) (s2:Shared):Prop :=
 ∃(it:Addr) (fp:List Addr) (tn:Nat->Heap->Prop) (J:It) (H':Hp),itv = .ref it/\Inv X jP σ H' s2/\Turn X.prog X.w X.K tg J fp it tn/\tn 0 s2.heap/\(∀b∈fp,FpOk X jP H' b)/\R J H'
def PI (X:Cx) (tg iter:Expr) (wi:TI):Prop :=
 ∀(jP:List 86) (s:Shared) (σ:St) (H:Hp) (R:It->Hp->Prop),Inv X jP σ H s->wi σ H R ->
  wpAny 74 X.A (eval iter X.env) (λ v s1=>wpAny 74 X.A (pyIter v) (PIE X jP σ tg R) X.xe s1) X.xe s
theorem go_of {M:Model}{A:Around}{E:XQ}{s:Shared}{tg:Expr}{it:Addr}{u:Value}{o:Obj}{n:String}{vs:Array Value}{Q:Unit->Shared->Prop}(ho:s.heap.get? it=some o) (hc:o.cls = .type n) (hd:o.data = .fields vs)
    (hn:["enumerate", "zip", "dict_itemiterator", "dict_reverseitemiterator", "odict_iterator", "itertools.zip_longest", "itertools.pairwise"].contains n=false) (hQ:Q () s):wpAny M A (letOwnedTupleGo tg (.ref it) u) Q E s:=by
  unfold letOwnedTupleGo
  cases tg<;>first
    |exact lD hQ
    | (cases u<;>first
        |exact lD hQ
        | (refine lC (wpAny_load ho ?_)
           rw[hc,hd];show wpAny M A (if (["enumerate", "zip", "dict_itemiterator", "dict_reverseitemiterator", "odict_iterator", "itertools.zip_longest", "itertools.pairwise"].contains n && vs[0]? == some (rawInt _))=true then _ else _) Q E s;rw[if_neg (by intro h;rw[hn,Bool.false_and] at h;cases h)];exact lD hQ))
noncomputable def Itl (K:W.Frag) (a:Addr):It :=
 ⟨λ i H=>∃xs x,SqL K H a xs/\xs[i]?=some x,λ i H x H'=>H'=H/\∀xs,SqL K H a xs->xs[i]?=some x,λ i H=>∃xs,SqL K H a xs/\xs.length<=i⟩
noncomputable def Itt (K:W.Frag) (a:Addr):It :=
 ⟨λ i H=>∃xs x,SqT K H a xs/\xs[i]?=some x,λ i H x H'=>H'=H/\∀xs,SqT K H a xs->xs[i]?=some x,λ i H=>∃xs,SqT K H a xs/\xs.length<=i⟩
noncomputable def Itr (lo:Int) (n:Nat):It:=⟨λ i Ω=>i<n,λ i H x H'=>H'=H/\x = .int (lo+i),λ i Ω=>n<=i⟩
theorem zIR {P:Program}{w:World}{K:W.Frag}{tg:Expr}(a it:Addr):Turn P w K tg (Itl K a) [it] it (λ i h=>h.IsListIter it a i) where
 mem:=by simp
 obj:=λ i h st b hb=>by
  have e:b=it:=by simpa using hb
  subst e;obtain⟨o,e,c,d⟩:=st;exact⟨o,e,λ v z=>by rw[d] at z;cases z⟩
 keep:=λ i h h' st k=>st.at λ o e=>k it 68 o e
 item:=by
  intro X hP hw hK hc i jP s σ H E I hf st hg;subst hP hw hK;obtain⟨xs,x,hq,hx⟩:=hg;obtain⟨its,rv,p,hz⟩:=I.list hq;obtain⟨u,hu,ru⟩:=rv.get hx;obtain⟨f0,f1,f2,f3,f4,f5⟩:=hf it 68;refine wpAny_pyNext_list_item st p.isList (x:=u) (by simpa using hu) λ h' st' sb=>?_;have I1:Inv X jP σ H { s with heap:=h' }:=I.turned (t':=s.toks) (λ b o hb e=>(sb.2 b hb).trans e) f0 f1 f3 f4 f5;obtain⟨o,e,c,d⟩:=id st';exact⟨u,rfl,go_of (s:={ s with heap:=h' }) e c d 69 ⟨x,H,I1,ru,⟨rfl,λ ys hy=>by rw[I.list_inj hy hq];exact hx⟩,st',λ b hb=>(hf b hb).1⟩⟩
 done:=by
  intro X hP hw hK hc i jP s σ H E I hf st hg;subst hP hw hK;obtain⟨xs,hq,hx⟩:=hg;obtain⟨its,rv,p,hz⟩:=I.list hq;obtain⟨f0,f1,f2,f3,f4,f5⟩:=hf it 68;have hl:=rv.length;exact wpAny_pyNext_list_end (I.ok.hd hc) st p.isList (by simp;lia) λ h' eb=>⟨rfl,I.turned (t':=s.toks) (λ b o hb e=>eb b o hb e) f0 f1 f3 f4 f5⟩
 self:=λ Ω Ω Ω Ω Ω st h=>wpAny_pyIter_listiter st h
theorem zH0 {P:Program}{w:World}{K:W.Frag}{tg:Expr}(a it:Addr):Turn P w K tg (Itt K a) [it] it (λ i h=>h.IsTupleIter it a i) where
 mem:=by simp
 obj:=λ i h st b hb=>by
  have e:b=it:=by simpa using hb
  subst e;obtain⟨o,e,c,d⟩:=st;exact⟨o,e,λ v z=>by rw[d] at z;cases z⟩
 keep:=λ i h h' st k=>st.at λ o e=>k it 68 o e
 item:=by
  intro X hP hw hK hc i jP s σ H E I hf st hg;subst hP hw hK;obtain⟨xs,x,hq,hx⟩:=hg;obtain⟨its,rv,p,hz⟩:=I.tuple hq;obtain⟨u,hu,ru⟩:=rv.get hx;obtain⟨f0,f1,f2,f3,f4,f5⟩:=hf it 68;refine wpAny_pyNext_tuple_item st (show s.heap.IsTuple a its.toArray from p) (x:=u) (by simpa using hu) λ h' st' sb=>?_;have I1:Inv X jP σ H { s with heap:=h' }:=I.turned (t':=s.toks) (λ b o hb e=>(sb.2 b hb).trans e) f0 f1 f3 f4 f5;obtain⟨o,e,c,d⟩:=id st';exact⟨u,rfl,go_of (s:={ s with heap:=h' }) e c d 69 ⟨x,H,I1,ru,⟨rfl,λ ys hy=>by rw[I.tuple_inj hy hq];exact hx⟩,st',λ b hb=>(hf b hb).1⟩⟩
 done:=by
  intro X hP hw hK hc i jP s σ H E I hf st hg;subst hP hw hK;obtain⟨xs,hq,hx⟩:=hg;obtain⟨its,rv,p,hz⟩:=I.tuple hq;obtain⟨f0,f1,f2,f3,f4,f5⟩:=hf it 68;have hl:=rv.length;exact wpAny_pyNext_tuple_end (I.ok.hd hc) st (show s.heap.IsTuple a its.toArray from p) (by simp;lia) λ h' eb=>⟨rfl,I.turned (t':=s.toks) (λ b o hb e=>eb b o hb e) f0 f1 f3 f4 f5⟩
 self:=λ Ω Ω Ω Ω Ω st h=>wpAny_pyIter_tupleiter st h
theorem zH1 {P:Program}{w:World}{K:W.Frag}{tg:Expr}(it:Addr) (lo:Int) (n:Nat):Turn P w K tg (Itr lo n) [it] it (λ i h=>IsRangeIter h it (lo+(i:Nat) * 1) ((n:Int) - (i:Nat)) 1) where
 mem:=by simp
 obj:=λ i h st b hb=>by
  have e:b=it:=by simpa using hb
  subst e
  exact⟨_,st,λ v z=>by
   have z':Data.fields _=Data.cell v:=z;cases z'⟩
 keep:=λ i h h' st k=>k it 68 _ st
 item:=by
  intro X hP hw hK hc i jP s σ H E I hf st hg;subst hP hw hK;obtain⟨f0,f1,f2,f3,f4,f5⟩:=hf it 68;have W:=Walks.range (prog:=X.prog) (w:=X.w) (I.ok.hd hc) it lo 1 n;refine W.item i s _ _ hg st λ v h' tk hv st' kk=>?_;obtain⟨t,rfl⟩:=hv;have I1:Inv X jP σ H { s with heap:=h',toks:=tk }:=I.turned (λ b o hb e=>kk b o (by simpa using hb) e) f0 f1 f3 f4 f5;refine⟨_,rfl,go_of (s:={ s with heap:=h',toks:=tk }) (n := "range_iterator") st' rfl rfl 69 ⟨.int (lo+i),H,I1,⟨t,?_⟩,⟨rfl,rfl⟩,st',λ b hb=>(hf b hb).1⟩⟩;rw[Int.mul_one]
 done:=by
  intro X hP hw hK hc i jP s σ H E I hf st hg;subst hP hw hK;obtain⟨f0,f1,f2,f3,f4,f5⟩:=hf it 68;exact wpAny_pyNext_range_end (I.ok.hd hc) st (by have:n<=i:=hg;lia) λ h' eb=>⟨rfl,I.turned (t':=s.toks) (λ b o hb e=>eb b o hb e) f0 f1 f3 f4 f5⟩
 self:=λ Ω Ω Ω Ω Ω st h=>wpAny_pyIter_rangeiter st h
section
variable {X:Cx}{tg:Expr}
def iList (K:W.Frag) (tl:TE):TI:=λ σ H R=>tl σ H λ x H1=>∃a,x = .ref a/\(∃xs,SqL K H1 a xs)/\R (Itl K a) H1
def iTup (K:W.Frag) (tl:TE):TI:=λ σ H R=>tl σ H λ x H1=>∃a,x = .ref a/\(∃xs,SqT K H1 a xs)/\R (Itt K a) H1
theorem zBD {l:Expr}{tl:TE}(hl:PE X l tl):PI X tg l (iList X.K tl):=by
 intro jP s σ H R I h;refine thn (hl jP s σ H _ I h) λ v s1 ⟨x,H1,I1,r1,q1⟩=>?_;obtain⟨a,e,⟨xs,hq⟩,q⟩:=q1;subst e;cases r1;obtain⟨its,rv,p,hz⟩:=I1.list hq;refine wpAny_pyIter_list p.isList ?_;refine⟨s1.heap.objs.size,[s1.heap.objs.size],_,_,H1,rfl,I1.kept (t':=s1.toks) λ b o e=>lH _ e,zIR a _,⟨_,lI _ rfl,rfl,rfl⟩,λ b hb=>?_,q⟩;have e:b=s1.heap.objs.size:=by simpa using hb
 subst e;exact I1.fpOk (lS _) (I1.hok.fresh (lS _))
theorem zE4 {l:Expr}{tl:TE}(hl:PE X l tl):PI X tg l (iTup X.K tl):=by
 intro jP s σ H R I h;refine thn (hl jP s σ H _ I h) λ v s1 ⟨x,H1,I1,r1,q1⟩=>?_;obtain⟨a,e,⟨xs,hq⟩,q⟩:=q1;subst e;cases r1;obtain⟨its,rv,p,hz⟩:=I1.tuple hq;refine wpAny_pyIter_tuple (show s1.heap.IsTuple a its.toArray from p) ?_;refine⟨s1.heap.objs.size,[s1.heap.objs.size],_,_,H1,rfl,I1.kept (t':=s1.toks) λ b o e=>lH _ e,zH0 a _,⟨_,lI _ rfl,rfl,rfl⟩,λ b hb=>?_,q⟩;have e:b=s1.heap.objs.size:=by simpa using hb
 subst e;exact I1.fpOk (lS _) (I1.hok.fresh (lS _))
theorem zHT {jP:List 86}{σ:St}{H:Hp}{s:Shared}{R:It->Hp->Prop}{E:XQ}{lo hi:Int}{t u v:Tok}{tk:Nat}(I:Inv X jP σ H s) (h1:-(2 ^ 62)<=lo) (h2:lo<2 ^ 62) (h3:-(2 ^ 62)<=hi) (h4:hi<2 ^ 62)
  (q:R (Itr lo (hi - lo).toNat) H):wpAny 74 X.A (pyIter (.ref s.heap.objs.size)) (PIE X jP σ tg R) E { s with heap:=s.heap.push { cls:=.type "range", data:=.fields #[.int lo t,.int hi u,.int 1 v] },toks:=tk }:=by
 refine wpAny_pyIter_range (IsRange.new ..) (small_one h1 h2 h3 h4) ?_;have I1:Inv X jP σ H { s with heap:=s.heap.push { cls:=.type "range", data:=.fields #[.int lo t,.int hi u,.int 1 v] },toks:=tk }:=I.kept λ b o e=>lH _ e
 refine⟨(s.heap.push { cls:=.type "range", data:=.fields #[.int lo t,.int hi u,.int 1 v] }).objs.size,[(s.heap.push { cls:=.type "range", data:=.fields #[.int lo t,.int hi u,.int 1 v] }).objs.size],_,_,H,rfl,
  I1.kept (t':=tk) λ b o e=>lH _ e,zH1 _ lo (hi - lo).toNat,?_,λ b hb=>?_,q⟩
 ·have e1:lo+((0:Nat):Int) * 1=lo:=by simp
  have e2:(((hi - lo).toNat:Nat):Int) - ((0:Nat):Int)=Builtin.Range.rangeSize lo hi 1:=by rw[rangeSize_one];split<;>lia
  show IsRangeIter _ _ (lo+((0:Nat):Int) * 1) ((((hi - lo).toNat:Nat):Int) - ((0:Nat):Int)) 1;rw[e1,e2];exact lI _ rfl
 ·have e:b=(s.heap.push { cls:=.type "range", data:=.fields #[.int lo t,.int hi u,.int 1 v] }).objs.size:=by simpa using hb
  subst e;exact I1.fpOk (lS _) (I1.hok.fresh (lS _))
def iRng1 (ta:TA):TI:=λ σ H R=>ta σ H λ vs H1=>∃j:Int,vs=[.int j] /\ -(2 ^ 62)<=j/\j<2 ^ 62/\R (Itr 0 j.toNat) H1
def iRng2 (ta:TA):TI:=λ σ H R=>ta σ H λ vs H1=>∃i j:Int,vs=[.int i,.int j]/\(-(2 ^ 62)<=i/\i<2 ^ 62 /\ -(2 ^ 62)<=j/\j<2 ^ 62)/\R (Itr i (j - i).toNat) H1
theorem zBl {a:Expr}{ta:TA}{p pos:Pos}(hg:Gl X "range") (hm:X.mg "range" = none) (ha:PA X [a] ta) (hs:starEach [a] X.env=[(false,eval a X.env)]:=by rfl):PI X tg (.Call (.Name "range" p) [a] [] pos) (iRng1 ta):=by
 intro jP s σ H R I h;refine Call_ (zCI I hg hm boot_range (PyProof.Rows.callWith_type1 98 hs rfl));obtain⟨j,e,q1,q2,q⟩:=q1;subst e;cases r1 with
 |cons r rr =>
  cases rr;obtain⟨t,rfl⟩:=r;exact call_range_1 (zHT I1 61 61 q1 q2 (by simpa using q))
theorem zEP {a b:Expr}{ta:TA}{p pos:Pos}(hg:Gl X "range") (hm:X.mg "range" = none) (ha:PA X [a,b] ta) (hs:starEach [a,b] X.env=[(false,eval a X.env),(false,eval b X.env)]:=by rfl) (hs2:starEach [b] X.env=[(false,eval b X.env)]:=by rfl) :
  PI X tg (.Call (.Name "range" p) [a,b] [] pos) (iRng2 ta):=by
 intro jP s σ H R I h;refine Call_ (zCI I hg hm boot_range (PyProof.Rows.callWith_type1 98 (by rw[hs,hs2]) (by rw[hs2];rfl)));obtain⟨i,j,e,⟨q1,q2,q3,q4⟩,q⟩:=q1;subst e;cases r1 with
 |cons r rr =>
  cases rr with
  |cons r' rr =>
   cases rr;obtain⟨t,rfl⟩:=r;obtain⟨t',rfl⟩:=r';exact call_range_2 (zHT I1 q1 q2 q3 q4 q)
def tFor (wi:TI) (g:TG) (tb:TS):TS:=λ D σ H=>wi σ H λ J H1=>∃W:Nat->Nat->St->Hp->Prop,(∃m,W 0 m σ H1)/\∀i m σ H,W i m σ H ->
 (J.stop i H/\D.nx σ H)\/(J.go i H/\∃N:St->Hp->Prop,95/\∀x H',J.yld i H x H'->g x σ H' λ σ2 H2=>tb { D with nx:=N,ct:=N,bk:=D.nx } σ2 H2)
noncomputable def zE3 (fp:List Addr) (h:Heap):List 86:=fp.filterMap λ b=>(h.get? b).map λ o=>(b,o)
theorem zBz {fp:List Addr}{h:Heap}{b:Addr}{o:Obj}(hb:b∈fp) (e:h.get? b=some o):(b,o)∈zE3 fp h:=List.mem_filterMap.mpr ⟨b,hb,by rw[e];rfl⟩
theorem zJA {fp:List Addr}{h:Heap}{p:Addr × Obj}(hp:p∈zE3 fp h):p.1∈fp/\h.get? p.1=some p.2:=by
 obtain⟨b,hb,e⟩:=List.mem_filterMap.mp hp;cases q:h.get? b with
 |none=>rw[q] at e;cases e
 |some o =>
  rw[q] at e;have e':(b,o)=p:=mG e;subst e';exact⟨hb,q⟩
theorem Inv.pinned {jP:List 86}{σ:St}{H:Hp}{s:Shared}{fp:List Addr}(I:Inv X jP σ H s) (hf:∀b∈fp,FpOk X jP H b) (ho:∀b∈fp,∃o,s.heap.get? b=some o/\∀v,o.data ≠ .cell v):Inv X (jP++zE3 fp s.heap) σ H s :=
 I.pins_of λ p hp=>(lM.mp hp).elim (λ z=>I.pin p (mD _ z)) λ z=>by
  obtain⟨hb,e⟩:=zJA z;obtain⟨f0,f1,f2,_⟩:=hf p.1 hb;obtain⟨o,e',d⟩:=ho p.1 hb;rw[e] at e';cases e';exact⟨e,f0,f1,f2,d⟩
theorem Inv.unpinned {jP pl:List 86}{σ:St}{H:Hp}{s:Shared}(I:Inv X (jP++pl) σ H s):Inv X jP σ H s:=I.pins_of λ p hp=>I.pin p (mD _ (mH _ hp))
theorem zAr {iter:Expr}{body:List Stmt}{wi:TI}{g:TG}{tb:TS}{pos:Pos}(hp:PassesOwn 74 X.A X.env X.xe) (hc:X.calm=true) (hi:PI X tg iter wi) (hg:PG X tg g) (hb:PSs X body tb)
  (hs:∀x,foldedSetIterable iter X.env x=pure x:=by intro _;rfl):PS X (.For tg iter body [] pos) (tFor wi g tb):=by
 intro jP s σ H D I h;refine wpAny_For (thn (hi jP s σ H _ I h) λ v s1 h1=>thn h1 λ itv s2 h2=>?_) hs;obtain⟨it,fp,tn,J,H2,e,I2,T,st2,f2,W,⟨m0,w0⟩,turn⟩:=h2;subst e;have stat:∀{H':Hp},(∀b∈fp,H' b=none)->∀b∈fp,FpOk X jP H' b:=λ hn b hb=>⟨hn b hb,(f2 b hb).2⟩;refine codeAny_forLoop_any (λ n s'=>∃i σ' H',Inv X jP σ' H' s'/\tn i s'.heap/\(∀b∈fp,H' b=none)/\W i n σ' H') ?_ m0 ⟨0,σ,H2,I2,st2,λ b hb=>(f2 b hb).1,w0⟩;rintro n s3 ⟨i,σ3,H3,I3,st3,fr3,w3⟩;rcases turn i n σ3 H3 w3 with ⟨stop,qn⟩|⟨go,N,hN,step⟩
 ·refine wpAny_passesOwn hp (thn (T.done X rfl rfl rfl hc i jP s3 σ3 H3 X.xe I3 (stat fr3) st3 stop) λ r s4 ⟨hr,I4⟩=>?_)
  subst hr;exact wpAny_execs_nil ⟨σ3,H3,I4,qn⟩
 ·refine wpAny_passesOwn hp (thn (T.item X rfl rfl rfl hc i jP s3 σ3 H3 X.xe I3 (stat fr3) st3 go) λ r s4 ⟨u,hr,h4⟩=>?_)
  subst hr;refine wpAny_passesOwn hp (thn h4 λ _ s5 ⟨x,H5,I5,r5,y5,st5,fr5⟩=>?_);have I5':=I5.pinned (stat fr5) (T.obj _ _ st5);refine wpAny_passesOwn hp (thn (hg _ s5 σ3 H5 x u _ I5' r5 (step x H5 y5)) λ _ s6 ⟨σ6,H6,I6,q6⟩=>?_);refine wpAny_passesOwn hp (thn (hb _ s6 σ6 H6 _ I6 q6) λ f s7 q7=>?_)
  have again:∀{σ7:St}{H7:Hp},Inv X (jP++zE3 fp s5.heap) σ7 H7 s7->N σ7 H7->∃m,m<n/\∃i σ' H',Inv X jP σ' H' s7/\tn i s7.heap/\(∀b∈fp,H' b=none)/\W i m σ' H':=λ{σ7 H7} I7 n7=>by
   obtain⟨m',hm,w7⟩:=hN σ7 H7 n7;refine⟨m',hm,i+1,σ7,H7,I7.unpinned,T.keep _ _ _ st5 λ b hb o e=>(I7.pin (b,o) (mD _ (mD _ (zBz hb e)))).1,λ b hb=>?_,w7⟩;obtain⟨o,e,d⟩:=T.obj _ _ st5 b hb;exact(I7.pin (b,o) (mD _ (mD _ (zBz hb e)))).2.1
  cases f with
  |next=>obtain⟨σ7,H7,I7,n7⟩:=q7;exact again I7 n7
  |cont=>obtain⟨σ7,H7,I7,n7⟩:=q7;exact again I7 n7
  |brk=>obtain⟨σ7,H7,I7,q7⟩:=q7;exact⟨σ7,H7,I7.unpinned,q7⟩
  |ret v=>obtain⟨x7,σ7,H7,I7,r7,q7⟩:=q7;exact⟨x7,σ7,H7,I7.unpinned,r7,q7⟩
end
theorem zBR {K:W.Frag}{a:Addr}{xs:List V}{g:TG}{tb:TS}{D:Ends}{σ:St}{H:Hp}(Pv:Nat->St->Hp->Prop) (h0:Pv 0 σ H) (hl:∀i σ H,i<=xs.length->Pv i σ H->SqL K H a xs)
  (hs:∀i x σ H,xs[i]?=some x->Pv i σ H->g x σ H λ σ2 H2=>tb { D with nx:=Pv (i+1),ct:=Pv (i+1),bk:=D.nx } σ2 H2) (hd:∀σ H,Pv xs.length σ H->D.nx σ H) :
  ∃W:Nat->Nat->St->Hp->Prop,(∃m,W 0 m σ H)/\∀i m σ H,W i m σ H ->
   ((Itl K a).stop i H/\D.nx σ H)\/((Itl K a).go i H/\∃N:St->Hp->Prop,95/\∀x H',(Itl K a).yld i H x H'->g x σ H' λ σ2 H2=>tb { D with nx:=N,ct:=N,bk:=D.nx } σ2 H2):=by
 refine⟨λ i m σ H=>m=xs.length - i/\i<=xs.length/\Pv i σ H,⟨xs.length,by simp,mB _,h0⟩,?_⟩;rintro i m σ H ⟨rfl,hi,p⟩;have q:=hl i σ H hi p
 by_cases hlt:i<xs.length
 ·refine .inr ⟨⟨xs,xs[i],q,by simp[hlt]⟩,Pv (i+1),λ σ' H' p'=>⟨xs.length - (i+1),by lia,rfl,hlt,p'⟩,λ x H' y=>?_⟩
  obtain⟨e,y⟩:=y;subst e;exact hs i x σ _ (y xs q) p
 ·have e:i=xs.length:=by lia
  subst e;exact .inl ⟨⟨xs,q,lS _⟩,hd σ H p⟩
theorem zFa {K:W.Frag}{a:Addr}{xs:List V}{g:TG}{tb:TS}{D:Ends}{σ:St}{H:Hp}(Pv:Nat->St->Hp->Prop) (h0:Pv 0 σ H) (hl:∀i σ H,i<=xs.length->Pv i σ H->SqT K H a xs)
  (hs:∀i x σ H,xs[i]?=some x->Pv i σ H->g x σ H λ σ2 H2=>tb { D with nx:=Pv (i+1),ct:=Pv (i+1),bk:=D.nx } σ2 H2) (hd:∀σ H,Pv xs.length σ H->D.nx σ H) :
  ∃W:Nat->Nat->St->Hp->Prop,(∃m,W 0 m σ H)/\∀i m σ H,W i m σ H ->
   ((Itt K a).stop i H/\D.nx σ H)\/((Itt K a).go i H/\∃N:St->Hp->Prop,95/\∀x H',(Itt K a).yld i H x H'->g x σ H' λ σ2 H2=>tb { D with nx:=N,ct:=N,bk:=D.nx } σ2 H2):=by
 refine⟨λ i m σ H=>m=xs.length - i/\i<=xs.length/\Pv i σ H,⟨xs.length,by simp,mB _,h0⟩,?_⟩;rintro i m σ H ⟨rfl,hi,p⟩;have q:=hl i σ H hi p
 by_cases hlt:i<xs.length
 ·refine .inr ⟨⟨xs,xs[i],q,by simp[hlt]⟩,Pv (i+1),λ σ' H' p'=>⟨xs.length - (i+1),by lia,rfl,hlt,p'⟩,λ x H' y=>?_⟩
  obtain⟨e,y⟩:=y;subst e;exact hs i x σ _ (y xs q) p
 ·have e:i=xs.length:=by lia
  subst e;exact .inl ⟨⟨xs,q,lS _⟩,hd σ H p⟩
theorem zBo {lo:Int}{n:Nat}{g:TG}{tb:TS}{D:Ends}{σ:St}{H:Hp}(Pv:Nat->St->Hp->Prop) (h0:Pv 0 σ H)
  (hs:∀i σ H,i<n->Pv i σ H->g (.int (lo+i)) σ H λ σ2 H2=>tb { D with nx:=Pv (i+1),ct:=Pv (i+1),bk:=D.nx } σ2 H2) (hd:∀σ H,Pv n σ H->D.nx σ H) :
  ∃W:Nat->Nat->St->Hp->Prop,(∃m,W 0 m σ H)/\∀i m σ H,W i m σ H ->
   ((Itr lo n).stop i H/\D.nx σ H)\/((Itr lo n).go i H/\∃N:St->Hp->Prop,95/\∀x H',(Itr lo n).yld i H x H'->g x σ H' λ σ2 H2=>tb { D with nx:=N,ct:=N,bk:=D.nx } σ2 H2):=by
 refine⟨λ i m σ H=>m=n - i/\i<=n/\Pv i σ H,⟨n,by simp,mB _,h0⟩,?_⟩;rintro i m σ H ⟨rfl,hi,p⟩
 by_cases hlt:i<n
 ·refine .inr ⟨hlt,Pv (i+1),λ σ' H' p'=>⟨n - (i+1),by lia,rfl,hlt,p'⟩,λ x H' y=>?_⟩
  obtain⟨e,y⟩:=y;subst e y;exact hs i σ _ hlt p
 ·have e:i=n:=by lia
  subst e;exact .inl ⟨lS _,hd σ H p⟩
abbrev R2:=V->V->Hp->VK->Prop
def OpR (X:Cx) (f:Value->Value->Sem Value) (r:R2):Prop :=
 ∀(jP:List 86) (s:Shared) (σ:St) (H:Hp) (x y:V) (v u:Value) (Q:VK),Inv X jP σ H s->RelV x v->RelV y u->r x y H Q ->
  wpAny 74 X.A (f v u) (EP X jP σ Q) X.xe s
def UnR (X:Cx) (f:Value->Sem Value) (r:V->Hp->VK->Prop):Prop :=
 ∀(jP:List 86) (s:Shared) (σ:St) (H:Hp) (x:V) (v:Value) (Q:VK),Inv X jP σ H s->RelV x v->r x H Q ->
  wpAny 74 X.A (f v) (EP X jP σ Q) X.xe s
def CallR (X:Cx) (f:Value) (r:List V->Hp->VK->Prop):Prop :=
 ∀(jP:List 86) (s:Shared) (σ:St) (H:Hp) (xs:List V) (us:List Value) (Q:VK),Inv X jP σ H s->Vals xs us->r xs H Q ->
  wpAny 74 X.A (call f us) (EP X jP σ Q) X.xe s
def TruR (X:Cx) (r:V->Hp->(Bool->Hp->Prop)->Prop):Prop :=
 ∀(jP:List 86) (s:Shared) (σ:St) (H:Hp) (x:V) (v:Value) (Q:Bool->Hp->Prop),Inv X jP σ H s->RelV x v->r x H Q ->
  wpAny 74 X.A (truthy v) (TP X jP σ Q) X.xe s
def tOp (r:R2) (ta tb:TE):TE:=λ σ H Q=>ta σ H λ x H1=>tb σ H1 λ y H2=>r x y H2 Q
def tUn (r:V->Hp->VK->Prop) (ta:TE):TE:=λ σ H Q=>ta σ H λ x H1=>r x H1 Q
inductive rI (C:Int->Int->Prop) (g:Int->Int->V) (x y:V) (H:Hp) (Q:VK):Prop
 |mk (i j:Int) (hx:x = .int i) (hy:y = .int j) (c:C i j) (q:Q (g i j) H)
inductive rI0 (g:Int->Int->V) (x y:V) (H:Hp) (Q:VK):Prop
 |mk (i j:Int) (hx:x = .int i) (hy:y = .int j) (q:Q (g i j) H)
inductive rU (g:Int->V) (x:V) (H:Hp) (Q:VK):Prop
 |mk (i:Int) (hx:x = .int i) (q:Q (g i) H)
section
variable {X:Cx}{a b c:Expr}{ta tb tc:TE}{pos:Pos}
theorem binT (ha:PE X a ta) (hb:PE X b tb) {jP:List 86}{s:Shared}{σ:St}{H:Hp}{R:V->V->Hp->Prop}(I:Inv X jP σ H s)
  (h:ta σ H λ x H1=>tb σ H1 λ y H2=>R x y H2) {Q:XQ}{f:Value->Value->Sem Value}
  (hf:∀v u s2 x y H2,Inv X jP σ H2 s2->RelV x v->RelV y u->R x y H2->wpAny 74 X.A (f v u) Q X.xe s2) :
  wpAny 74 X.A (eval a X.env) (λ v s₁=>wpAny 74 X.A (eval b X.env) (λ u s₂=>wpAny 74 X.A (f v u) Q X.xe s₂) X.xe s₁) X.xe s:=by
 refine thn (ha jP s σ H _ I h) λ v s1 ⟨x,H1,I1,r1,q1⟩=>?_;refine thn (hb jP s1 σ H1 _ I1 q1) λ u s2 ⟨y,H2,I2,r2,q2⟩=>?_;exact hf v u s2 x y H2 I2 r1 r2 q2
theorem pe_op {op:Operator}{r:R2}(ho:OpR X (binaryOp op) r) (ha:PE X a ta) (hb:PE X b tb):PE X (.BinOp a op b pos) (tOp r ta tb):=by
 intro jP s σ H Q I h;exact wpAny_BinOp (binT ha hb I h λ v u s2 x y H2 I2 rx ry q=>ho jP s2 σ H2 x y v u Q I2 rx ry q)
theorem pe_un {op:UnaryOp}{r:V->Hp->VK->Prop}(ho:UnR X (unaryOp op) r) (ha:PE X a ta):PE X (.UnaryOp op a pos) (tUn r ta):=by
 intro jP s σ H Q I h;exact UnaryOp_ (thn (ha jP s σ H _ I h) λ v s1 ⟨x,H1,I1,r1,q1⟩=>ho jP s1 σ H1 x v Q I1 r1 q1)
theorem opI {f:Value->Value->Sem Value}{C:Int->Int->Prop}{g:Int->Int->Int}
  (rule:∀(i j:Int) (t u:Tok) (s:Shared) (Q:XQ) (E:XQ),C i j->Q (.int (g i j) s.toks) { s with toks:=s.toks+1 }->wpAny 74 X.A (f (.int i t) (.int j u)) Q E s) :
  OpR X f (rI C λ i j=>.int (g i j)):=by
 intro jP s σ H x y v u Q I rx ry h;obtain⟨i,j,rfl,rfl,hc,q⟩:=h;obtain⟨t,rfl⟩:=rx;obtain⟨t',rfl⟩:=ry;exact rule i j t t' s _ _ hc ⟨.int (g i j),H,I.tok _,72,q⟩
theorem opI0 {f:Value->Value->Sem Value}{g:Int->Int->Int}
  (rule:∀(i j:Int) (t u:Tok) (s:Shared) (Q:XQ) (E:XQ),Q (.int (g i j) s.toks) { s with toks:=s.toks+1 }->wpAny 74 X.A (f (.int i t) (.int j u)) Q E s) :
  OpR X f (rI0 λ i j=>.int (g i j)):=by
 intro jP s σ H x y v u Q I rx ry h;obtain⟨i,j,rfl,rfl,q⟩:=h;obtain⟨t,rfl⟩:=rx;obtain⟨t',rfl⟩:=ry;exact rule i j t t' s _ _ ⟨.int (g i j),H,I.tok _,72,q⟩
theorem opB0 {f:Value->Value->Sem Value}{g:Int->Int->Bool}
  (rule:∀(i j:Int) (t u:Tok) (s:Shared) (Q:XQ) (E:XQ),Q (.bool (g i j)) s->wpAny 74 X.A (f (.int i t) (.int j u)) Q E s) :
  OpR X f (rI0 λ i j=>.bl (g i j)):=by
 intro jP s σ H x y v u Q I rx ry h;obtain⟨i,j,rfl,rfl,q⟩:=h;obtain⟨t,rfl⟩:=rx;obtain⟨t',rfl⟩:=ry;exact rule i j t t' s _ _ ⟨.bl (g i j),H,I,rfl,q⟩
def CDiv (i j:Int):Prop:=0<j/\j<1073741824
def CPow (i j:Int):Prop:=0<=j/\j<=1000000/\i.natAbs<2 ^ 64
def CMul (i j:Int):Prop:=(-(2 ^ 64)<i/\i<2 ^ 64)\/(-(2 ^ 64)<j/\j<2 ^ 64)
theorem CMul.ok {i j:Int}(h:CMul i j):IntMulOk i j:=by
 rcases h with ⟨h1,h2⟩|⟨h1,h2⟩
 ·exact .of_left (intBits_le_64 h1 h2)
 ·exact .of_right (intBits_le_64 h1 h2)
theorem zBm:OpR X (binaryOp .Add) (rI0 λ i j=>.int (i+j)):=opI0 λ Ω Ω Ω Ω Ω Ω Ω q=>add_int q
theorem zEX:OpR X (binaryOp .Sub) (rI0 λ i j=>.int (i - j)):=opI0 λ Ω Ω Ω Ω Ω Ω Ω q=>sub_int q
theorem zD6:OpR X (binaryOp .Mult) (rI CMul λ i j=>.int (i * j)):=opI λ Ω Ω Ω Ω Ω Ω Ω hc q=>mul_int q hc.ok
theorem zB5:OpR X (binaryOp .FloorDiv) (rI CDiv λ i j=>.int (i / j)):=opI λ i j Ω Ω Ω Ω Ω hc q=>by
 have h1:(0:Int)<j:=hc.1;have h2:j<1073741824:=hc.2;exact floordiv_int 61 (by rw[Int.fdiv_eq_ediv_of_nonneg i 61];exact q) (.inl (PyProof.noPylong_small 61))
theorem zA9:OpR X (binaryOp .Mod) (rI (λ Ω j=>0<j) λ i j=>.int (i % j)):=opI λ i j Ω Ω Ω Ω Ω hc q=>by
 have h1:(0:Int)<j:=hc;exact mod_int' 61 (by rw[Int.fmod_eq_emod_of_nonneg i 61];exact q)
theorem zLD:OpR X (binaryOp .Pow) (rI CPow λ i j=>.int (i ^ j.toNat)):=opI λ Ω Ω Ω Ω Ω Ω Ω hc q=>pow_int_small hc.1 hc.2.1 hc.2.2 q
theorem unI {f:Value->Sem Value}{g:Int->Int}
  (rule:∀(i:Int) (t:Tok) (s:Shared) (Q:XQ) (E:XQ),Q (.int (g i) s.toks) { s with toks:=s.toks+1 }->wpAny 74 X.A (f (.int i t)) Q E s) :
  UnR X f (rU λ i=>.int (g i)):=by
 intro jP s σ H x v Q I rx h;obtain⟨i,rfl,q⟩:=h;obtain⟨t,rfl⟩:=rx;exact rule i t s _ _ ⟨.int (g i),H,I.tok _,72,q⟩
theorem zBX:UnR X (unaryOp .USub) (rU λ i=>.int (-i)):=unI λ Ω Ω Ω Ω Ω q=>neg_int q
end
noncomputable def scal:V->V->Bool
 |.non,.non=>true|.non,.int _=>true|.int _,.non=>true|.non,.bl _=>true|.bl _,.non=>true|.non,.str _=>true|.str _,.non=>true
 |.int _,.int _=>true|.bl _,.bl _=>true|.str _,.str _=>true|.byt _,.byt _=>true
 |.int _,.str _=>true|.str _,.int _=>true|.bl _,.str _=>true|.str _,.bl _=>true
 |_,_=>false
def rEq:R2:=λ x y H Q=>scal x y=true/\Q (.bl (decide (x=y))) H
def rNe:R2:=λ x y H Q=>scal x y=true/\Q (.bl (!decide (x=y))) H
theorem zJu {i j:Int}:decide (V.int i=V.int j)=(i == j):=by
 rw[Bool.eq_iff_iff];simp
theorem zLS {i j:Bool}:decide (V.bl i=V.bl j)=(i == j):=by
 rw[Bool.eq_iff_iff];simp
theorem zFc {i j:Str}:decide (V.str i=V.str j)=(i == j):=by
 rw[Bool.eq_iff_iff];simp
theorem zJv {i j:Array UInt8}:decide (V.byt i=V.byt j)=(i.toList == j.toList):=by
 rw[Bool.eq_iff_iff];cases i;cases j;simp
section
variable {X:Cx}{a b c:Expr}{ta tb tc:TE}{pos:Pos}
theorem zAp {jP:List 86}{σ:St}{H:Hp}{s:Shared}{Q:VK}{k k':Bool}(I:Inv X jP σ H s) (q:Q (.bl k) H) (e:k=k'):EP X jP σ Q (.bool k') s:=by
 subst e;exact⟨.bl k,H,I,rfl,q⟩
theorem op_eq:OpR X (compareOp .Eq) rEq:=by
 intro jP s σ H x y v u Q I rx ry h;obtain⟨hs,q⟩:=h;cases x with
 |non =>
  cases rx;cases y with
  |non=>cases ry;exact PySem.EqNone.eq_none_none (zAp I q 68)
  |bl j=>cases ry;exact PySem.EqNone.eq_none_bool (zAp I q 68)
  |int j=>obtain⟨t',rfl⟩:=ry;exact PySem.EqNone.eq_none_int (zAp I q 68)
  |str j=>obtain⟨t',rfl⟩:=ry;exact PySem.EqNone.eq_none_str (zAp I q 68)
  |_=>exact absurd (show false=true from hs) lZ
 |bl i =>
  cases rx;cases y with
  |non=>cases ry;exact PySem.EqNone.eq_bool_none (zAp I q 68)
  |bl j=>cases ry;exact eq_bool (zAp I q zLS)
  |str j=>obtain⟨t',rfl⟩:=ry;exact PySem.EqMixed.eq_bool_str (zAp I q 68)
  |_=>exact absurd (show false=true from hs) lZ
 |int i =>
  obtain⟨t,rfl⟩:=rx;cases y with
  |non=>cases ry;exact PySem.EqNone.eq_int_none (zAp I q 68)
  |int j=>obtain⟨t',rfl⟩:=ry;exact eq_int (zAp I q zJu)
  |str j=>obtain⟨t',rfl⟩:=ry;exact PySem.EqMixed.eq_int_str (zAp I q 68)
  |_=>exact absurd (show false=true from hs) lZ
 |str i =>
  obtain⟨t,rfl⟩:=rx;cases y with
  |non=>cases ry;exact PySem.EqNone.eq_str_none (zAp I q 68)
  |bl j=>cases ry;exact PySem.EqMixed.eq_str_bool (zAp I q 68)
  |int j=>obtain⟨t',rfl⟩:=ry;exact PySem.EqMixed.eq_str_int (zAp I q 68)
  |str j=>obtain⟨t',rfl⟩:=ry;exact eq_str (zAp I q zFc)
  |_=>exact absurd (show false=true from hs) lZ
 |byt i =>
  obtain⟨t,rfl⟩:=rx;cases y with
  |byt j=>obtain⟨t',rfl⟩:=ry;exact W.eq_bytes (zAp I q zJv)
  |_=>exact absurd (show false=true from hs) lZ
 |_=>cases y<;>exact absurd (show false=true from hs) lZ
theorem op_ne:OpR X (compareOp .NotEq) rNe:=by
 intro jP s σ H x y v u Q I rx ry h;obtain⟨hs,q⟩:=h;cases x with
 |non =>
  cases rx;cases y with
  |non=>cases ry;exact PySem.EqNone.ne_none_none (zAp I q 68)
  |bl j=>cases ry;exact PySem.EqNone.ne_none_bool (zAp I q 68)
  |int j=>obtain⟨t',rfl⟩:=ry;exact PySem.EqNone.ne_none_int (zAp I q 68)
  |str j=>obtain⟨t',rfl⟩:=ry;exact PySem.EqNone.ne_none_str (zAp I q 68)
  |_=>exact absurd (show false=true from hs) lZ
 |bl i =>
  cases rx;cases y with
  |non=>cases ry;exact PySem.EqNone.ne_bool_none (zAp I q 68)
  |bl j=>cases ry;exact ne_bool (zAp I q (congrArg not zLS))
  |str j=>obtain⟨t',rfl⟩:=ry;exact PySem.EqMixed.ne_bool_str (zAp I q 68)
  |_=>exact absurd (show false=true from hs) lZ
 |int i =>
  obtain⟨t,rfl⟩:=rx;cases y with
  |non=>cases ry;exact PySem.EqNone.ne_int_none (zAp I q 68)
  |int j=>obtain⟨t',rfl⟩:=ry;exact ne_int (zAp I q (congrArg not zJu))
  |str j=>obtain⟨t',rfl⟩:=ry;exact PySem.EqMixed.ne_int_str (zAp I q 68)
  |_=>exact absurd (show false=true from hs) lZ
 |str i =>
  obtain⟨t,rfl⟩:=rx;cases y with
  |non=>cases ry;exact PySem.EqNone.ne_str_none (zAp I q 68)
  |bl j=>cases ry;exact PySem.EqMixed.ne_str_bool (zAp I q 68)
  |int j=>obtain⟨t',rfl⟩:=ry;exact PySem.EqMixed.ne_str_int (zAp I q 68)
  |str j=>obtain⟨t',rfl⟩:=ry;exact ne_str (zAp I q (congrArg not zFc))
  |_=>exact absurd (show false=true from hs) lZ
 |byt i =>
  obtain⟨t,rfl⟩:=rx;cases y with
  |byt j=>obtain⟨t',rfl⟩:=ry;exact W.ne_bytes (zAp I q (congrArg not zJv))
  |_=>exact absurd (show false=true from hs) lZ
 |_=>cases y<;>exact absurd (show false=true from hs) lZ
theorem op_lt:OpR X (compareOp .Lt) (rI0 λ i j=>.bl (decide (i<j))):=opB0 λ Ω Ω Ω Ω Ω Ω Ω q=>lt_int q
theorem op_gt:OpR X (compareOp .Gt) (rI0 λ i j=>.bl (decide (j<i))):=opB0 λ Ω Ω Ω Ω Ω Ω Ω q=>gt_int q
theorem op_ge:OpR X (compareOp .GtE) (rI0 λ i j=>.bl (decide (j<=i))):=opB0 λ Ω Ω Ω Ω Ω Ω Ω q=>ge_int q
theorem zMd:OpR X (compareOp .Is) (λ x y H Q=>y = .non/\Q (.bl (decide (x = .non))) H):=by
  intro jP s σ H x y v u Q I rx ry h;obtain⟨rfl,q⟩:=h;cases ry;refine is_none_gen (zAp I q ?_)
  cases x<;>first
    | (cases rx;rfl)
    | (obtain⟨t,rfl⟩:=rx;rfl)
theorem zLo:OpR X (compareOp .IsNot) (λ x y H Q=>y = .non/\Q (.bl (!decide (x = .non))) H):=by
  intro jP s σ H x y v u Q I rx ry h;obtain⟨rfl,q⟩:=h;cases ry;refine isnot_none_gen (zAp I q ?_)
  cases x<;>first
    | (cases rx;rfl)
    | (obtain⟨t,rfl⟩:=rx;rfl)
theorem zF6:OpR X (compareOp .NotIn) (λ x y H Q=>E2 λ i j=>A3 (x = .str i) (y = .str j) (Q (.bl (!(!(Builtin.Str.occurrences j i 0 j.length 1).isEmpty))) H)):=by
 intro jP s σ H x y v u Q I rx ry h;obtain⟨i,j,rfl,rfl,q⟩:=h;obtain⟨t,rfl⟩:=rx;obtain⟨t',rfl⟩:=ry;exact notIn_str (zAp I q rfl)
theorem zAQ (b:Expr) {op:CmpOp}(h:op ≠ .In:=by decide) (h2:op ≠ .NotIn:=by decide):behindInMarks op b=false:=by
 have e1:(op == CmpOp.In)=false:=by cases op<;>first|rfl|exact absurd rfl h
 have e2:(op == CmpOp.NotIn)=false:=by cases op<;>first|rfl|exact absurd rfl h2
 cases b<;>simp[behindInMarks,e1,e2]
theorem zAx {op:CmpOp}{r:R2}(ho:OpR X (compareOp op) r) (ha:PE X a ta) (hb:PE X b tb) (hm:behindInMarks op b=false):PE X (.Compare a [op] [b] pos) (tOp r ta tb):=by
 intro jP s σ H Q I h;exact wpAny_Compare1 (binT ha hb I h λ v u s2 x y H2 I2 rx ry q=>ho jP s2 σ H2 x y v u Q I2 rx ry q) hm
def tTest (t:TE):TT:=λ σ H Q=>t σ H (IsB Q)
theorem zAJ {op:CmpOp}{r:R2}(ho:OpR X (compareOp op) r) (ha:PE X a ta) (hb:PE X b tb) (hm:behindInMarks op b=false):PT X (.Compare a [op] [b] pos) (tTest (tOp r ta tb)):=by
 intro jP s σ H Q I h
 refine wpAny_isTrue_Compare1 (thn (ha jP s σ H _ I h) λ v s1 ⟨x,H1,I1,r1,q1⟩=>thn (hb jP s1 σ H1 _ I1 q1) λ u s2 ⟨y,H2,I2,r2,q2⟩ =>
  thn (ho jP s2 σ H2 x y v u _ I2 r1 r2 q2) λ c s3 ⟨z,H3,I3,r3,k,e,q3⟩=>?_) hm
 subst e;cases r3;exact wpAny_truthy_bool ⟨H3,I3,q3⟩
def TruV (K:W.Frag) (x:V) (H:Hp) (k:Bool):Prop :=
 match x with
 |.non=>k=false
 |.bl b=>k=b
 |.int i=>k=(i != 0)
 |.str y=>y.length<=sizeLine/\k=((y.length:Int) != 0)
 |.byt y=>y.size<=sizeLine/\k=((y.size:Int) != 0)
 |.ref p=>(∃xs,SqL K H p xs/\k=!xs.isEmpty)\/(∃xs,SqT K H p xs/\k=!xs.isEmpty)\/∃kvs,H p=some (.dK kvs)/\k=!kvs.isEmpty
 |_=>False
theorem zIJ {κ:Type}{kvs:List (κ × V)}{vs:List (κ × Value)}(r:KV kvs vs):(!vs.isEmpty)=!kvs.isEmpty:=by
 cases r<;>rfl
theorem zFC {xs:List V}{its:List Value}(r:Vals xs its):(!its.toArray.isEmpty)=!xs.isEmpty:=by
 cases r<;>simp
theorem zDe:(sizeLine:Nat)<2 ^ 63:=by rw[sizeLine_eq];decide
theorem zKx:TruR X (λ x H Q=>∃k,TruV X.K x H k/\Q k H):=by
 intro jP s σ H x v Q I rx h;obtain⟨k,e,q⟩:=h;have hl:=zDe;have hs:sizeLine=16777216:=sizeLine_eq;cases x with
 |non =>
  cases rx;have e':k=false:=e;subst e';exact truthy_none ⟨H,I,q⟩
 |bl b =>
  cases rx;have e':k=b:=e;subst e';exact wpAny_truthy_bool ⟨H,I,q⟩
 |int i =>
  obtain⟨t,rfl⟩:=rx;have e':k=(i != 0):=e;subst e';exact PySem.P.truthy_int ⟨H,I,q⟩
 |str y =>
  obtain⟨t,rfl⟩:=rx;obtain⟨hy,e'⟩:y.length<=sizeLine/\k=((y.length:Int) != 0):=e;subst e';exact PySem.P.truthy_str 61 ⟨H,I.tok _,q⟩
 |byt y =>
  obtain⟨t,rfl⟩:=rx;obtain⟨hy,e'⟩:y.size<=sizeLine/\k=((y.size:Int) != 0):=e;subst e';exact W.truthy_bytes 61 ⟨H,I.tok _,q⟩
 |ref p =>
  cases rx;have e':(∃xs,SqL X.K H p xs/\k=!xs.isEmpty)\/(∃xs,SqT X.K H p xs/\k=!xs.isEmpty)\/∃kvs,H p=some (.dK kvs)/\k=!kvs.isEmpty:=e;rcases e' with ⟨xs,hx,e'⟩|⟨xs,hx,e'⟩|⟨kvs,hx,e'⟩
  ·subst e'
   obtain⟨its,r,pl,hz⟩:=I.list hx;have hlen:=r.length;exact wpAny_truthy_list pl.isList (by simp only[mF];lia) ⟨H,I.tok _,by rw[zFC r];exact q⟩
  ·subst e'
   obtain⟨its,r,pl,hz⟩:=I.tuple hx;have hlen:=r.length;exact truthy_tuple pl (by simp only[mF];lia) ⟨H,I.tok _,by rw[zFC r];exact q⟩
  ·subst e'
   obtain⟨hz,hS,vs,r,m⟩:kvs.length<=sizeLine/\(p == sysModules)=false/\∃vs,KV kvs vs/\s.heap.DictOf (zAo X.prog X.w) p vs:=I.hok p _ hx;have hlen:kvs.length=vs.length:=Paired.length r;exact wpAny_truthy_dict hS m 61 ⟨H,I.tok _,by rw[zIJ r];exact q⟩
 |_=>exact(show False from e).elim
theorem zCW (ha:PE X a ta) (he:∀whole,isTrue a X.env whole=(do let v ← whole;standAt a.pos;holding [v] (truthy v))) :
    PT X a (λ σ H Q=>ta σ H λ x H'=>∃k,TruV X.K x H' k/\Q k H'):=by
  intro jP s σ H Q I h;exact isTrue_plain (thn (ha jP s σ H _ I h) λ v s1 ⟨x,H1,I1,r1,q1⟩=>zKx jP s1 σ H1 x v Q I1 r1 q1) (he _)
theorem zFA:OpR X (binaryOp .Add) (λ x y H Q=>E2 λ i j=>A4 (x = .str i) (y = .str j) (i.length+j.length<=sizeLine) (Q (.str (i++j)) H)):=by
 intro jP s σ H x y v u Q I rx ry h;obtain⟨i,j,rfl,rfl,hz,q⟩:=h;obtain⟨t,rfl⟩:=rx;obtain⟨t',rfl⟩:=ry;exact add_str (λ t' tk=>⟨.str (i++j),H,I.tok _,72,q⟩) hz
theorem vals1 {x:V}{us:List Value}(r:Vals [x] us):∃u,us=[u]/\RelV x u:=by
 cases r with
 |cons r1 r2=>cases r2;exact⟨_,rfl,r1⟩
theorem vals2 {x y:V}{us:List Value}(r:Vals [x,y] us):∃u w',us=[u,w']/\RelV x u/\RelV y w':=by
 cases r with
 |cons r1 r2 =>
  cases r2 with
  |cons r3 r4=>cases r4;exact⟨_,_,rfl,r1,r3⟩
theorem zJ2:CallR X (.type "int") (λ xs H Q=>(∃i,xs=[.int i]/\Q (.int i) H)\/∃k,xs=[.bl k]/\Q (.int (if k then 1 else 0)) H):=by
 intro jP s σ H xs us Q I r h;rcases h with ⟨i,rfl,q⟩|⟨k,rfl,q⟩
 ·obtain⟨u,rfl,t,rfl⟩:=vals1 r
  exact call_int_int ⟨.int i,H,I,72,q⟩
 ·obtain⟨u,rfl,r1⟩:=vals1 r
  cases r1;exact call_int_bool ⟨.int (if k then 1 else 0),H,I.tok _,72,q⟩
end
structure ObjM (h:Heap) (x dx C:Addr) (mA:Str->Option Value):Prop where
 obj:h.get? x=some (W.instObj C dx)
 ns:h.Ns1 dx mA
 ne:dx≠x
set_option tactic.hygienic true in
theorem zJM {h:Heap}{dx:Addr}{mA:Str->Option Value}(n:h.Ns1 dx mA):∃od,h.get? dx=some od/\∀name,W.lookIn name od=some (mA name):=by
 obtain⟨o,es,ep,ho,hd,hk,_,hm⟩:=n;refine⟨o,ho,λ name=>?_⟩;have e:=hm name;unfold nsFind findBy at e;rw[←Array.find?_toList] at e;unfold W.lookIn;rw[hd];dsimp only;split
 ·rename_i y q
  rw[q] at e;exact congrArg some e
 ·rename_i q
  rw[q] at e
  have a:es.toList.any (·.refKey)=false:=by
   rw[List.any_eq_false];intro y hy;obtain⟨z,t,hkey⟩:=hk y (Array.mem_toList_iff.mp hy);simp[DictEntry.refKey,hkey]
  have a':¬es.toList.any (·.refKey)=true:=by rw[a];exact lZ
  rw[if_neg a'];exact congrArg some e
theorem ObjM.look {h:Heap}{x dx C:Addr}{mA:Str->Option Value}(I:ObjM h x dx C mA):∃od,W.InstAt h x (W.instObj C dx) C (some od)/\∀name,W.lookIn name od=some (mA name) :=
 let ⟨od,ho,hl⟩:=zJM I.ns
 ⟨od,⟨I.obj,rfl,rfl,ho⟩,hl⟩
theorem RelO.some_of {v:V}{o:Option Value}(r:RelO (some v) o):∃u,o=some u/\RelV v u:=by
 cases o with
 |none=>exact(show False from r).elim
 |some u=>exact⟨u,rfl,r⟩
section
variable {P:Program}{w:World}{H H':Hp}{h h':Heap}{a C dx:Addr}{fs fs':List (Str × V)}
theorem zL5 (hok:HOk P w H h) (e:H a=some (.ins C dx fs)):∃mA,ObjM h a dx C mA/\(∀f,RelO (fs.lookup f) (mA f))/\PySem.Within mA (fs.map (·.1))/\fs.length<=1000/\H dx=some (.own a):=by
 obtain⟨d,z,ne,ob,mA,n,r,q⟩:=(show ObjOk P w H h a (.ins C dx fs) from hok a _ e);exact⟨mA,⟨ob,n,ne⟩,r,q,z,d⟩
end
structure Cls (K:W.Frag) (C:Addr):Prop where
 pg:W.plainGet K C Str.empty=true
 hd:W.hasDictIn K C=true
 po:W.plainOver K C=true
 sa:W.findIn K (.ref C) "__setattr__" = some (some (.builtin "object.__setattr__"))
theorem Cls.get {K:W.Frag}{C:Addr}(c:Cls K C) (f:Str):W.plainGet K C f=true:=c.pg
section
variable {X:Cx}{jP:List (Addr × Obj)}{σ:St}{H:Hp}{s:Shared}{A:Around}{E:XQ}{Q:XQ}{c:Value}{b:Bool}
inductive TyOf (K:W.Frag) (H:Hp):V->Value->Prop where
 |non:TyOf K H .non (.type "NoneType")
 |bl (x:Bool):TyOf K H (.bl x) (.type "bool")
 |int (i:Int):TyOf K H (.int i) (.type "int")
 |str (x:Str):TyOf K H (.str x) (.type "str")
 |flt (x:UInt64):TyOf K H (.flt x) (.type "float")
 |lst {a:Addr}{xs:List V}(e:H a=some (.lst xs)):TyOf K H (.ref a) (.type "list")
 |frz {a:Addr}{o:Obj}{xs:List V}(e:H a=some (.frz o (.lst xs))):TyOf K H (.ref a) (.type "list")
 |tup {a:Addr}{xs:List V}(e:H a=some (.tup xs)):TyOf K H (.ref a) (.type "tuple")
 |dK {a:Addr}{kvs:List (Key × V)}(e:H a=some (.dK kvs)):TyOf K H (.ref a) (.type "dict")
 |dT {a:Addr}{kvs:List (List Key × V)}(e:H a=some (.dT kvs)):TyOf K H (.ref a) (.type "dict")
 |ins {a C dx:Addr}{fs:List (Str × V)}(e:H a=some (.ins C dx fs)) (cl:Cls K C) (ha:W.findIn K (.ref C) "__class__" = some (some (.builtin "object.__class__")))
   (hn:W.specialIn K (.builtin "object.__class__") "__get__" = some (some (.builtin "getset_descriptor.__get__"))) (htk:W.takesIn K (.builtin "object.__class__")=some true)
   (hm:W.mroIn K C (.type "object")=some true):TyOf K H (.ref a) (.ref C)
theorem zJf {x:V}{u t:Value}(I:Inv X jP σ H s) (rx:RelV x u) (ty:TyOf X.K H x t) (e:W.kitOne X.K t c=some b) (h:∀tk,Q (.bool b) { s with toks:=tk }) :
  wpAny 74 A (call (.builtin "isinstance") [u,c]) Q E s:=by
 cases ty with
 |non=>cases (show u=Value.none from rx);exact W.kia_one W.kitx_none I.kIn True.intro e 87 h
 |bl y=>cases (show u=Value.bool y from rx);exact W.kia_one W.kitx_bool I.kIn True.intro e 87 h
 |int i=>obtain⟨t,q⟩:=(show ∃t,u=Value.int i t from rx);cases q;exact W.kia_one W.kitx_int I.kIn True.intro e 87 h
 |str y=>obtain⟨t,q⟩:=(show ∃t,u=Value.str y t from rx);cases q;exact W.kia_one W.kitx_str I.kIn True.intro e 87 h
 |flt y=>obtain⟨t,q⟩:=(show ∃t,u=Value.float y t from rx);cases q;exact W.kia_one W.kitx_float I.kIn True.intro e 87 h
 | @lst a xs ea =>
  cases (show u=Value.ref a from rx);obtain⟨_,_,n,_,h1⟩:=(show ObjOk X.prog X.w H s.heap a (.lst xs) from I.hok a _ ea);exact W.kia_one W.kitx_list I.kIn ⟨_,h1,rfl⟩ e 87 h
 | @frz a ob xs ea =>
  cases (show u=Value.ref a from rx);obtain⟨_,_,_,n,_,h1⟩:=(show ObjOk X.prog X.w H s.heap a (.frz ob (.lst xs)) from I.hok a _ ea);exact W.kia_one W.kitx_list I.kIn ⟨_,h1,rfl⟩ e 87 h
 | @tup a xs ea =>
  cases (show u=Value.ref a from rx);obtain⟨_,_,_,p⟩:=(show ObjOk X.prog X.w H s.heap a (.tup xs) from I.hok a _ ea);obtain⟨o,h1,h2,_⟩:=p;exact W.kia_one W.kitx_tuple I.kIn ⟨o,h1,h2⟩ e 87 h
 | @dK a kvs ea =>
  cases (show u=Value.ref a from rx);obtain⟨_,_,vs,_,p⟩:=(show ObjOk X.prog X.w H s.heap a (.dK kvs) from I.hok a _ ea);obtain⟨o,es,ep,h1,h2,_⟩:=p;exact W.kia_one W.kitx_dict I.kIn ⟨o,h1,h2.1⟩ e 87 h
 | @dT a kvs ea =>
  cases (show u=Value.ref a from rx);obtain⟨_,_,xs,_,o,es,ep,h1,h2,_⟩:=(show ObjOk X.prog X.w H s.heap a (.dT kvs) from I.hok a _ ea);exact W.kia_one W.kitx_dict I.kIn ⟨o,h1,h2.1⟩ e 87 h
 | @ins a C dx fs ea cl ha hn htk hm =>
  cases (show u=Value.ref a from rx);obtain⟨mA,O,_⟩:=zL5 I.hok ea;obtain⟨od,J,_⟩:=O.look;exact W.kia_one (W.kitx_own (cl.get _) cl.hd ha hn htk hm) I.kIn J e 87 h
end
structure Room (k:Nat) (A:Around):Prop where
 hd:A.handled=none
 dp:A.depth+3 * k+5<recursionLimit
 un:A.units+16 * k+200<cLine
theorem Room.mono {j k:Nat}{A:Around}(r:Room k A) (h:j<=k):Room j A:=⟨r.hd,by have:=r.dp;lia,by have:=r.un;lia⟩
theorem Room.deeper {k:Nat}{A:Around}(r:Room (k+1) A) (env:Env):Room k (A.deeper env) :=
 ⟨r.hd,by have:=r.dp;show A.depth+1+3 * k+5<_;lia,by have:=r.un;show A.units+3+16 * k+200<_;lia⟩
theorem Room.depth {k:Nat}{A:Around}(r:Room k A):A.depth<recursionLimit:=by have:=r.dp;lia
theorem Room.units {k:Nat}{A:Around}(r:Room k A):A.units+64<cLine:=by have:=r.un;lia
def tNil:TA:=λ Ω H Q=>Q [] H
def tCons (ta:TE) (tr:TA):TA:=λ σ H Q=>ta σ H λ x H1=>tr σ H1 λ xs H2=>Q (x::xs) H2
section
variable {X:Cx}{e:Expr}{es:List Expr}{te:TE}{t:TA}{pos:Pos}
theorem zAD:PA X [] tNil:=λ Ω Ω Ω Ω H Q I h=>Calls.spliced_nil ⟨[],H,I,.nil,h⟩
theorem zAA (ha:PE X e te) (hr:PA X es t) (hs:starEach (e::es) X.env=(false,eval e X.env)::starEach es X.env:=by rfl):PA X (e::es) (tCons te t):=by
 intro pos jP s σ H Q I h;rw[hs];show wpAny _ _ (spliced ((false,eval e X.env)::backTo pos (starEach es X.env))) _ _ s;refine Calls.spliced_cons (thn (ha jP s σ H _ I h) λ u s1 ⟨x,H1,I1,r1,q1⟩=>?_);exact thn (hr pos jP s1 σ H1 _ I1 q1) λ us s2 ⟨xs,H2,I2,r2,q2⟩=>⟨x::xs,H2,I2,.cons r1 r2,q2⟩
def tTup (t:TA):TE:=λ σ H Q=>t σ H λ xs H1=>xs.length<=sizeLine/\∀p,H1 p=none->Q (.ref p) (upd H1 p (.tup xs))
def tLst (t:TA):TE:=λ σ H Q=>t σ H λ xs H1=>xs.length<=sizeLine/\∀p,H1 p=none->Q (.ref p) (upd H1 p (.lst xs))
theorem zAZ {x1} (h:PA X es t):PE X (.Tuple es x1 pos) (tTup t):=by
 intro jP s σ H Q I hq;refine wpAny_Tuple_spliced (thn (h pos jP s σ H _ I hq) λ us s1 ⟨xs,H1,I1,r,z,q⟩=>⟨by rw[←r.length];exact z,?_⟩);have hf:H1 s1.heap.objs.size=none:=I1.hok.fresh (lS _);refine⟨.ref s1.heap.objs.size,upd H1 s1.heap.objs.size (.tup xs),I1.laid (t':=s1.toks) (λ b u e=>lH _ e) (lS _) ?_,rfl,q _ hf⟩;exact⟨z,us,r,⟨_,lI _ rfl,rfl,_,rfl⟩⟩
theorem zA8 (h:PA X es t):PE X (.List es pos) (tLst t):=by
 intro jP s σ H Q I hq;refine wpAny_List_spliced (thn (h pos jP s σ H _ I hq) λ us s1 ⟨xs,H1,I1,r,z,q⟩=>⟨by rw[←r.length];exact z,?_⟩);have hf:H1 s1.heap.objs.size=none:=I1.hok.fresh (lS _);refine⟨.ref s1.heap.objs.size,upd H1 s1.heap.objs.size (.lst xs),I1.laid (t':=s1.toks) (λ b u e=>lH _ e) (lS _) ?_,rfl,q _ hf⟩;exact⟨z,us,0,r,lI _ rfl⟩
end
abbrev Sp:=List V->Hp->VK->XK->Prop
abbrev CXT:=List Env->Hp->Shared->XK->Value->Shared->Prop
structure Env0 (P:Program) (w:World) (K:W.Frag) (mg:Str->Option Value) (base:Heap) (A:Around) (outer:List Env) (s:Shared) (H:Hp):Prop where
 frames:A.frames=some outer
 mod:Mod K mg base
 bs:∀b o,base.get? b=some o->s.heap.get? b=some o/\H b=none
 bsz:base.objs.size<=s.heap.objs.size
 funs:s.heap.FunFrames base outer
 frf:∀b∈frs outer,H b=none
 hok:HOk P w H s.heap
 bare:AllBare s.gens
def CE (outer:List Env) (P:Program) (w:World) (H:Hp) (s:Shared) (Q:VK) (u:Value) (s':Shared):Prop :=
 ∃v H',s'.os=s.os/\AllBare s'.gens/\Un (frs outer) [] H H' s.heap s'.heap/\HOk P w H' s'.heap/\RelV v u/\Q v H'
def CR (CX:CXT) (outer:List Env) (P:Program) (w:World) (H:Hp) (s:Shared) (Q:VK) (E:XK) (r:Result) (s':Shared):Prop :=
 match r with
 |.ok (.ret u)=>CE outer P w H s Q u s'
 |.ok _=>False
 |.error e=>CX outer H s E e s'
structure FnOk (P:Program) (w:World) (K:W.Frag) (mg:Str->Option Value) (base:Heap) (CX:CXT) (k:Nat) (f:Addr) (fd:FuncData) (ps:List Str) (sp:Sp):Prop where
 len:∀vs H Q E,sp vs H Q E->vs.length=ps.length
 run:∀(A:Around) (outer:List Env) (s:Shared) (H:Hp) (args:Args) (us:List Value) (vs:List V) (Q:VK) (E:XK),Room k A->Env0 P w K mg base A outer s H->BindsTo s fd args (ps.zip us)->Vals vs us->sp vs H Q E ->
  codeAny (model P w) A (.call (.ref f) args) (CR CX outer P w H s Q E) s
theorem FnOk.mono {P:Program}{w:World}{K:W.Frag}{mg:Str->Option Value}{base:Heap}{CX:CXT}{j k:Nat}{f:Addr}{fd:FuncData}{ps:List Str}{sp:Sp}(F:FnOk P w K mg base CX j f fd ps sp) (h:j<=k) :
  FnOk P w K mg base CX k f fd ps sp:=⟨F.len,λ A outer s H args us vs Q E hr=>F.run A outer s H args us vs Q E (hr.mono h)⟩
section
variable {X:Cx}{jP:List (Addr × Obj)}{σ:St}{H:Hp}{s s':Shared}
theorem Inv.env0 (I:Inv X jP σ H s):Env0 X.prog X.w X.K X.mg X.base X.A X.stack s H :=
 ⟨I.ok.frames,I.ok.mod,I.bs,mI I.ok.bsz I.sz,I.stack,I.stkFree,I.hok,I.bare⟩
theorem Inv.after {Q:VK}{u:Value}(I:Inv X jP σ H s) (h:CE X.stack X.prog X.w H s Q u s'):EP X jP σ Q u s':=by
 obtain⟨v,H',os,bare,un,hok,r,q⟩:=h;obtain⟨hh,g,d,t,os'⟩:=s';obtain rfl:os'=s.os:=os;exact⟨v,H',I.call (h':=hh) (g':=g) (d':=d) (t':=t) (ch:=[]) un hok bare (λ b z=>absurd z 68),r,q⟩
end
def tCall (sp:Sp) (dvs:List V) (E:XK) (t:TA):TE:=λ σ H Q=>t σ H λ vs H1=>sp (vs++dvs) H1 Q E
def Binds (K:W.Frag) (fd:FuncData) (ps:List Str) (ds:List Value):Prop :=
 ∀(s:Shared) (us:List Value),K.In s.heap->(us++ds).length=ps.length->BindsTo s fd ⟨us,[]⟩ (ps.zip (us++ds))
theorem Binds.all {K:W.Frag}{fd:FuncData}{ps:List Str}(h:∀us:List Value,us.length=ps.length->bindArgs fd ⟨us,[]⟩=pure (ps.zip us)):Binds K fd ps []:=λ s us Ω hl=>by
 rw[nP] at hl ⊢;exact .of_eq (h us hl)
def zKA (CX:CXT) (X:Cx) (E:XK):Prop:=∀(jP:List 86) (σ:St) (H:Hp) (s:Shared) (e:Value) (s':Shared),Inv X jP σ H s->CX X.stack H s E e s'->X.xe e s'
section
variable {X:Cx}{CX:CXT}{k:Nat}{f C:Addr}{fd:FuncData}{ps:List Str}{sp:Sp}{dvs:List V}{ds:List Value}{E:XK}{x m:Str}{p pos apos:Pos}{e o:Expr}{es:List Expr}{ta:TE}{t:TA}
theorem zMS {jP:List 86}{σ:St}{H:Hp}{s:Shared}{Q:VK}{us:List Value}{vs:List V}(F:FnOk X.prog X.w X.K X.mg X.base CX k f fd ps sp) (hr:Room k X.A) (hb:Binds X.K fd ps ds) (hd:Vals dvs ds) (hx:zKA CX X E)
  (I:Inv X jP σ H s) (r:Vals vs us) (h:sp (vs++dvs) H Q E):wpAny 74 X.A (call (.ref f) us) (EP X jP σ Q) X.xe s:=by
 have r2:Vals (vs++dvs) (us++ds):=r.append hd;have hl:(us++ds).length=ps.length:=by rw[←r2.length];exact F.len _ _ _ _ h
 refine wpAny_call (codeAny_mono (F.run X.A X.stack s H ⟨us,[]⟩ (us++ds) (vs++dvs) Q E hr I.env0 (hb s us I.kIn hl) r2 h) λ r s' hq=>?_);cases r with
 |error e=>exact hx jP σ H s e s' I hq
 |ok fl =>
  cases fl with
  |ret u=>exact I.after hq
  |next=>exact False.elim hq
  |brk=>exact False.elim hq
  |cont=>exact False.elim hq
theorem zEU (F:FnOk X.prog X.w X.K X.mg X.base CX k f fd ps sp) (hr:Room k X.A) (hg:Gl X x) (hm:X.mg x=some (.ref f)) (hk:W.keepIn X.K (.ref f)=true) (hb:Binds X.K fd ps ds) (hd:Vals dvs ds) (hx:zKA CX X E)
  (ha:PA X (e::es) t) (hdb:(x == ("__debug__" : Str))=false:=by decide) (he:starEach (e::es) X.env=(false,eval e X.env)::starEach es X.env:=by rfl) (hpl:(backTo pos (starEach es X.env)).any (·.1)=false:=by rfl) :
  PE X (.Call (.Name x p) (e::es) [] pos) (tCall sp dvs E t):=by
 intro jP s σ H Q I h;refine wpAny_Call_Name_kw (zJQ I hg hm ?_ hdb);refine W.callWith_K (h₀:=X.base) I.ok.mod.kin hk (thn (ha pos jP s σ H _ I h) λ us s1 ⟨vs,H1,I1,r,q⟩=>⟨I1.kIn,?_⟩) he hpl;exact zMS F hr hb hd hx I1 r q
end
structure zAW (N P:List Str) (sc:Scope):Prop where
 kind:sc.kind = .function
 co:sc.isCoroutine=false
 gen:sc.isGenerator=false
 nd:N.Nodup
 pre:N.take P.length=P
 par:∀x∈P,sc.names.lookup x=some .local\/sc.names.lookup x=some .cell
 nofree:∀y∈sc.names,y.2 ≠ .free
theorem scI {N P:List Str}{sc:Scope}(a:sc.kind=.function:=by rfl)(b:sc.isCoroutine=false:=by rfl)(c:sc.isGenerator=false:=by rfl)(d:N.Nodup:=by right)(e:N.take P.length=P:=by rfl)(f:∀x∈P,sc.names.lookup x=some .local\/sc.names.lookup x=some .cell:=by right)(g:∀y∈sc.names,y.2≠.free:=by right):zAW N P sc:=⟨a,b,c,d,e,f,g⟩
theorem zGX {kindOf:Str->Option NameKind}{x:Str}:∀{binds:List (Str × Value)}{m:Str->Option Value},(∀v,(x,v)∉binds)->bindL kindOf binds m x=m x
 |[],_,_=>rfl
 | (n,v)::r,m,h=>by
  unfold bindL;rw[zGX λ w hw=>h w (List.mem_cons_of_mem _ hw)];split
  ·have:x≠n:=by rintro rfl;exact h v lP
   simp[this]
  ·rfl
theorem zGZ {kindOf:Str->Option NameKind}{x:Str}:∀{binds:List (Str × Value)}{m:Str->Option Value},(∀v,(x,v)∉binds)->bindC kindOf binds m x=m x
 |[],_,_=>rfl
 | (n,v)::r,m,h=>by
  unfold bindC;rw[zGZ λ w hw=>h w (List.mem_cons_of_mem _ hw)];split
  ·rfl
  ·have:x≠n:=by rintro rfl;exact h v lP
   simp[this]
theorem zGY {kindOf:Str->Option NameKind}{x:Str}{v:Value}:∀{P:List Str}{vs:List Value}{i:Nat}{m:Str->Option Value},P.Nodup->P[i]?=some x->vs[i]?=some v->kindOf x=some .local ->
  bindL kindOf (P.zip vs) m x=some v
 |[],_,_,_,_,h,_,_=>by simp at h
 |_::_,[],_,_,_,_,h,_=>by simp at h
 |p::P,w::vs,0,m,nd,h1,h2,hk=>by
  simp at h1 h2;subst h1;subst h2;show bindL kindOf ((p,w)::P.zip vs) m p=_;unfold bindL;rw[zGX λ v hv=>(rA.mp nd).1 (List.of_mem_zip hv).1,if_pos hk];simp
 |p::P,w::vs,i+1,m,nd,h1,h2,hk=>by
  show bindL kindOf ((p,w)::P.zip vs) m x=_;unfold bindL;exact zGY (i:=i) (rA.mp nd).2 (by simpa using h1) (by simpa using h2) hk
theorem zGa {kindOf:Str->Option NameKind}{x:Str}{v:Value}:∀{P:List Str}{vs:List Value}{i:Nat}{m:Str->Option Value},P.Nodup->P[i]?=some x->vs[i]?=some v->kindOf x≠some .local ->
  bindC kindOf (P.zip vs) m x=some v
 |[],_,_,_,_,h,_,_=>by simp at h
 |_::_,[],_,_,_,_,h,_=>by simp at h
 |p::P,w::vs,0,m,nd,h1,h2,hk=>by
  simp at h1 h2;subst h1;subst h2;show bindC kindOf ((p,w)::P.zip vs) m p=_;unfold bindC;rw[zGZ λ v hv=>(rA.mp nd).1 (List.of_mem_zip hv).1,if_neg hk];simp
 |p::P,w::vs,i+1,m,nd,h1,h2,hk=>by
  show bindC kindOf ((p,w)::P.zip vs) m x=_;unfold bindC;exact zGa (i:=i) (rA.mp nd).2 (by simpa using h1) (by simpa using h2) hk
noncomputable def start (N:List Str) (vs:List V):St:=vs.map some++List.replicate (N.length - vs.length) none
noncomputable def cxOf (CX:CXT) (P:Program) (w:World) (K:W.Frag) (mg:Str->Option Value) (base:Heap) (N:List Str) (qual:Str) (scope:Scope) (f:Addr) (cd:Value) (A:Around) (outer:List Env) (s:Shared) (H:Hp) (E:XK):Cx where
 prog:=P
 w:=w
 K:=K
 mg:=mg
 base:=base
 A:=A.deeper (envOfC qual scope s.heap.objs.size f cd)
 N:=N
 s₀:=s
 H₀:=H
 env:=envOfC qual scope s.heap.objs.size f cd
 outer:=outer
 stack:=envOfC qual scope s.heap.objs.size f cd::outer
 ex:=[]
 calm:=true
 fn:=λ Ω=>true
 pn:=[]
 xe:=λ e s'=>wpAny (model P w) (A.deeper (envOfC qual scope s.heap.objs.size f cd)) (leaving (envOfC qual scope s.heap.objs.size f cd) e) (λ Ω s''=>CX outer H s E e s'') (λ e' s''=>CX outer H s E e' s'') s'
theorem zHq {sc:Scope}{n:Nat}{x:Str}(h:sc.names.lookup x=some .cell):∃c,(cellsFrom n sc.names []).lookup x=some c:=by
 have q:=W.cellsFrom_some sc.names n [] (.inl h);exact Option.isSome_iff_exists.mp q
theorem zJg {CX:CXT}{P:Program}{w:World}{K:W.Frag}{mg:Str->Option Value}{base:Heap}{N ps:List Str}{qual:Str}{scope:Scope}{f:Addr}{cd:Value}{A:Around}{outer:List Env}{s s1:Shared}{H:Hp}{E:XK}{us:List Value}{vs:List V}
  (S:zAW N ps scope) (hd:A.handled=none) (e0:Env0 P w K mg base A outer s H) (hl:vs.length=ps.length) (r:Vals vs us)
  (x:InCallC s s.heap.objs.size (bindL (envOfC qual scope s.heap.objs.size f cd).kindOf (ps.zip us) λ Ω=>none) (cellsFrom (s.heap.objs.size+1) scope.names []) (bindC (envOfC qual scope s.heap.objs.size f cd).kindOf (ps.zip us) λ Ω=>none) s1) :
  Inv (cxOf CX P w K mg base N qual scope f cd A outer s H E) [] (start N vs) H s1:=by
 have hpl:ps.length<=N.length:=by have:=congrArg List.length S.pre;rw[mN] at this;lia
 obtain⟨h1,tk,rfl,hk⟩:=x.done;have noA:∀b:Addr,b∉(cxOf CX P w K mg base N qual scope f cd A outer s H E).ex:=λ b z=>absurd (show b∈([]:List Addr) from z) 68
 refine⟨⟨e0.mod,S.kind,rfl,rfl,lS _,λ y z c h1 h2=>?_,λ y hy=>?_,λ y c Ω h=>?_,λ Ω=>hd,Around.frames_deeper e0.frames,.inr ⟨rfl,rfl⟩,λ b z=>absurd z (noA b),e0.bs,e0.bsz,λ b Ω Ω=>noA b,λ b z=>absurd z (noA b),e0.funs,e0.frf⟩,
  rfl,e0.bare,Un.kept hk,⟨_,x.toInCall.ns,λ i y v h1 h2 h3=>?_⟩,λ y c h=>⟨_,x.cell y c h⟩,e0.hok.fresh (lS _),λ y c h=>?_,λ p hp=>absurd (show p∈([]:List 86) from hp) 68,e0.hok.kept hk,?_⟩
 ·exact name_of_addr x.apart (PySem.mem_of_lookup h1) (PySem.mem_of_lookup h2)
 ·have hy:scope.names.lookup y=some .cell\/scope.names.lookup y=some .free:=hy
  rcases hy with hy|hy
  ·exact zHq hy
  ·exact absurd rfl (S.nofree _ (PySem.mem_of_lookup hy))
 ·exact Nat.le_of_lt (x.above y c (PySem.mem_of_lookup h))
 ·have hi:i<vs.length:=by
   unfold start at h2
   by_cases hi:i<vs.length
   ·exact hi
   ·rw[mT (by simpa using hi)] at h2
    rw[List.getElem?_replicate] at h2;split at h2<;>cases h2
  have ha:vs[i]?=some v:=by
   unfold start at h2;rw[mS (by simpa using hi),mJ] at h2;cases e:vs[i]? with
   |none=>rw[e] at h2;cases h2
   |some a=>rw[e] at h2;cases h2;rfl
  obtain⟨u,hu,rv⟩:=r.get ha
  have hp:ps[i]?=some y:=by
   rw[←S.pre,List.getElem?_take_of_lt 61];exact h1
  have ndP:ps.Nodup:=by rw[←S.pre];exact S.nd.sublist (List.take_sublist _ _)
  refine⟨u,rv,?_⟩;rcases S.par y (lN hp) with k|k
  ·exact .inl ⟨k,zGY ndP hp hu k⟩
  ·obtain⟨c,e⟩:=zHq (n:=s.heap.objs.size+1) k
   refine .inr ⟨.inl k,c,e,?_⟩;have q:=x.cell y c e;rw[zGa ndP hp hu (by show scope.names.lookup y≠_;rw[k];decide)] at q;exact q
 ·exact e0.hok.fresh (Nat.le_of_lt (x.above y c (PySem.mem_of_lookup h)))
 ·unfold start
  show _=N.length;rw[mK,lE,List.length_replicate]
  lia
theorem fn_of {CX:CXT}{P:Program}{w:World}{K:W.Frag}{mg:Str->Option Value}{base:Heap}{k:Nat}{f:Addr}{name qual:Str}{params:Arguments}{body:List Stmt}{scope:Scope}{dV kV doc pm cdv ct oc:Value}{an od:Option Addr}
  {osl:Array (Option Value)}{N ps:List Str}{sp:Sp}(lk:K.lookup f=some ⟨oc,od,.func (W.fnOf name qual params body scope dV kV doc pm an cdv ct),osl⟩) (hcd:W.codeIn K cdv qual=true) (S:zAW N ps scope)
  (len:∀vs H Q E,sp vs H Q E->vs.length=ps.length)
  (hbody:∀(A:Around) (outer:List Env) (s:Shared) (H:Hp) (vs:List V) (Q:VK) (E:XK),Room k (A.deeper (envOfC qual scope s.heap.objs.size f cdv))->sp vs H Q E ->
   ∃t,PSs (cxOf CX P w K mg base N qual scope f cdv A outer s H E) body t/\t { nx:=λ Ω H'=>Q .non H',rt:=Q } (start N vs) H) :
  FnOk P w K mg base CX (k+1) f (W.fnOf name qual params body scope dV kV doc pm an cdv ct) ps sp:=by
 refine⟨len,λ A outer s H args us vs Q E hr e0 hb r hsp=>?_⟩;have hl:=len _ _ _ _ hsp;have KX:K.In s.heap:=e0.mod.kin.keeps λ b o e=>(e0.bs b o e).1;have lim:s.heap.NoLimit:=e0.mod.nolimit.keeps λ b o e=>(e0.bs b o e).1
 have hkind:∀y∈ps.zip us,scope.names.lookup y.1=some .local\/(scope.names.lookup y.1=some .cell/\((cellsFrom (s.heap.objs.size+1) scope.names []).lookup y.1).isSome=true):=λ⟨n,v⟩ hy=>by
  rcases S.par n (List.of_mem_zip hy).1 with q|q
  ·exact .inl q
  ·exact .inr ⟨q,W.cellsFrom_some _ _ _ (.inl q)⟩
 refine codeAny_call_function hr.depth (KX _ _ lk) rfl S.co S.gen rfl (W.codeRec_of KX hcd) (hb _ _ _ _ ?_);refine wpAny_newFunctionEnv_cells S.kind hkind λ env he s1 x=>?_;subst he;refine⟨lim.keeps x.toInCall.keep,codeAny_func ?_⟩;obtain⟨t,ht,hq⟩:=hbody A outer s H vs Q E (hr.deeper _) hsp;have I:Inv (cxOf CX P w K mg base N qual scope f cdv A outer s H E) [] (start N vs) H s1:=zJg S hr.hd e0 hl r x;refine wpAny_mono (ht [] s1 (start N vs) H _ I hq) (λ fl s' hs=>?_) λ e s' hs=>hs
 have fin:∀{σ':St}{H':Hp}{v:V}{u:Value},Inv (cxOf CX P w K mg base N qual scope f cdv A outer s H E) [] σ' H' s'->RelV v u->Q v H'->CE outer P w H s Q u s' :=
  λ{σ' H' v u} J rv q=>⟨v,H',J.os,J.bare,J.base,J.hok,rv,q⟩
 cases fl with
 |ret u =>
  obtain⟨v,σ',H',J,rv,q⟩:=hs;exact fin J rv q
 |next =>
  obtain⟨σ',H',J,q⟩:=hs;exact fin (v:=V.non) (u:=Value.none) J rfl q
 |brk =>
  obtain⟨_,_,_,q⟩:=hs;exact False.elim q
 |cont =>
  obtain⟨_,_,_,q⟩:=hs;exact False.elim q
section
variable {X:Cx}{x:Str}{p pos:Pos}{e:Expr}{es:List Expr}{t:TA}{id T:String}{r:List V->Hp->VK->Prop}
def tCB (r:List V->Hp->VK->Prop) (t:TA):TE:=λ σ H Q=>t σ H λ vs H1=>r vs H1 Q
theorem zBL (hc:CallR X (.builtin id) r) (hg:Gl X x) (hm:X.mg x=none) (hv:bootBuiltins x=some (.builtin id)) (ha:PA X (e::es) t) (hn:x ≠ "__name__" := by decide) (hdb:(x == ("__debug__" : Str))=false:=by decide)
  (he:starEach (e::es) X.env=(false,eval e X.env)::starEach es X.env:=by rfl) (hpl:(backTo pos (starEach es X.env)).any (·.1)=false:=by rfl):PE X (.Call (.Name x p) (e::es) [] pos) (tCB r t):=by
 intro jP s σ H Q I h;refine wpAny_Call_Name_kw (zCI I hg hm hv ?_ hn hdb);exact PyProof.Rows.callWith_builtin1 (thn (ha pos jP s σ H _ I h) λ us s1 ⟨vs,H1,I1,r1,q1⟩=>hc jP s1 σ H1 vs us Q I1 r1 q1) he hpl
theorem zBP (hc:CallR X (.type T) r) (hg:Gl X x) (hm:X.mg x=none) (hv:bootBuiltins x=some (.type T)) (ha:PA X (e::es) t) (hn:x ≠ "__name__" := by decide) (hdb:(x == ("__debug__" : Str))=false:=by decide)
  (he:starEach (e::es) X.env=(false,eval e X.env)::starEach es X.env:=by rfl) (hpl:(backTo pos (starEach es X.env)).any (·.1)=false:=by rfl):PE X (.Call (.Name x p) (e::es) [] pos) (tCB r t):=by
 intro jP s σ H Q I h;refine wpAny_Call_Name_kw (zCI I hg hm hv ?_ hn hdb);exact PyProof.Rows.callWith_type1 (thn (ha pos jP s σ H _ I h) λ us s1 ⟨vs,H1,I1,r1,q1⟩=>hc jP s1 σ H1 vs us Q I1 r1 q1) he hpl
end
end L2
namespace HT
open PySem PyProof.Rows
section
variable {prog:Program}{w:World}{A:Around}{E:XQ}{s:Shared}
theorem cat_tup {t b:Addr}{vs ws:List Value}{Q:XQ}(ht:IsTup s.heap t vs.toArray) (hb:IsTup s.heap b ws.toArray) (hv:vs≠[])
  (h1:ws=[]->Q (.ref t) s) (h2:ws≠[]->Q (.ref s.heap.objs.size) { s with heap:=s.heap.push { cls:=.type "tuple", data:=.seq (vs++ws).toArray } })
  (hsz:vs.length+ws.length<=sizeLine):wpAny 90 A (binaryOp .Add (.ref t) (.ref b)) Q E s:=by
 obtain⟨⟨cls,dd,data,sl⟩,ho,hc,n,hd⟩:=id ht;obtain⟨⟨cls2,dd2,data2,sl2⟩,ho2,hc2,n2,hd2⟩:=id hb;simp only at hc hd hc2 hd2;subst hc hd hc2 hd2;have e:vs.toArray++ws.toArray=(vs++ws).toArray:=by simp
 by_cases hw:ws=[]
 ·exact concat_meets ⟨_,ho,rfl⟩ ⟨_,ho2,rfl⟩ noFill_tuple_add seq_tuple_add PySem.F.slot_tuple_add PySem.F.entry_tuple_add (PySem.F.args_tuple_add_2 _ _)
   (tuple_addW1 t b vs.toArray ws.toArray n n2 dd dd2 sl sl2 (by simpa using hv) (by simp[hw])) ⟨ho,ho2,h1 hw⟩
 ·refine concat_meets ⟨_,ho,rfl⟩ ⟨_,ho2,rfl⟩ noFill_tuple_add seq_tuple_add PySem.F.slot_tuple_add PySem.F.entry_tuple_add (PySem.F.args_tuple_add_2 _ _)
   (tuple_addW2 t b vs.toArray ws.toArray n n2 dd dd2 sl sl2 (by simpa using hv) (by simpa using hw) (by rw[mF,mF];exact hsz)) ⟨ho,ho2,?_⟩
  rw[e];exact h2 hw
noncomputable def sIx (n d:Nat):Option Int->Nat
 |none=>d
 |some v=>if v<0 then (v+(n:Int)).toNat else min v.toNat n
theorem sIx_none (n d:Nat):sIx n d none=d:=rfl
theorem sIx_nat (n d k:Nat):sIx n d (some (k:Int))=min k n:=by
 show (if (k:Int)<0 then ((k:Int)+(n:Int)).toNat else min (k:Int).toNat n)=min k n;rw[if_neg 61,Int.toNat_natCast]
theorem zMR (n d:Nat) (hd:d<=n) (o:Option Int):sIx n d o<=n:=by
 cases o with
 |none=>exact hd
 |some v =>
  show (if v<0 then (v+(n:Int)).toNat else min v.toNat n)<=n
  by_cases hv:v<0
  ·rw[if_pos hv];lia
  ·rw[if_neg hv];exact Nat.min_le_right _ _
theorem zJ0 (v:Int) (n d:Nat):(if v<0 then max (v+(n:Int)) 0 else min v (n:Int))=((sIx n d (some v):Nat):Int):=by
 show (if v<0 then max (v+(n:Int)) 0 else min v (n:Int))=(((if v<0 then (v+(n:Int)).toNat else min v.toNat n):Nat):Int)
 by_cases hv:v<0
 ·simp only[if_pos hv];lia
 ·simp only[if_neg hv];lia
theorem zIL (lo hi:Option Int) (n:Nat):Builtin.Slice.sliceAdjust lo hi 1 (n:Int)=(((sIx n 0 lo:Nat):Int),((sIx n n hi:Nat):Int)):=by
 have h1:¬((1:Int)<0):=by lia
 unfold Builtin.Slice.sliceAdjust;simp only[h1,if_false];refine Prod.ext ?_ ?_
 ·cases lo with
  |none=>rfl
  |some v=>exact zJ0 v n 0
 ·cases hi with
  |none=>rfl
  |some v=>exact zJ0 v n n
theorem zH6 (i j:Nat):Builtin.Slice.slicePlaces (i:Int) (j:Int) 1=j - i:=by
 unfold Builtin.Slice.slicePlaces;have h1:(1:Int) > 0:=by lia
 simp only[h1,if_true,Int.ediv_one];split<;>lia
theorem zEz {v:Value}{o:Option Int}{Q:Option Int->Shared->Prop}(p:IsPart v o) (h:Q o s):wpAny 90 A (Builtin.Slice.slicePartIndex v) Q E s:=by
 cases p with
 |none=>exact slicePart_none h
 |int i t=>exact slicePart_int h
theorem zD9 {sl:Addr}{vl vu:Value}{lo hi:Option Int}{n:Nat}{Q:Int × Int × Nat->Shared->Prop}(hs:s.heap.IsSliceOf sl vl vu .none) (pl:IsPart vl lo) (pu:IsPart vu hi)
  (h:Q (((sIx n 0 lo:Nat):Int),1,sIx n n hi - sIx n 0 lo) s):wpAny 90 A (Builtin.Slice.sliceApplied (.ref sl) (pure (n:Int))) Q E s:=by
 obtain⟨os,hos,hcs,hds⟩:=id hs;unfold Builtin.Slice.sliceApplied Builtin.Slice.sliceFields;refine lC (lC (wpAny_field hos hds (x:=vl) rfl (lC (wpAny_field hos hds (x:=vu) rfl (lC (wpAny_field hos hds (x:=.none) rfl (lD ?_)))))));refine lC (slicePart_none ?_);show wpAny _ _ (if ((1:Int) == 0)=true then _ else _) _ _ s;rw[if_neg 69];refine lC (zEz pl (lC (zEz pu (lC (lD ?_)))));show wpAny _ _ (match Builtin.Slice.sliceAdjust lo hi 1 (n:Int) with|(lo,hi)=>pure (lo,(1:Int),Builtin.Slice.slicePlaces lo hi 1)) _ _ s;rw[zIL lo hi n];show wpAny _ _ (pure (((sIx n 0 lo:Nat):Int),(1:Int),Builtin.Slice.slicePlaces ((sIx n 0 lo:Nat):Int) ((sIx n n hi:Nat):Int) 1)) _ _ s;rw[zH6];exact lD h
theorem zKO (xs:Array Value) (i k:Nat):((List.range k).filterMap λ(m:Nat)=>xs[((i:Int)+(m:Int) * 1).toNat]?).toArray=((xs.toList.drop i).take k).toArray:=by
 have e:(λ(m:Nat)=>xs[((i:Int)+(m:Int) * 1).toNat]?)=λ m=>xs[i+m]?:=by
  funext m;have:((i:Int)+(m:Int) * 1).toNat=i+m:=by lia
  rw[this]
 rw[e];have:=pick_run xs i k;rw[List.filterMap_map] at this;have e2:((λ x=>xs[x]?) ∘ λ x=>i+x)=λ m=>xs[i+m]?:=rfl;rw[e2] at this;rw[this]
theorem getItem_tuple_cut {t sl:Addr}{items:Array Value}{vl vu:Value}{lo hi:Option Int}{Q:XQ}(ht:IsTup s.heap t items) (hs:s.heap.IsSliceOf sl vl vu .none) (pl:IsPart vl lo) (pu:IsPart vu hi)
  (hw:¬(sIx items.size 0 lo=0/\sIx items.size items.size hi=items.size))
  (h:Q (.ref s.heap.objs.size) { s with heap:=s.heap.push { cls:=.type "tuple", data:=.seq ((items.toList.drop (sIx items.size 0 lo)).take (sIx items.size items.size hi - sIx items.size 0 lo)).toArray } })
  (hsz:items.size<=sizeLine):wpAny 90 A (getItem (.ref t) (.ref sl)) Q E s:=by
 have htake:sizeOk (.seq ((items.toList.drop (sIx items.size 0 lo)).take (sIx items.size items.size hi - sIx items.size 0 lo)).toArray):=by
  show ((items.toList.drop (sIx items.size 0 lo)).take (sIx items.size items.size hi - sIx items.size 0 lo)).toArray.size<=sizeLine;rw[mF,mN,mV,Array.length_toList]
  lia
 have hj:sIx items.size items.size hi<=items.size:=zMR _ _ (lS _) hi;obtain⟨os,hos,hcs,hds⟩:=id hs;have hTs:s.TypeIs (.ref sl) "slice" := ⟨os,hos,hcs⟩;unfold getItem
 try with_reducible refine lG ?_
 first|refine lC (lD ?_)|skip
 refine lC (wpAny_sequenceKey ht.typeIs 69 ?_)
 refine lC (wpAny_callSpecial?_slot (name:=Str.ofString "__getitem__") ht.typeIs PyProof.Rows.slot_tuple_getitem
  (wpAny_call_entry PyProof.Rows.slot_tuple_getitem ht.typeIs entry_tuple_getitem ?_ (args_tuple_getitem _ _)))
 show wpAny _ _ (Builtin.Tuple.tupleItemsOf (.ref t) >>= _) _ _ s;refine lC (tupleItemsOf_ ht ?_);refine lC (wpAny_typeOf hTs ?_);rw[if_pos 69];refine lC (zD9 hs pl pu ?_)
 have hno:¬((((sIx items.size 0 lo:Nat):Int) == 0 && (1:Int) == 1 && (sIx items.size items.size hi - sIx items.size 0 lo) == items.size)=true):=by
  intro q;rw[Bool.and_eq_true,Bool.and_eq_true] at q;have q1:((sIx items.size 0 lo:Nat):Int)=0:=eq_of_beq q.1.1;have q2:sIx items.size items.size hi - sIx items.size 0 lo=items.size:=eq_of_beq q.2;exact hw ⟨by lia,by lia⟩
 show wpAny _ _ (if (((sIx items.size 0 lo:Nat):Int) == 0 && (1:Int) == 1 && (sIx items.size items.size hi - sIx items.size 0 lo) == items.size)=true then _ else _) _ _ s;rw[if_neg hno,zKO]
 first
  |exact lC (m:=Builtin.Tuple.tupleExact _) (wpAny_newObj_type (lD ⟨_,rfl,lD h⟩) htake)
  |exact lC (m:=Builtin.Tuple.tupleExact _) (wpAny_newObj_type (lC (lD (lD ⟨_,rfl,lD h⟩))) htake)
  |exact lC (lC (m:=Builtin.Tuple.tupleExact _) (wpAny_newObj_type (lD (lD ⟨_,rfl,lD h⟩)) htake))
  |exact lC (lC (m:=Builtin.Tuple.tupleExact _) (wpAny_newObj_type (lD ⟨_,rfl,lD h⟩) htake))
end
end HT
namespace L2
open PySem PySem.Spec PyProof.Rows
abbrev TO:=St->Hp->(Option Int->Hp->Prop)->Prop
def PO (X:Cx) (e:Option Expr) (t:TO):Prop :=
 ∀(jP:List 86) (s:Shared) (σ:St) (H:Hp) (Q:Option Int->Hp->Prop),Inv X jP σ H s->t σ H Q ->
  wpAny 74 X.A (evalPart e X.env) (λ u s'=>∃o H',Inv X jP σ H' s'/\IsPart u o/\Q o H') X.xe s
def zLX:TO:=λ Ω H Q=>Q none H
inductive IsI (Q:Option Int->Hp->Prop) (x:V) (H:Hp):Prop
 |mk (i:Int) (h:x = .int i) (q:Q (some i) H)
def tPart (t:TE):TO:=λ σ H Q=>t σ H (IsI Q)
section
variable {X:Cx}{e:Expr}{te:TE}{lo hi:Option Expr}{tl th:TO}{pos p2:Pos}
theorem zB4:PO X none zLX:=by
 intro jP s σ H Q I h;rw[evalPart_none];exact lD ⟨none,H,I,.none,h⟩
theorem zAs (h:PE X e te):PO X (some e) (tPart te):=by
 intro jP s σ H Q I hw;rw[evalPart_some];refine thn (h jP s σ H _ I hw) λ u s1 ⟨x,H1,I1,r1,q1⟩=>?_;obtain⟨i,rfl,q⟩:=q1;obtain⟨t,rfl⟩:=r1;exact⟨some i,H1,I1,.int i t,q⟩
def SlR (X:Cx) (r:V->Option Int->Option Int->Hp->VK->Prop):Prop :=
 ∀(jP:List 86) (s:Shared) (σ:St) (H:Hp) (x:V) (v vl vu:Value) (lo hi:Option Int) (sl:Addr) (Q:VK),Inv X jP σ H s->RelV x v->s.heap.IsSliceOf sl vl vu .none->IsPart vl lo->IsPart vu hi->r x lo hi H Q ->
  ∃T id,typeLookup (.type T) "__getitem__" = pure (some (.builtin id))/\s.TypeIs v T/\wpAny 74 X.A (getItem v (.ref sl)) (EP X jP σ Q) X.xe s
def tSl (r:V->Option Int->Option Int->Hp->VK->Prop) (te:TE) (tl th:TO):TE:=λ σ H Q=>te σ H λ x H1=>tl σ H1 λ l H2=>th σ H2 λ u H3=>r x l u H3 Q
theorem zA1 {r:V->Option Int->Option Int->Hp->VK->Prop}(hr:SlR X r) (he:PE X e te) (hl:PO X lo tl) (hu:PO X hi th):PE X (.Subscript e (.Slice lo hi none p2) pos) (tSl r te tl th):=by
 intro jP s σ H Q I h;refine Subscript_ (thn (he jP s σ H _ I h) λ v s1 ⟨x,H1,I1,r1,q1⟩=>?_);refine wpAny_Slice (thn (hl jP s1 σ H1 _ I1 q1) λ vl s2 ⟨l,H2,I2,pl,q2⟩=>thn (hu jP s2 σ H2 _ I2 q2) λ vu s3 ⟨u,H3,I3,pu,q3⟩=>?_);rw[evalPart_none];refine lD ?_;have I4:Inv X jP σ H3 { s3 with heap:=s3.heap.push { cls:=.type "slice", data:=.fields #[vl,vu,.none] } }:=I3.kept (t':=s3.toks) λ b ob q=>lH _ q;obtain⟨T,id,hT,ht,hg⟩:=hr jP { s3 with heap:=s3.heap.push { cls:=.type "slice", data:=.fields #[vl,vu,.none] } } σ H3 x v vl vu l u s3.heap.objs.size Q I4 r1 (Heap.IsSliceOf.new ..) pl pu q3;show wpAny 74 X.A (subscriptTail e (.Slice lo hi none p2) v (.ref s3.heap.objs.size)) (EP X jP σ Q) X.xe { s3 with heap:=s3.heap.push { cls:=.type "slice", data:=.fields #[vl,vu,.none] } };exact tail_any (ops:=[.ref s3.heap.objs.size,v]) ht hT hg (by with_unfolding_all rfl)
noncomputable def cutV (xs:List V) (lo hi:Option Int):List V:=(xs.drop (HT.sIx xs.length 0 lo)).take (HT.sIx xs.length xs.length hi - HT.sIx xs.length 0 lo)
theorem zEf (xs:List V) (lo hi:Option Int):(cutV xs lo hi).length<=xs.length:=by
 unfold cutV;rw[mN,mV]
 lia
def rSlT (K:W.Frag):V->Option Int->Option Int->Hp->VK->Prop:=λ x lo hi H Q=>E2 λ a xs=>A4 (x = .ref a) (SqT K H a xs) (¬(HT.sIx xs.length 0 lo=0/\HT.sIx xs.length xs.length hi=xs.length)) (∀p,H p=none->Q (.ref p) (upd H p (.tup (cutV xs lo hi))))
theorem zMQ:SlR X (rSlT X.K):=by
 intro jP s σ H x v vl vu lo hi sl Q I rx hs pl pu h;obtain⟨a,xs,rfl,hx,hw,q⟩:=h;cases rx;obtain⟨its,r,ht,hz⟩:=I.tuple hx;have hlen:its.toArray.size=xs.length:=by rw[mF];exact r.length.symm
 refine⟨"tuple", _,PyProof.Rows.slot_tuple_getitem.lookup,ht.typeIs,?_⟩;refine HT.getItem_tuple_cut ht hs pl pu (by rw[hlen];exact hw) ?_ (by rw[hlen];exact hz);rw[hlen];refine⟨.ref s.heap.objs.size,_,I.laid (t':=s.toks) (o:=.tup (cutV xs lo hi)) (λ b ob q=>lH _ q) (lS _) ?_,rfl,q _ (I.hok.fresh (lS _))⟩;exact⟨mI (zEf xs lo hi) hz,_,(r.drop (HT.sIx xs.length 0 lo)).take (HT.sIx xs.length xs.length hi - HT.sIx xs.length 0 lo),IsTup.new _ _⟩
def rCatT (K:W.Frag):R2:=λ x y H Q=>E4 λ a b xs ys=>A8 (x = .ref a) (y = .ref b) (SqT K H a xs) (SqT K H b ys) (xs≠[]) (xs.length+ys.length<=sizeLine) (ys=[]->Q (.ref a) H) (ys≠[]->∀p,H p=none->Q (.ref p) (upd H p (.tup (xs++ys))))
theorem Vals.nil_iff {xs:List V}{us:List Value}(r:Vals xs us):us=[]↔xs=[]:=by
 cases r with
 |nil=>simp
 |cons _ _=>simp
theorem zLq:OpR X (binaryOp .Add) (rCatT X.K):=by
 intro jP s σ H x y v u Q I rx ry h;obtain⟨a,b,xs,ys,rfl,rfl,ha,hb,hx,hz,q1,q2⟩:=h;cases rx;cases ry;obtain⟨its,r1,p1,_⟩:=I.tuple ha;obtain⟨its2,r2,p2,_⟩:=I.tuple hb;refine HT.cat_tup p1 p2 (λ z=>hx (r1.nil_iff.mp z)) (λ z=>⟨.ref a,H,I,rfl,q1 (r2.nil_iff.mp z)⟩) (λ z=>?_) (by rw[←r1.length,←r2.length];exact hz);refine⟨.ref s.heap.objs.size,_,I.laid (t':=s.toks) (o:=.tup (xs++ys)) (λ b ob q=>lH _ q) (lS _) ?_,rfl,q2 (λ w=>z (r2.nil_iff.mpr w)) _ (I.hok.fresh (lS _))⟩;exact⟨by rw[mK];exact hz,_,r1.append r2,IsTup.new _ _⟩
end
noncomputable def ixN (n:Nat) (i:Int):Option Nat:=if 0<=i then (if i<n then some i.toNat else none) else if -(n:Int)<=i then some (i+n).toNat else none
noncomputable def atI {α:Type}(xs:List α) (i:Int):Option α:=(ixN xs.length i).bind λ j=>xs[j]?
theorem zJd {n:Nat}{i:Int}{j:Nat}(h:ixN n i=some j):seqIndex? i n=some j/\j<n /\ -(n:Int)<=i/\i<n:=by
 unfold ixN at h
 by_cases h0:0<=i
 ·rw[if_pos h0] at h
  by_cases h1:i<n
  ·rw[if_pos h1] at h
   have e:i.toNat=j:=mG h;exact⟨by rw[seqIndex_of h0 h1,e],by lia,by lia,h1⟩
  ·rw[if_neg h1] at h;cases h
 ·rw[if_neg h0] at h
  by_cases h1 : -(n:Int)<=i
  ·rw[if_pos h1] at h
   have e:(i+n).toNat=j:=mG h;exact⟨by rw[seqIndex_neg 61 h1,e],by lia,h1,by lia⟩
  ·rw[if_neg h1] at h;cases h
theorem zG4 {α:Type}{xs:List α}{i:Int}{v:α}(h:atI xs i=some v):∃j,seqIndex? i xs.length=some j/\xs[j]?=some v/\j<xs.length /\ -(xs.length:Int)<=i/\i<xs.length:=by
 unfold atI at h;cases e:ixN xs.length i with
 |none=>rw[e] at h;cases h
 |some j =>
  rw[e] at h;obtain⟨h1,h2,h3,h4⟩:=zJd e;exact⟨j,h1,h,h2,h3,h4⟩
theorem zAS {α:Type}{xs:List α}{j:Nat}{v:α}(h:xs[j]?=some v):atI xs (j:Int)=some v:=by
 have hj:j<xs.length:=(lK.mp h).1
 have e:ixN xs.length (j:Int)=some j:=by
  unfold ixN;rw[if_pos 61,if_pos 61];simp
 unfold atI;rw[e];exact h
theorem zHv {α:Type}(xs:List α) (v:α):atI (xs++[v]) (-1)=some v:=by
 have hl:(xs++[v]).length=xs.length+1:=by simp
 have e:ixN (xs++[v]).length (-1)=some xs.length:=by
  unfold ixN;rw[hl,if_neg 69,if_pos 61];congr 1
  lia
 unfold atI;rw[e];show (xs++[v])[xs.length]?=some v;simp
def zJ9 (b:Expr):Prop:=∀o i,subscripted b false o i=operate [o,i] (getItem o i)
def IxR (X:Cx) (r:R2):Prop :=
 ∀(value slice:Expr) (jP:List 86) (s:Shared) (σ:St) (H:Hp) (x y:V) (v u:Value) (Q:VK),Inv X jP σ H s->RelV x v->RelV y u->r x y H Q ->
  subscripted slice false v u=operate [v,u] (getItem v u)->wpAny 74 X.A (subscriptTail value slice v u) (EP X jP σ Q) X.xe s
def MtR (X:Cx) (id:String) (r:V->List V->Hp->VK->Prop):Prop :=
 ∀(jP:List 86) (s:Shared) (σ:St) (H:Hp) (x:V) (xs:List V) (v:Value) (us:List Value) (Q:VK),Inv X jP σ H s->RelV x v->Vals xs us->r x xs H Q ->
  wpAny 74 X.A (call (.builtin id) (v::us)) (EP X jP σ Q) X.xe s
section
variable {X:Cx}{a b:Expr}{ta tb:TE}{pos:Pos}
theorem pe_ix {r:R2}(hr:IxR X r) (ha:PE X a ta) (hb:PE X b tb) (hs:zJ9 b):PE X (.Subscript a b pos) (tOp r ta tb):=by
 intro jP s σ H Q I h;exact Subscript_ (binT ha hb I h λ v u s2 x y H2 I2 rx ry q=>hr a b jP s2 σ H2 x y v u Q I2 rx ry q (hs _ _))
inductive rIxL (K:W.Frag) (x y:V) (H:Hp) (Q:VK):Prop
 |mk (p:Addr) (xs:List V) (i:Int) (v:V) (hx:x = .ref p) (hy:y = .int i) (s:SqL K H p xs) (a:atI xs i=some v) (q:Q v H)
inductive rIxT (K:W.Frag) (x y:V) (H:Hp) (Q:VK):Prop
 |mk (p:Addr) (xs:List V) (i:Int) (v:V) (hx:x = .ref p) (hy:y = .int i) (s:SqT K H p xs) (a:atI xs i=some v) (q:Q v H)
def rIxS:R2:=λ x y H Q=>E3 λ z i c=>A5 (x = .str z) (y = .int i) (z.length<=sizeLine) (atI z.cps.toList i=some c) (Q (.str ⟨#[c]⟩) H)
theorem zAc:IxR X (rIxL X.K):=by
 intro value slice jP s σ H x y v u Q I rx ry h hs;obtain⟨p,xs,i,z,rfl,rfl,hq,he,q⟩:=h;cases rx;obtain⟨t,rfl⟩:=ry;obtain⟨its,r,pl,hz⟩:=I.list hq;obtain⟨j,h1,h2,h3,h4,h5⟩:=zG4 he;obtain⟨w,ew,rw'⟩:=r.get h2;have hl:=r.length;have hn:=zDe;have fin:EP X jP σ Q w s:=⟨z,H,I,rw',q⟩
 by_cases h0:0<=i
 ·have hj:i.toNat=j:=by
   rw[seqIndex_of h0 h5] at h1;exact mG h1
  exact item_listR pl.isList h0 61 (by rw[hj];simpa using ew) fin hs
 ·have hj:(i+(its.toArray.size:Int)).toNat=j:=by
   rw[seqIndex_neg 61 h4] at h1;rw[mF,←hl];exact mG h1
  exact subscriptTail_builtinR (x:=w) pl.isList.typeIs slot_list_getitem.lookup
   (wpAny_getItem_list_neg (Q:=λ r s'=>r=w/\EP X jP σ Q r s') pl.isList 61 (by rw[mF]<;>lia) 61 (by rw[hj];simpa using ew) ⟨rfl,fin⟩) hs
theorem zAL:IxR X (rIxT X.K):=by
 intro value slice jP s σ H x y v u Q I rx ry h hs;obtain⟨p,xs,i,z,rfl,rfl,hq,he,q⟩:=h;cases rx;obtain⟨t,rfl⟩:=ry;obtain⟨its,r,pl,hz⟩:=I.tuple hq;obtain⟨j,h1,h2,h3,h4,h5⟩:=zG4 he;obtain⟨w,ew,rw'⟩:=r.get h2;have hl:=r.length;have hn:=zDe;have fin:EP X jP σ Q w s:=⟨z,H,I,rw',q⟩
 exact subscriptTail_builtinR (x:=w) pl.typeIs slot_tuple_getitem.lookup
  (getItem_tuple (j:=j) (Q:=λ r s'=>r=w/\EP X jP σ Q r s') pl 61 61 (by rw[mF,←hl];exact h1) (by simpa using ew) ⟨rfl,fin⟩) hs
theorem zMu:IxR X rIxS:=by
 intro value slice jP s σ H x y v u Q I rx ry h hs;obtain⟨z,i,c,rfl,rfl,hz,he,q⟩:=h;obtain⟨t,rfl⟩:=rx;obtain⟨t',rfl⟩:=ry;obtain⟨j,h1,h2,h3,h4,h5⟩:=zG4 he;have hl:z.cps.toList.length=z.length:=by simp[Str.length]
 rw[hl] at h1 h4 h5;have hn:=zDe
 exact tail_any (typeIs_str s z t) slot_str_getitem.lookup (getItem_str (c:=c) (by
  have e1:decide (i < -(2 ^ 63:Int))=false:=decide_eq_false 61;have e2:decide (i ≥ 2 ^ 63)=false:=decide_eq_false 61;rw[e1,e2,Bool.or_false]) (by rw[h1];simpa using h2) ⟨.str ⟨#[c]⟩,H,I.tok _,72,q⟩) hs
theorem zIG (its:List Value) (n j:Nat) (u:Value):Obj.mapSeq (·.setIfInBounds j u) { cls:=.type "list", data:=.seq its.toArray n }={ cls:=.type "list", data:=.seq (its.set j u).toArray n }:=by
 simp[Obj.mapSeq]
theorem Inv.lst {jP:List 86}{σ:St}{H:Hp}{s:Shared}{p:Addr}{xs:List V}(I:Inv X jP σ H s) (h:H p=some (.lst xs)) :
  ∃(its:List Value) (n:Nat),Vals xs its/\s.heap.get? p=some { cls:=.type "list", data:=.seq its.toArray n }/\xs.length<=sizeLine:=by
 obtain⟨z,its,n,r,e⟩:=I.hok p _ h;exact⟨its,n,r,e,z⟩
theorem Inv.lstUpd {jP:List 86}{σ:St}{H:Hp}{s:Shared}{p:Addr}{xs ys:List V}{its its':List Value}{n n':Nat}{f:Obj->Obj}(I:Inv X jP σ H s) (h:H p=some (.lst xs))
  (ho:s.heap.get? p=some { cls:=.type "list", data:=.seq its.toArray n }) (hf:f { cls:=.type "list", data:=.seq its.toArray n }={ cls:=.type "list", data:=.seq its'.toArray n' }) (r:Vals ys its') (hz:ys.length<=sizeLine) (t:Nat) :
  Inv X jP σ (upd H p (.lst ys)) { s with heap:=s.heap.update p f,toks:=t }:=by
 have e:(s.heap.update p f).get? p=some { cls:=.type "list", data:=.seq its'.toArray n' }:=by
  rw[Heap.get?_update_self f ho (by rw[hf]<;>rfl),hf]
 refine I.write (x:=p) (e:=p) (by rw[h];trivial) (.inl rfl) (λ b u hb q=>(Heap.get?_update_other _ _ (Ne.symm hb)).trans q) ⟨_,e⟩ ?_;exact⟨hz,its',n',r,e⟩
def rSetL:V->V->V->Hp->(Hp->Prop)->Prop:=λ o i v H Q=>E4 λ p xs k j=>A5 (o = .ref p) (i = .int k) (H p=some (.lst xs)) (ixN xs.length k=some j) (Q (upd H p (.lst (xs.set j v))))
theorem zKG:PSet X rSetL:=by
 intro jP s σ H o i v ov iv u Q I ro ri rv h;obtain⟨p,xs,k,j,rfl,rfl,hp,hj,q⟩:=h;cases ro;obtain⟨t,rfl⟩:=ri;obtain⟨its,n,r,ho,hz⟩:=I.lst hp;obtain⟨h1,h2,h3,h4⟩:=zJd hj;have hl:=r.length;have hn:=zDe
 have I':Inv X jP σ (upd H p (.lst (xs.set j v))) { s with heap:=s.heap.update p (Obj.mapSeq (·.setIfInBounds j u)) } :=
  I.lstUpd hp ho (zIG its n j u) (r.set rv j) (by rw[List.length_set];exact hz) s.toks
 by_cases h0:0<=k
 ·have hk:k.toNat=j:=by
   rw[seqIndex_of h0 h4] at h1;exact mG h1
  exact W.ki_setAt ho h0 61 (by rw[mF,←hl];exact h4) (by rw[hk];exact⟨_,I',q⟩)
 ·have hk:(k+(its.toArray.size:Int)).toNat=j:=by
   rw[seqIndex_neg 61 h3] at h1;rw[mF,←hl];exact mG h1
  exact W.ki_setBack ho 61 (by rw[mF,←hl];exact h3) 61 (by rw[hk];exact⟨_,I',q⟩)
theorem zFv (lo hi:Option Int) (n:Nat):(sliceBounds lo hi none n).1=((HT.sIx n 0 lo:Nat):Int)/\(sliceBounds lo hi none n).2.1=((HT.sIx n n hi:Nat):Int)/\(sliceBounds lo hi none n).2.2=1:=by
 refine⟨?_,?_,rfl⟩
 ·cases lo with
  |none=>simp[sliceBounds,HT.sIx]
  |some i =>
   simp only[sliceBounds,HT.sIx,Option.getD_none,show (1:Int) > 0 by decide,if_true]
   by_cases h:i<0
   ·simp only[h,if_true]<;>lia
   ·simp only[h,if_false]<;>lia
 ·cases hi with
  |none=>simp[sliceBounds,HT.sIx]
  |some i =>
   simp only[sliceBounds,HT.sIx,Option.getD_none,show (1:Int) > 0 by decide,if_true]
   by_cases h:i<0
   ·simp only[h,if_true]<;>lia
   ·simp only[h,if_false]<;>lia
theorem zFM (its:List Value) (lo hi:Option Int):slicePick its.toArray lo hi none=((its.drop (HT.sIx its.length 0 lo)).take (HT.sIx its.length its.length hi - HT.sIx its.length 0 lo)).toArray:=by
 obtain⟨h1,h2,h3⟩:=zFv lo hi its.toArray.size;unfold slicePick;rw[h1,h2,h3];simp only[sliceRange_one,pick_run,mF]<;>rfl
inductive rSlL (K:W.Frag) (x:V) (lo hi:Option Int) (H:Hp) (Q:VK):Prop
 |mk (a:Addr) (xs:List V) (hx:x = .ref a) (s:SqL K H a xs) (q:∀p,H p=none->Q (.ref p) (upd H p (.lst (cutV xs lo hi))))
theorem zBZ:SlR X (rSlL X.K):=by
 intro jP s σ H x v vl vu lo hi sl Q I rx hs pl pu h;obtain⟨a,xs,rfl,hx,q⟩:=h;cases rx;obtain⟨its,r,ht,hz⟩:=I.list hx;have hlen:=r.length;refine⟨"list", _,slot_list_getitem.lookup,ht.isList.typeIs,?_⟩;refine wpAny_getItem_list_slice ht.isList hs pl pu .none 68 ?_ (by rw[mF]<;>lia);rw[zFM,←hlen];refine⟨.ref s.heap.objs.size,_,I.laid (t':=s.toks) (o:=.lst (cutV xs lo hi)) (λ b ob q=>lH _ q) (lS _) ?_,rfl,q _ (I.hok.fresh (lS _))⟩;exact⟨mI (zEf xs lo hi) hz,_,0,(r.drop (HT.sIx xs.length 0 lo)).take (HT.sIx xs.length xs.length hi - HT.sIx xs.length 0 lo),lI _ rfl⟩
noncomputable def flatV:V->Bool
 |.non=>true
 |.bl _=>true
 |.int _=>true
 |.str _=>true
 |_=>false
noncomputable def eqV:V->V->Bool
 |.non,.non=>true
 |.bl a,.bl b=>a == b
 |.bl a,.int b=>(if a then 1 else 0) == b
 |.int a,.bl b=>a == (if b then 1 else 0)
 |.int a,.int b=>a == b
 |.str a,.str b=>a == b
 |_,_=>false
theorem zMx {A:Around}{s:Shared}{y x:V}{u v:Value}(ry:RelV y u) (rx:RelV x v) (fy:flatV y=true) (fx:flatV x=true):SeqAt.EqAt A s u v (eqV y x):=by
 cases y with
 |non =>
  cases ry;cases x with
  |non=>cases rx;exact SeqAt.EqAt.same _
  |bl b=>cases rx;exact SeqAt.EqAt.none_bool b
  |int b=>obtain⟨t,rfl⟩:=rx;exact SeqAt.EqAt.none_int b t
  |str b=>obtain⟨t,rfl⟩:=rx;exact SeqAt.EqAt.none_str b t
  |_=>exact absurd (show false=true from fx) lZ
 |bl a =>
  cases ry;cases x with
  |non=>cases rx;exact SeqAt.EqAt.bool_none a
  |bl b=>cases rx;exact SeqAt.EqAt.bool_bool a b
  |int b=>obtain⟨t,rfl⟩:=rx;exact SeqAt.EqAt.bool_int a b t
  |str b=>obtain⟨t,rfl⟩:=rx;exact SeqAt.EqAt.bool_str a b t
  |_=>exact absurd (show false=true from fx) lZ
 |int a =>
  obtain⟨t',rfl⟩:=ry;cases x with
  |non=>cases rx;exact SeqAt.EqAt.int_none a t'
  |bl b=>cases rx;exact SeqAt.EqAt.int_bool a t' b
  |int b=>obtain⟨t,rfl⟩:=rx;exact SeqAt.EqAt.int_int a t' b t
  |str b=>obtain⟨t,rfl⟩:=rx;exact SeqAt.EqAt.int_str a t' b t
  |_=>exact absurd (show false=true from fx) lZ
 |str a =>
  obtain⟨t',rfl⟩:=ry;cases x with
  |non=>cases rx;exact SeqAt.EqAt.str_none a t'
  |bl b=>cases rx;exact SeqAt.EqAt.str_bool a t' b
  |int b=>obtain⟨t,rfl⟩:=rx;exact SeqAt.EqAt.str_int a t' b t
  |str b=>obtain⟨t,rfl⟩:=rx;exact SeqAt.EqAt.str_str a t' b t
  |_=>exact absurd (show false=true from fx) lZ
 |_=>exact absurd (show false=true from fy) lZ
noncomputable def eqU (x:V) (u:Value):Bool:=match u with
 |.none=>eqV .non x
 |.bool b=>eqV (.bl b) x
 |.int i _=>eqV (.int i) x
 |.str z _=>eqV (.str z) x
 |_=>false
theorem zLR {x y:V}{u:Value}(r:RelV y u) (f:flatV y=true):eqU x u=eqV y x:=by
 cases y with
 |non=>cases r;rfl
 |bl b=>cases r;rfl
 |int i=>obtain⟨t,rfl⟩:=r;rfl
 |str z=>obtain⟨t,rfl⟩:=r;rfl
 |_=>exact absurd (show false=true from f) lZ
theorem zEl {x:V}{xs:List V}{us:List Value}(h:Vals xs us):xs.all flatV=true->us.any (eqU x)=xs.any λ y=>eqV y x:=by
 induction h with
 |nil=>exact λ U=>rfl
 |cons r t ih=>intro f;rw[List.all_cons,Bool.and_eq_true] at f;rw[List.any_cons,List.any_cons,zLR r f.1,ih f.2]
theorem zDd {A:Around}{s:Shared}{x:V}{v:Value}(rx:RelV x v) (fx:flatV x=true){xs:List V}{us:List Value}(z:Vals xs us):xs.all flatV=true->∀u∈us,SeqAt.EqAt A s u v (eqU x u):=by
 induction z with
 |nil=>exact λ U u hu=>nomatch hu
 |cons r t ih =>
  intro f u' hu;rw[List.all_cons,Bool.and_eq_true] at f;rcases nM.mp hu with rfl|hu
  ·rw[zLR r f.1];exact zMx r rx f.1 fx
  ·exact ih f.2 u' hu
noncomputable def inV (x:V) (xs:List V):Bool:=xs.any λ y=>eqV y x
inductive rIn (K:W.Frag) (neg:Bool) (x y:V) (H:Hp) (Q:VK):Prop
 |mk (p:Addr) (xs:List V) (hy:y = .ref p) (s:SqL K H p xs\/SqT K H p xs) (f:flatV x=true) (g:xs.all flatV=true) (q:Q (.bl (if neg then !inV x xs else inV x xs)) H)
theorem zCH:OpR X (compareOp .In) (rIn X.K false):=by
 intro jP s σ H x y v u Q I rx ry h;obtain⟨p,xs,rfl,hq,fx,fs,q⟩:=h;cases ry;rcases hq with hq|hq
 ·obtain⟨its,r,pl,hz⟩:=I.list hq
  refine SeqAt.in_listAt (eqU x) pl.isList (λ w hw=>zDd rx fx r fs w (by simpa using hw)) ⟨.bl _,H,I,rfl,?_⟩;rw[show its.toArray.any (eqU x)=its.any (eqU x) by simp,zEl r fs];exact q
 ·obtain⟨its,r,pl,hz⟩:=I.tuple hq
  refine SeqAt.in_tupleAt (eqU x) pl (λ w hw=>zDd rx fx r fs w (by simpa using hw)) ⟨.bl _,H,I,rfl,?_⟩;rw[show its.toArray.any (eqU x)=its.any (eqU x) by simp,zEl r fs];exact q
theorem zCm:OpR X (compareOp .NotIn) (rIn X.K true):=by
 intro jP s σ H x y v u Q I rx ry h;obtain⟨p,xs,rfl,hq,fx,fs,q⟩:=h;cases ry;rcases hq with hq|hq
 ·obtain⟨its,r,pl,hz⟩:=I.list hq
  refine SeqAt.notIn_listAt (eqU x) pl.isList (λ w hw=>zDd rx fx r fs w (by simpa using hw)) ⟨.bl _,H,I,rfl,?_⟩;rw[show its.toArray.any (eqU x)=its.any (eqU x) by simp,zEl r fs];exact q
 ·obtain⟨its,r,pl,hz⟩:=I.tuple hq
  refine SeqAt.notIn_tupleAt (eqU x) pl (λ w hw=>zDd rx fx r fs w (by simpa using hw)) ⟨.bl _,H,I,rfl,?_⟩;rw[show its.toArray.any (eqU x)=its.any (eqU x) by simp,zEl r fs];exact q
inductive rLen1 (K:W.Frag) (xs:List V) (H:Hp) (Q:VK):Prop
 |mk (p:Addr) (ys:List V) (hx:xs=[.ref p]) (s:SqL K H p ys\/SqT K H p ys) (q:Q (.int ys.length) H)
theorem zGV:CallR X (.builtin "len") (rLen1 X.K):=by
 intro jP s σ H xs us Q I r h;obtain⟨p,ys,rfl,hq,q⟩:=h;obtain⟨u,rfl,rx⟩:=vals1 r;cases rx;have hn:=zDe;rcases hq with hq|hq
 ·obtain⟨its,r',pl,hz⟩:=I.list hq
  have hlen:=r'.length;exact Calls.call_len_list pl.isList (by simp only[mF]<;>lia) ⟨.int ys.length,H,I.tok _,⟨s.toks+1,by rw[mF,hlen]⟩,q⟩
 ·obtain⟨its,r',pl,hz⟩:=I.tuple hq
  have hlen:=r'.length;exact len_tuple pl (by simp only[mF]<;>lia) ⟨.int ys.length,H,I.tok _,⟨s.toks+1,by rw[mF,hlen]⟩,q⟩
theorem cL {X:Cx}{e:Expr}{es:List Expr}{t:TA}{p pos:Pos}(hm:X.mg "len"=none)(ha:PA X (e::es) t)(hg:Gl X "len":=by rfl)(he:starEach (e::es) X.env=(false,eval e X.env)::starEach es X.env:=by rfl)(hpl:(backTo pos (starEach es X.env)).any (·.1)=false:=by rfl):PE X (.Call (.Name "len" p) (e::es) [] pos) (tCB (rLen1 X.K) t):=zBL zGV hg hm PySem.boot_len ha 69 69 he hpl
theorem zD8:CallR X (.builtin "len") (λ xs H Q=>∃z,A3 (xs=[.str z]) (z.length<=sizeLine) (Q (.int z.length) H)):=by
 intro jP s σ H xs us Q I r h;obtain⟨z,rfl,hz,q⟩:=h;obtain⟨u,rfl,t,rfl⟩:=vals1 r;have hn:=zDe;exact len_str 61 ⟨.int z.length,H,I.tok _,72,q⟩
theorem zD7:CallR X (.type "list") (λ xs H Q=>E2 λ p ys=>A3 (xs=[.ref p]) (SqL X.K H p ys\/SqT X.K H p ys) (∀l,H l=none->Q (.ref l) (upd H l (.lst ys)))):=by
 intro jP s σ H xs us Q I r h;obtain⟨p,ys,rfl,hq,q⟩:=h;obtain⟨u,rfl,rx⟩:=vals1 r;cases rx
 have fin:∀(its:List Value),Vals ys its->ys.length<=sizeLine->∀(h':Heap) (c':Nat),(∀b o',s.heap.get? b=some o'->h'.get? b=some o') ->
   h'.get? s.heap.objs.size=some { cls:=.type "list", dict:=none,data:=.seq its.toArray c',slots:=#[] }->EP X jP σ Q (.ref s.heap.objs.size) { s with heap:=h' }:=λ its r' hz h' c' kp e =>
  ⟨.ref s.heap.objs.size,_,I.laid (t':=s.toks) kp (lS _) (show ObjOk X.prog X.w _ h' _ (.lst ys) from⟨hz,its,c',r',e⟩),rfl,q _ (I.hok.fresh (lS _))⟩
 rcases hq with hq|hq
 ·obtain⟨its,r',pl,hz⟩:=I.list hq
  have hlen:=r'.length;obtain⟨o,ho,hc,n,hd⟩:=pl.isList;exact call_list_seq p (.inl rfl) ho hc hd (λ h' c' kp e=>fin its r' hz h' c' kp e) (by simp only[mF]<;>lia)
 ·obtain⟨its,r',pl,hz⟩:=I.tuple hq
  have hlen:=r'.length;obtain⟨o,ho,hc,n,hd⟩:=pl;exact call_list_seq p (.inr rfl) ho hc hd (λ h' c' kp e=>fin its r' hz h' c' kp e) (by simp only[mF]<;>lia)
theorem zBw:CallR X (.type "tuple") (λ xs H Q=>E2 λ p ys=>xs=[.ref p]/\((SqL X.K H p ys/\∀l,H l=none->Q (.ref l) (upd H l (.tup ys)))\/(SqT X.K H p ys/\Q (.ref p) H))):=by
 intro jP s σ H xs us Q I r h;obtain⟨p,ys,rfl,h⟩:=h;obtain⟨u,rfl,rx⟩:=vals1 r;cases rx;rcases h with ⟨hq,q⟩|⟨hq,q⟩
 ·obtain⟨its,r',pl,hz⟩:=I.list hq
  have hlen:=r'.length;refine call_tuple_list pl.isList (λ h' kp=>?_) (by simp only[mF]<;>lia);have I1:Inv X jP σ H { s with heap:=h' }:=I.kept (t':=s.toks) kp
  have I2:Inv X jP σ (upd H h'.objs.size (.tup ys)) { s with heap:=h'.push { cls:=.type "tuple", data:=.seq its.toArray } } :=
   I1.laid (t':=s.toks) (λ b o e=>lH _ e) (lS _) (show ObjOk X.prog X.w _ _ _ (.tup ys) from⟨hz,its,r',IsTup.new _ _⟩)
  exact⟨.ref h'.objs.size,_,I2,rfl,q _ (I1.hok.fresh (lS _))⟩
 ·obtain⟨its,r',pl,hz⟩:=I.tuple hq
  exact call_tuple_same pl ⟨.ref p,H,I,rfl,q⟩
def tyV (K:W.Frag) (T:String) (x:V) (H:Hp):Prop:=match x with
 |.str _=>T = "str"
 |.int _=>T = "int"
 |.ref p=>(T = "list" /\ ∃xs,SqL K H p xs)\/(T = "tuple" /\ ∃o,K.lookup p=some o/\o.cls = .type "tuple" /\ o.dict=none) \/
   (T = "dict" /\ ((∃kvs,H p=some (.dK kvs))\/∃kvs,H p=some (.dT kvs)))\/(T = "set" /\ ∃S n,H p=some (.set S n))
 |_=>False
theorem zMJ {jP:List 86}{σ:St}{H:Hp}{s:Shared}{T:String}{x:V}{v:Value}(I:Inv X jP σ H s) (r:RelV x v) (ty:tyV X.K T x H) :
  s.TypeIs v T/\∀a,v = .ref a->∃ob,s.heap.get? a=some ob/\ob.dict=none:=by
 cases x with
 |str z =>
  obtain⟨t,rfl⟩:=r;cases (show T = "str" from ty);exact⟨typeIs_str s z t,λ Ω e=>nomatch e⟩
 |int i =>
  obtain⟨t,rfl⟩:=r;cases (show T = "int" from ty);exact⟨typeIs_int s i t,λ Ω e=>nomatch e⟩
 |ref p =>
  cases r;rcases ty with ⟨rfl,xs,hq⟩|⟨rfl,o,hk,hc,hd⟩|⟨rfl,hk⟩|⟨rfl,S,n,hk⟩
  ·obtain⟨its,_,pl,_⟩:=I.list hq
   refine⟨pl.isList.typeIs,λ a e=>?_⟩;cases e;obtain⟨o,n,e,c,hd,_⟩:=pl;exact⟨o,e,hd⟩
  ·refine⟨⟨o,I.kIn p o hk,hc⟩,λ a e=>?_⟩
   cases e;exact⟨o,I.kIn _ o hk,hd⟩
  ·have z:∃o,s.heap.get? p=some o/\o.ExactDict:=by
    rcases hk with ⟨kvs,hk⟩|⟨kvs,hk⟩
    ·obtain⟨_,_,_,_,o,_,_,e,ex,_⟩:=I.hok p _ hk
     exact⟨o,e,ex⟩
    ·obtain⟨_,_,_,_,o,_,_,e,ex,_⟩:=I.hok p _ hk
     exact⟨o,e,ex⟩
   obtain⟨o,e,ex⟩:=z;refine⟨⟨o,e,ex.1⟩,λ a e2=>?_⟩;cases e2;exact⟨o,e,ex.2.1⟩
  ·obtain⟨o,_,_,_,e,ex,_⟩:=I.hok p _ hk
   refine⟨⟨o,e,ex.1⟩,λ a e2=>?_⟩;cases e2;exact⟨o,e,ex.2.1⟩
 |_=>exact False.elim ty
def tBM (K:W.Frag) (T:String) (r:V->List V->Hp->VK->Prop) (to:TE) (t:TA):TE:=λ σ H Q=>to σ H λ x H1=>tyV K T x H1/\t σ H1 λ xs H2=>r x xs H2 Q
variable {o e:Expr}{es:List Expr}{to:TE}{t:TA}{name:Str}{apos cpos:Pos}{T id:String}{r:V->List V->Hp->VK->Prop}
theorem pe_bm (pa:PlainAttrs T) (slot:Slot T name id) (hty:typeOf (.builtin id)=pure (.type "method_descriptor")) (hm:MtR X id r) (ho:PE X o to) (ha:PA X (e::es) t)
  (hbase:attributeBase o name X.env (eval o X.env)=eval o X.env:=by rfl)
  (hfew:((backTo cpos (starEach (e::es) X.env)).all (λ x=>!x.1) && (backToKw cpos (keywordEach [] X.env)).all (λ x=>x.1.isSome)
   && decide ((e::es).length+([]:List Keyword).length+(if ([]:List Keyword).isEmpty then 0 else 1)<30))=true:=by rfl)
  (hline:(apos.endLine == cpos.line)=true:=by rfl) (hs:starEach (e::es) X.env=(false,eval e X.env)::starEach es X.env:=by rfl) (hplain:(backTo cpos (starEach es X.env)).any (·.1)=false:=by rfl) :
  PE X (.Call (.Attribute o name apos) (e::es) [] cpos) (tBM X.K T r to t):=by
 intro jP s σ H Q I h;refine wpAny_Call_method_late hbase hfew hline rfl (thn (ho jP s σ H _ I h) λ v s1 ⟨x,H1,I1,r1,ty,q1⟩=>?_);obtain⟨h1,h2⟩:=zMJ I1 r1 ty;refine⟨T,id,pa,slot,hty,h1,h2,?_⟩;have hA:=ha cpos jP s1 σ H1 _ I1 q1;rw[hs] at hA ⊢;refine Calls.callWith_builtin (by show (false || (backTo cpos (starEach es X.env)).any (·.1))=false;rw[hplain]<;>rfl) (Calls.evalArgs_plain ?_);exact thn hA λ us s2 ⟨vs,H2,I2,r2,q2⟩=>hm jP s2 σ H2 x vs v us Q I2 r1 r2 q2
end
def MtM (X:Cx) (id:String) (r:V->List V->Hp->VK->Prop):Prop :=
 ∀(jP:List 86) (s:Shared) (σ:St) (H:Hp) (x:V) (xs:List V) (v:Value) (us:List Value) (Q:VK),Inv X jP σ H s->RelV x v->Vals xs us->r x xs H Q ->
  wpAny 74 X.A (call (.builtin id) (v::us)) (EP X jP σ Q) X.xe s
theorem Vals.one {x:V}{us:List Value}(h:Vals [x] us):∃u,us=[u]/\RelV x u:=by
 cases h with|cons r t=>cases t;exact⟨_,rfl,r⟩
section
variable {X:Cx}{jP:List (Addr × Obj)}{σ:St}{H:Hp}{s:Shared}{l b:Addr}{xs ys zs:List V}
theorem Inv.lset {its its':List Value}{n:Nat}{f:Array Value->Array Value}{t':Nat}(I:Inv X jP σ H s) (hH:H l=some (.lst xs))
  (e:s.heap.get? l=some { cls:=.type "list", data:=.seq its.toArray n }) (hf:f its.toArray=its'.toArray) (hv:Vals ys its') (hz:ys.length<=sizeLine) :
  Inv X jP σ (upd H l (.lst ys)) { s with heap:=s.heap.update l (Obj.mapSeq f),toks:=t' }:=by
 have q:=PySem.IsL.update e f;rw[hf] at q;refine I.write (x:=l) (e:=l) (by rw[hH];exact trivial) (.inl rfl) (λ b' u hb hu=>(Heap.get?_update_other s.heap (Obj.mapSeq f) (Ne.symm hb)).trans hu) ⟨_,q⟩ ?_;exact⟨hz,its',_,hv,q⟩
theorem Inv.lnew {its:List Value}{t':Nat}(I:Inv X jP σ H s) (hv:Vals ys its) (hz:ys.length<=sizeLine) :
  Inv X jP σ (upd H s.heap.objs.size (.lst ys)) { s with heap:=s.heap.push { cls:=.type "list", data:=.seq its.toArray },toks:=t' } :=
 I.laid (λ Ω Ω q=>lH _ q) (lS _) ⟨hz,its,0,hv,lI _ rfl⟩
theorem Inv.fresh (I:Inv X jP σ H s):H s.heap.objs.size=none:=I.hok.fresh (lS _)
theorem Inv.lstM (I:Inv X jP σ H s) (hH:H l=some (.lst xs)):xs.length<=sizeLine/\∃(its:List Value) (n:Nat),Vals xs its/\xs.length=its.length/\s.heap.get? l=some { cls:=.type "list", data:=.seq its.toArray n }:=by
 obtain⟨z,its,n,r,e⟩:=I.hok l _ hH;exact⟨z,its,n,r,r.length,e⟩
theorem zHa {n:Nat}(h:n<=sizeLine):Builtin.List.listTooLong n=false:=by
 unfold Builtin.List.listTooLong;exact decide_eq_false 61
end
section
variable {X:Cx}
inductive zIk (x:V) (vs:List V) (H:Hp) (Q:VK):Prop
 |mk (l:Addr) (xs:List V) (y:V) (hx:x = .ref l) (hv:vs=[y]) (e:H l=some (.lst xs)) (z:xs.length<sizeLine) (q:Q .non (upd H l (.lst (xs++[y]))))
theorem zCn:MtM X "list.append" zIk:=by
 intro jP s σ H x vs v us Q I rx rv h;obtain⟨l,xs,y,rfl,rfl,hH,hz,q⟩:=h;cases rx;obtain⟨u,rfl,ru⟩:=rv.one;obtain⟨z,its,n,r,hl,e⟩:=I.lstM hH;refine call_meets F.slot_list_append ⟨_,e,rfl⟩ F.entry_list_append (F.args_list_append_2 _ _) (PySem.list_append l its.toArray n u (by rw[mF];lia)) ⟨e,?_⟩;refine⟨.non,_,I.lset (its':=its++[u]) hH e 68 (r.append (.cons ru .nil)) ?_,rfl,q⟩;rw[mK,List.length_singleton]
 lia
theorem pAp {X:Cx}{o e:Expr}{to te:TE}{apos cpos pos:Pos}(ho:PE X o to)(he:PE X e te)(h1:attributeBase o "append" X.env (eval o X.env)=eval o X.env:=by rfl)(h2:((backTo cpos (starEach [e] X.env)).all (λ x=>!x.1)&&(backToKw cpos (keywordEach [] X.env)).all (λ x=>x.1.isSome)&&decide ([e].length+([]:List Keyword).length+(if ([]:List Keyword).isEmpty then 0 else 1)<30))=true:=by rfl)(h3:(apos.endLine==cpos.line)=true:=by rfl)(h4:starEach [e] X.env=(false,eval e X.env)::starEach [] X.env:=by rfl)(h5:(backTo cpos (starEach [] X.env)).any (·.1)=false:=by rfl)(h6:swapsWith (.Call (.Attribute o "append" apos) [e] [] cpos) none pos.line X.env=pure false:=by rfl):PS X (.Expr (.Call (.Attribute o "append" apos) [e] [] cpos) pos) (tDrop (tBM X.K "list" zIk to (tCons te tNil))):=zDq (pe_bm rO rQ rR zCn ho (zAA he zAD h4) h1 h2 h3 h4 h5) h6
def zLe:V->List V->Hp->VK->Prop:=λ x vs H Q=>E4 λ l b xs zs=>A6 (x = .ref l) (vs=[.ref b]) (H l=some (.lst xs)) (H b=some (.lst zs)) (xs.length+zs.length<=sizeLine) (Q .non (upd H l (.lst (xs++zs))))
theorem zF9:MtM X "list.extend" zLe:=by
 intro jP s σ H x vs v us Q I rx rv h;obtain⟨l,b,xs,zs,rfl,rfl,hH,hB,hz,q⟩:=h;cases rx;obtain⟨u,rfl,ru⟩:=rv.one;cases ru;obtain⟨z,its,n,r,hl,e⟩:=I.lstM hH;obtain⟨z2,its2,n2,r2,hl2,e2⟩:=I.lstM hB;have hsz:its.toArray.size+its2.toArray.size<=sizeLine:=by rw[mF,mF];lia
 have hlong:¬(!its.toArray.isEmpty && Builtin.List.listTooLong (its.toArray.size+its2.toArray.size))=true:=by
  rw[zHa hsz,Bool.and_false];exact lZ
 refine call_meets F.slot_list_extend ⟨_,e,rfl⟩ F.entry_list_extend (F.args_list_extend_2 _ _)
  (AutoSeq1.list_extend_list_list_0 l its.toArray n b its2.toArray n2 hlong (by rw[mF];lia) 61) ⟨e,e2,?_⟩
 refine⟨.non,_,I.lset (its':=its++its2) hH e 68 (r.append r2) ?_,rfl,q⟩;rw[mK]
 lia
inductive rCat (x y:V) (H:Hp) (Q:VK):Prop
 |mk (l b:Addr) (xs zs:List V) (hx:x = .ref l) (hy:y = .ref b) (e:H l=some (.lst xs)) (e2:H b=some (.lst zs)) (z:xs.length+zs.length<=sizeLine) (q:∀p,H p=none->Q (.ref p) (upd H p (.lst (xs++zs))))
theorem zDb:OpR X (binaryOp .Add) rCat:=by
 intro jP s σ H x y v u Q I rx ry h;obtain⟨l,b,xs,zs,rfl,rfl,hH,hB,hz,q⟩:=h;cases rx;cases ry;obtain⟨z,its,n,r,hl,e⟩:=I.lstM hH;obtain⟨z2,its2,n2,r2,hl2,e2⟩:=I.lstM hB;refine PySem.P.add_list e e2 ?_ (by rw[mF,mF];lia);have ea:its.toArray++its2.toArray=(its++its2).toArray:=by simp
 rw[ea];exact⟨.ref _,_,I.lnew (t':=s.toks) (r.append r2) (by rw[mK];lia),rfl,q _ I.fresh⟩
end
section
variable {κ:Type} [DecidableEq κ]
noncomputable def valV (kvs:List (κ × V)) (k:κ):Option V:=(kvs.find? λ kv=>decide (kv.1=k)).map (·.2)
noncomputable def putK (kvs:List (κ × V)) (k:κ) (v:V):List (κ × V) :=
 if (kvs.any λ kv=>decide (kv.1=k))=true then kvs.map (λ kv=>if kv.1=k then (kv.1,v) else kv) else kvs++[(k,v)]
theorem zBB {p:κ × V}{r:List (κ × V)}{k:κ}(e:p.1=k):valV (p::r) k=some p.2:=by simp[valV,List.find?_cons,e]
theorem zBC {p:κ × V}{r:List (κ × V)}{k:κ}(e:¬p.1=k):valV (p::r) k=valV r k:=by simp[valV,List.find?_cons,e]
theorem zDV (k:κ):∀kvs:List (κ × V),(kvs.any λ kv=>decide (kv.1=k))=(valV kvs k).isSome
 |[]=>rfl
 |p::r=>by
  rw[List.any_cons]
  by_cases e:p.1=k
  ·simp only[zBB e,decide_eq_true e,Bool.true_or,Option.isSome_some]
  ·rw[zBC e,decide_eq_false e,Bool.false_or];exact zDV k r
theorem zHB (k j:κ) (y:V):∀kvs:List (κ × V),valV (kvs.map λ kv=>if kv.1=k then (kv.1,y) else kv) j=(valV kvs j).map λ x=>if j=k then y else x
 |[]=>rfl
 |p::r=>by
  have ih:=zHB k j y r;rw[mL]
  by_cases h:p.1=k
  ·rw[if_pos h]
   by_cases e:p.1=j
   ·rw[zBB (p:=(p.1,y)) e,zBB e,Option.map_some,if_pos (e.symm.trans h)]
   ·rw[zBC (p:=(p.1,y)) e,zBC e,ih]
  ·rw[if_neg h]
   by_cases e:p.1=j
   ·rw[zBB (p:=p) e,zBB e,Option.map_some,if_neg (λ z=>h (e.trans z))]
   ·rw[zBC (p:=p) e,zBC e,ih]
theorem zFk (k j:κ) (y:V):∀kvs:List (κ × V),valV kvs k=none->valV (kvs++[(k,y)]) j=if j=k then some y else valV kvs j
 |[],_=>by
  by_cases e:k=j
  ·rw[if_pos e.symm];exact zBB (p:=(k,y)) e
  ·rw[if_neg (λ z=>e z.symm)];exact zBC (p:=(k,y)) e
 |p::r,hn=>by
  rw[List.cons_append];have hk:¬p.1=k:=λ z=>by rw[zBB z] at hn;cases hn
  rw[zBC hk] at hn;have ih:=zFk k j y r hn
  by_cases e:p.1=j
  ·rw[zBB e,zBB e,if_neg (λ z=>hk (e.trans z))]
  ·rw[zBC e,zBC e,ih]
theorem zDU (kvs:List (κ × V)) (k j:κ) (y:V):valV (putK kvs k y) j=if j=k then some y else valV kvs j:=by
 unfold putK
 by_cases a:(kvs.any λ kv=>decide (kv.1=k))=true
 ·rw[if_pos a,zHB]
  rw[zDV] at a
  by_cases e:j=k
  ·obtain⟨x,hx⟩:=Option.isSome_iff_exists.mp a
   rw[if_pos e,e,hx,Option.map_some,if_pos rfl]
  ·rw[if_neg e]
   cases valV kvs j with
   |none=>rfl
   |some x=>rw[Option.map_some,if_neg e]
 ·rw[if_neg a]
  refine zFk k j y kvs ?_;rw[zDV] at a;cases q:valV kvs k with
  |none=>rfl
  |some x=>rw[q] at a;exact(a rfl).elim
theorem zCa (kvs:List (κ × V)) (k:κ) (v:V):(putK kvs k v).length<=kvs.length+1:=by
 unfold putK;split
 ·rw[lE];lia
 ·rw[mK,mM,List.length_nil];lia
theorem zKK {kvs:List (κ × V)}{k:κ}(v:V) (h:valV kvs k=none):putK kvs k v=kvs++[(k,v)]:=by
 unfold putK;rw[zDV,h];exact if_neg 69
theorem RelO.isSome_eq {o:Option V}{u:Option Value}(r:RelO o u):o.isSome=u.isSome:=by
 cases o with
 |none=>cases u with
  |none=>rfl
  |some _=>exact(show False from r).elim
 |some _=>cases u with
  |none=>exact(show False from r).elim
  |some _=>rfl
theorem RelO.getD {o:Option V}{u:Option Value}{d:V}{d':Value}(r:RelO o u) (rd:RelV d d'):RelV (o.getD d) (u.getD d'):=by
 cases o with
 |none=>cases u with
  |none=>exact rd
  |some _=>exact(show False from r).elim
 |some _=>cases u with
  |none=>exact(show False from r).elim
  |some _=>exact r
theorem KV.val {kvs:List (κ × V)}{vs:List (κ × Value)}(r:KV kvs vs) (k:κ):RelO (valV kvs k) (valueAt vs k):=by
 unfold KV at r
 induction r with
 |nil=>exact True.intro
 | @cons p q ps qs h t ih =>
  obtain⟨h1,h2⟩:=h
  by_cases e:p.1=k
  ·have e':q.1=k:=h1.symm.trans e
   have b:valueAt (q::qs) k=some q.2:=by simp[valueAt,List.find?_cons,e']
   rw[zBB e,b];exact h2
  ·have e':¬q.1=k:=λ z=>e (h1.trans z)
   have b:valueAt (q::qs) k=valueAt qs k:=by simp[valueAt,List.find?_cons,e']
   rw[zBC e,b];exact ih
theorem KV.any {kvs:List (κ × V)}{vs:List (κ × Value)}(r:KV kvs vs) (k:κ):(kvs.any λ kv=>decide (kv.1=k))=vs.any λ kv=>decide (kv.1=k):=by
 unfold KV at r
 induction r with
 |nil=>rfl
 |cons h t ih=>rw[List.any_cons,List.any_cons,ih,h.1]
theorem KV.repl {kvs:List (κ × V)}{vs:List (κ × Value)}(r:KV kvs vs) (k:κ) {y:V}{u:Value}(ry:RelV y u) :
  KV (kvs.map λ kv=>if kv.1=k then (kv.1,y) else kv) (vs.map λ kv=>if kv.1=k then (kv.1,u) else kv):=by
 unfold KV at r ⊢
 induction r with
 |nil=>exact .nil
 | @cons p q ps qs h t ih =>
  rw[mL,mL];refine .cons ?_ ih;obtain⟨h1,h2⟩:=h
  by_cases e:p.1=k
  ·rw[if_pos e,if_pos (h1.symm.trans e)];exact⟨h1,ry⟩
  ·rw[if_neg e,if_neg (λ z=>e (h1.trans z))];exact⟨h1,h2⟩
theorem KV.put {kvs:List (κ × V)}{vs:List (κ × Value)}(r:KV kvs vs) (k:κ) {y:V}{u:Value}(ry:RelV y u):KV (putK kvs k y) (stored vs k u):=by
 unfold putK stored;rw[r.any k]
 by_cases e:(vs.any λ kv=>decide (kv.1=k))=true
 ·rw[if_pos e,if_pos e];exact r.repl k ry
 ·rw[if_neg e,if_neg e];exact Paired.snoc r ⟨rfl,ry⟩
theorem KV.length {kvs:List (κ × V)}{vs:List (κ × Value)}(r:KV kvs vs):kvs.length=vs.length:=Paired.length r
end
theorem kV_is {P:Program}{w:World}{k:Key}{u:Value}(r:RelV (kV k) u):(zAo P w).is k u=true:=by
 cases k with
 |inl i=>obtain⟨t,e⟩:=(show ∃t,u=Value.int i t from r);subst e;exact zGx P w i t
 |inr x=>obtain⟨t,e⟩:=(show ∃t,u=Value.str x t from r);subst e;exact zGw P w x t
theorem zGK {P:Program}{w:World}:∀{ks:List Key}{us:List Value},Vals (ks.map kV) us->ItemsAre (zAo P w) ks us
 |[],_,r=>by rw[List.map_nil] at r;cases r;exact .nil
 |k::ks,_,r=>by
  rw[mL] at r;cases r with
  |cons h t=>exact .cons (kV_is h) (zGK t)
abbrev KT (H:Hp):List (List Key × V)->List (List Key × Addr × Value)->Prop:=Paired λ p q=>p.1=q.1/\H q.2.1=some (.tup (p.1.map kV))/\RelV p.2 q.2.2
theorem KT.val {H:Hp}{kvs:List (List Key × V)}{xs:List (List Key × Addr × Value)}(r:KT H kvs xs) (k:List Key):RelO (valV kvs k) ((atKey xs k).map (·.2)):=by
 induction r with
 |nil=>exact True.intro
 | @cons p q ps qs h t ih =>
  obtain⟨h1,_,h2⟩:=h
  by_cases e:p.1=k
  ·have e':q.1=k:=h1.symm.trans e
   have b:atKey (q::qs) k=some q.2:=by simp[atKey,List.find?_cons,e']
   rw[zBB e,b];exact h2
  ·have e':¬q.1=k:=λ z=>e (h1.trans z)
   have b:atKey (q::qs) k=atKey qs k:=by simp[atKey,List.find?_cons,e']
   rw[zBC e,b];exact ih
theorem KT.repl {H:Hp}{kvs:List (List Key × V)}{xs:List (List Key × Addr × Value)}(r:KT H kvs xs) (k:List Key) {y:V}{u:Value}(ry:RelV y u) :
  KT H (kvs.map λ kv=>if kv.1=k then (kv.1,y) else kv) (xs.map (putAt k u)):=by
 induction r with
 |nil=>exact .nil
 | @cons p q ps qs h t ih =>
  rw[mL,mL];refine .cons ?_ ih;obtain⟨h1,h2,h3⟩:=h;unfold putAt
  by_cases e:p.1=k
  ·rw[if_pos e,if_pos (h1.symm.trans e)];exact⟨h1,h2,ry⟩
  ·rw[if_neg e,if_neg (λ z=>e (h1.trans z))];exact⟨h1,h2,h3⟩
theorem KT.put {H:Hp}{kvs:List (List Key × V)}{xs:List (List Key × Addr × Value)}(r:KT H kvs xs) (k:List Key) {b:Addr}{y:V}{u:Value}(hb:H b=some (.tup (k.map kV))) (ry:RelV y u) :
  KT H (putK kvs k y) (storedH xs k b u):=by
 have e:(kvs.any λ kv=>decide (kv.1=k))=(atKey xs k).isSome:=by
  rw[zDV,(r.val k).isSome_eq,Option.isSome_map]
 unfold putK storedH;rw[e]
 by_cases q:(atKey xs k).isSome=true
 ·rw[if_pos q,if_pos q];exact r.repl k ry
 ·rw[if_neg q,if_neg q];exact Paired.snoc r ⟨rfl,hb,ry⟩
theorem KT.keeps {H H':Hp}{kvs:List (List Key × V)}{xs:List (List Key × Addr × Value)}(r:KT H kvs xs) (ht:∀b ys,H b=some (.tup ys)->H' b=some (.tup ys)):KT H' kvs xs :=
 Paired.mapP r λ Ω Ω z=>⟨z.1,ht _ _ z.2.1,z.2.2⟩
section
variable {P:Program}{w:World}{H:Hp}{h:Heap}{a:Addr}
theorem rd_of {u:HO}(ok:HOk P w H h) (e:Rd H a u):ObjOk P w H h a u:=e.ok ok
theorem dk_rd {kvs:List (Key × V)}(ok:HOk P w H h) (e:Rd H a (.dK kvs)):kvs.length<=sizeLine/\(a == sysModules)=false/\∃vs,KV kvs vs/\h.DictOf (zAo P w) a vs :=
 show ObjOk P w H h a (.dK kvs) from rd_of ok e
theorem dk_of {kvs:List (Key × V)}(ok:HOk P w H h) (e:H a=some (.dK kvs)):kvs.length<=sizeLine/\(a == sysModules)=false/\∃vs,KV kvs vs/\h.DictOf (zAo P w) a vs:=dk_rd ok (.inl e)
theorem zEb {ks:List Key}(ok:HOk P w H h) (e:H a=some (.tup (ks.map kV))):(tupleKind (zAo P w)).is h ks a:=by
 obtain⟨_,its,r,o,h1,h2,n,h3⟩:=(show ObjOk P w H h a (.tup (ks.map kV)) from ok a _ e);exact⟨o,its.toArray,n,h1,h2,h3,by simpa using zGK r⟩
theorem dt_rd {kvs:List (List Key × V)}(ok:HOk P w H h) (e:Rd H a (.dT kvs)):kvs.length<=sizeLine/\(a == sysModules)=false /\
  ∃xs,KT H kvs xs/\h.DictOfH (tupleKind (zAo P w)) a xs:=by
 obtain⟨z,y,xs,r,o,es,ep,h1,h2,h3,h4,h5⟩:=(show ObjOk P w H h a (.dT kvs) from rd_of ok e);refine⟨z,y,xs,r,o,es,ep,h1,h2,h3,h4,λ x hx=>?_,h5⟩
 have all:∀{l:List (List Key × V)}{m:List (List Key × Addr × Value)},KT H l m->∀x∈m,(tupleKind (zAo P w)).is h x.1 x.2.1:=by
  intro l m q
  induction q with
  |nil=>intro x hx;exact nomatch hx
  | @cons p q ps qs hq t ih =>
   intro x hx;rcases lO.mp hx with e|hx
   ·subst e
    exact zEb ok (by rw[←hq.1];exact hq.2.1)
   ·exact ih x hx
 exact all r x hx
theorem dt_of {kvs:List (List Key × V)}(ok:HOk P w H h) (e:H a=some (.dT kvs)):kvs.length<=sizeLine/\(a == sysModules)=false /\
  ∃xs,KT H kvs xs/\h.DictOfH (tupleKind (zAo P w)) a xs:=dt_rd ok (.inl e)
end
def DGet (H:Hp) (a:Addr) (y:V) (r:Option V):Prop :=
 (∃kvs k,Rd H a (.dK kvs)/\y=kV k/\r=valV kvs k)\/∃kvs k b,Rd H a (.dT kvs)/\y = .ref b/\H b=some (.tup (k.map kV))/\r=valV kvs k
def DPut (H:Hp) (a:Addr) (y v:V) (H':Hp):Prop :=
 (∃kvs k,H a=some (.dK kvs)/\y=kV k/\kvs.length<sizeLine/\H'=upd H a (.dK (putK kvs k v))) \/
 ∃kvs k b,H a=some (.dT kvs)/\y = .ref b/\H b=some (.tup (k.map kV))/\kvs.length<sizeLine/\H'=upd H a (.dT (putK kvs k v))
theorem DGet.k {H:Hp}{a:Addr}{kvs:List (Key × V)}{k:Key}(e:H a=some (.dK kvs)):DGet H a (kV k) (valV kvs k):=.inl ⟨kvs,k,.inl e,rfl,rfl⟩
theorem DPut.k {H:Hp}{a:Addr}{kvs:List (Key × V)}{k:Key}{v:V}(e:H a=some (.dK kvs)) (hl:kvs.length<sizeLine):DPut H a (kV k) v (upd H a (.dK (putK kvs k v))):=.inl ⟨kvs,k,e,rfl,hl,rfl⟩
section
variable {X:Cx}{jP:List (Addr × Obj)}{σ:St}{H:Hp}{s:Shared}{a:Addr}{y v:V}{u r:Value}{o:Option V}{A:Around}{E:XQ}
theorem Inv.big (I:Inv X jP σ H s):sysModules<s.heap.objs.size:=by
 have h:mainGlobals<s.heap.objs.size:=(I.mod.glob.keeps I.bk).lt;exact Nat.lt_trans 69 h
theorem zJx {Q:XQ}(hu:A.units+1<cLine) (I:Inv X jP σ H s) (g:DGet H a y (some v)) (ry:RelV y u) (h:∀w' s',Inv X jP σ H s'->RelV v w'->Q w' s') :
  wpAny 74 A (getItem (.ref a) u) Q E s:=by
 rcases g with ⟨kvs,k,e,ey,l⟩|⟨kvs,k,b,e,ey,eb,l⟩
 ·subst ey
  obtain⟨z,hd,vs,rel,dd⟩:=dk_rd I.hok e;obtain⟨w',hw,rw'⟩:=RelO.some_of (v:=v) (o:=valueAt vs k) (by rw[l];exact rel.val k);exact wpAny_getItem_of (kV_is ry) dd.mapOf hw (h w' _ (I.tok _) rw')
 ·subst ey
  cases (show u=Value.ref b from ry);obtain⟨z,hd,xs,rel,dd⟩:=dt_rd I.hok e;obtain⟨w',hw,rw'⟩:=RelO.some_of (v:=v) (o:=(atKey xs k).map (·.2)) (by rw[l];exact rel.val k);obtain⟨p,hp,hp2⟩:=lX.mp hw;refine wpAny_getItem_heap (tupleKind_room_in1 hu) (zEb I.hok eb) dd hp ?_;rw[hp2];exact h w' _ (I.tok _) rw'
theorem d_in {Q:XQ}(hu:A.units+1<cLine) (I:Inv X jP σ H s) (g:DGet H a y o) (ry:RelV y u) (h:∀s',Inv X jP σ H s'->Q (.bool o.isSome) s') :
  wpAny 74 A (compareOp .In u (.ref a)) Q E s:=by
 rcases g with ⟨kvs,k,e,ey,l⟩|⟨kvs,k,b,e,ey,eb,l⟩
 ·subst ey
  obtain⟨z,hd,vs,rel,dd⟩:=dk_rd I.hok e;refine wpAny_in_of (kV_is ry) hd dd.mapOf ?_;rw[←(rel.val k).isSome_eq,←l];exact h _ (I.tok _)
 ·subst ey
  cases (show u=Value.ref b from ry);obtain⟨z,hd,xs,rel,dd⟩:=dt_rd I.hok e;refine wpAny_in_heap (tupleKind_room_in1 hu) (zEb I.hok eb) hd dd ?_;have q:=(rel.val k).isSome_eq;rw[Option.isSome_map] at q;rw[←q,←l];exact h _ (I.tok _)
theorem zMC {Q:XQ}(hu:A.units+1<cLine) (I:Inv X jP σ H s) (g:DGet H a y o) (ry:RelV y u) (h:∀s',Inv X jP σ H s'->Q (.bool (!o.isSome)) s') :
  wpAny 74 A (compareOp .NotIn u (.ref a)) Q E s:=by
 rcases g with ⟨kvs,k,e,ey,l⟩|⟨kvs,k,b,e,ey,eb,l⟩
 ·subst ey
  obtain⟨z,hd,vs,rel,dd⟩:=dk_rd I.hok e;refine wpAny_notIn_of (kV_is ry) hd dd.mapOf ?_;rw[←(rel.val k).isSome_eq,←l];exact h _ (I.tok _)
 ·subst ey
  cases (show u=Value.ref b from ry);obtain⟨z,hd,xs,rel,dd⟩:=dt_rd I.hok e;refine wpAny_notIn_heap (tupleKind_room_in1 hu) (zEb I.hok eb) hd dd ?_;have q:=(rel.val k).isSome_eq;rw[Option.isSome_map] at q;rw[←q,←l];exact h _ (I.tok _)
theorem zFd {h':Heap}{t':Nat}{ob:HO}(I:Inv X jP σ H s) (mu:Mut (H a)) (hs:Heap.SameBut a s.heap h') (he:∃q,h'.get? a=some q) (new:ObjOk X.prog X.w (upd H a ob) h' a ob) :
  Inv X jP σ (upd H a ob) { s with heap:=h',toks:=t' } :=
 I.write (x:=a) (e:=a) mu (.inl rfl) (λ b q hb z=>(hs.2 b hb).trans z) he new
theorem zHn {P:Program}{w:World}{H':Hp}{h':Heap}{kvs:List (Key × V)}{vs:List (Key × Value)}(z:kvs.length<=sizeLine) (hd:(a == sysModules)=false) (rel:KV kvs vs) (dd:h'.DictOf (zAo P w) a vs) :
  ObjOk P w H' h' a (.dK kvs):=⟨z,hd,vs,rel,dd⟩
theorem zJw {H':Hp}{Q:Unit->Shared->Prop}(hu:A.units+1<cLine) (I:Inv X jP σ H s) (g:DPut H a y v H') (ry:RelV y u) (rv:RelV v r) (h:∀s',Inv X jP σ H' s'->Q () s') :
  wpAny 74 A (setItem (.ref a) u r) Q E s:=by
 rcases g with ⟨kvs,k,e,ey,l,eH⟩|⟨kvs,k,b,e,ey,eb,l,eH⟩
 ·subst ey eH
  obtain⟨z,hd,vs,rel,dd⟩:=dk_of I.hok e;have hz:vs.length<=sizeLine:=by rw[←rel.length];exact z
  have hl:(putK kvs k v).length<=sizeLine:=by have:=zCa kvs k v;lia
  refine wpAny_setItem_pairs (hsz:=hz) (kV_is ry) dd λ h' dd' hs=>h _ ?_;have he:∃q,h'.get? a=some q:=let ⟨q,_,_,hq,_⟩:=dd';⟨q,hq⟩;exact zFd I (by rw[e];exact True.intro) hs he (zHn hl hd (rel.put k rv) dd')
 ·subst ey eH
  cases (show u=Value.ref b from ry);obtain⟨z,hd,xs,rel,dd⟩:=dt_of I.hok e;have hz:xs.length<=sizeLine:=by rw[←Paired.length rel];exact z
  have hl:(putK kvs k v).length<=sizeLine:=by have:=zCa kvs k v;lia
  refine wpAny_setItem_heap (hsz:=hz) (tupleKind_room_in1 hu) (zEb I.hok eb) dd λ h' dd' hs=>h _ ?_;obtain⟨q,es,ep,hq,h2,h3,h4,_,h5⟩:=dd';refine zFd I (by rw[e];exact True.intro) hs ⟨q,hq⟩ ⟨hl,hd,_,(rel.put k eb rv).keeps λ c ys ec=>?_,q,es,ep,hq,h2,h3,h4,h5⟩;rw[zAd (ne_of ec e 87)]
  exact ec
end
def NoSl (i:Expr):Prop:=∀ov iv,subscripted i false ov iv=operate [ov,iv] (getItem ov iv)
theorem zLZ {prog:Program}{w:World}{A:Around}{E:XQ}{s:Shared}{env:Env}{value slice:Expr}{pos:Pos}{T id:String}{Q:XQ}
  (hl:typeLookup (.type T) "__getitem__" = pure (some (.builtin id))) (hs:NoSl slice)
  (h:wpAny 90 A (eval value env) (λ o s₁=>wpAny 90 A (eval slice env) (λ i s₂=>s₂.TypeIs o T/\wpAny 90 A (getItem o i) Q E s₂) E s₁) E s) :
  wpAny 90 A (eval (.Subscript value slice pos) env) Q E s:=by
 refine Subscript_ (wpAny_mono h (λ o s₁ h₁=>wpAny_mono h₁ (λ i s₂ h₂=>?_) λ Ω Ω x=>x) λ Ω Ω x=>x);obtain⟨hT,h₂⟩:=h₂;unfold subscriptTail;refine lC ?_;rw[getitemInPython_of_ne hT.not_modules];refine lC (wpAny_specialOf hT hl ?_)
 have fin:wpAny 90 A (subscripted slice false o i) (λ r s₃=>wpAny 90 A (letTemporaryGo value o r >>= λ Ω=>pure r) Q E s₃) E s₂:=by
  rw[hs o i];exact wpAny_operating (wpAny_mono h₂ (λ r s₃ h₃=>lC (wpAny_letTemporaryGo (lD h₃))) λ Ω Ω x=>x)
 first
  |exact lD (lC fin)
  |exact lC (lD (lC fin))
  |exact lC fin
theorem zG1 {X:Cx}{jP:List 86}{σ:St}{H:Hp}{s:Shared}{a:Addr}{y:V}{o:Option V}(I:Inv X jP σ H s) (g:DGet H a y o):s.TypeIs (.ref a) "dict" := by
 rcases g with ⟨kvs,k,e,_,_⟩|⟨kvs,k,b,e,_,_,_⟩
 ·obtain⟨_,_,vs,_,dd⟩:=dk_rd I.hok e
  exact dd.typeIs
 ·obtain⟨_,_,xs,_,dd⟩:=dt_rd I.hok e
  exact dd.typeIs
inductive IsG (Q:VK) (x y:V) (H:Hp):Prop
 |mk (a:Addr) (v:V) (h:x = .ref a) (g:DGet H a y (some v)) (q:Q v H)
def tDGet (td ty:TE):TE:=λ σ H Q=>td σ H λ x H1=>ty σ H1 (IsG Q x)
inductive IsP (N:Hp->Prop) (v x y:V) (H:Hp):Prop
 |mk (a:Addr) (H4:Hp) (h:x = .ref a) (p:DPut H a y v H4) (q:N H4)
def sDPut (td ty tv:TE):TS:=λ D σ H=>tv σ H λ v H1=>td σ H1 λ x H2=>ty σ H2 (IsP (D.nx σ) v x)
section
variable {X:Cx}{o i e value:Expr}{pos pos' tpos:Pos}{td ty tv:TE}
theorem zET (hu:X.A.units+1<cLine) (ho:PE X o td) (hi:PE X i ty) (hs:NoSl i):PE X (.Subscript o i pos) (tDGet td ty):=by
 intro jP s σ H Q I h;refine zLZ PySem.F.slot_dict_getitem.lookup hs (thn (ho jP s σ H _ I h) λ u s1 ⟨x,H1,I1,rx,q1⟩=>thn (hi jP s1 σ H1 _ I1 q1) λ iv s2 ⟨y,H2,I2,ry,a,v,ex,g,q2⟩=>?_);subst ex;obtain rfl:u=Value.ref a:=rx;exact⟨zG1 I2 g,zJx hu I2 g ry λ w' s3 I3 rw'=>⟨v,H2,I3,rw',q2⟩⟩
theorem zGq (hu:X.A.units+1<cLine) (ho:PE X o td) (hi:PE X i ty) (hv:PE X value tv) (hs:swapsWith value (some (.Subscript o i pos')) pos.line X.env=pure false) :
  PS X (.Assign [.Subscript o i pos'] value pos) (sDPut td ty tv):=by
 intro jP s σ H D I h;refine wpAny_Assign_Subscript (thn (hv jP s σ H _ I h) λ r s1 ⟨v,H1,I1,rv,q1⟩=>thn (ho jP s1 σ H1 _ I1 q1) λ u s2 ⟨x,H2,I2,rx,q2⟩=>thn (hi jP s2 σ H2 _ I2 q2) λ iv s3 ⟨y,H3,I3,ry,a,H4,ex,g,q3⟩=>?_) hs;subst ex;obtain rfl:u=Value.ref a:=rx;exact zJw hu I3 g ry rv λ s4 I4=>⟨σ,H4,I4,q3⟩
end
theorem zHo {P:Program}{w:World}{H:Hp}(h:Heap) (hb:sysModules<h.objs.size):ObjOk P w H (h.push { cls:=.type "dict", data:=.dict #[] }) h.objs.size (.dK []) :=
 ⟨mB _,beq_eq_false_iff_ne.mpr (Ne.symm (lT hb)),[],.nil,Heap.DictOf.new h⟩
def zMM:TE:=λ Ω H Q=>∀p,H p=none->Q (.ref p) (upd H p (.dK []))
section
variable {X:Cx}{pos:Pos}
theorem zCx:PE X (.Dict [] [] pos) zMM:=λ jP s σ H Q I h =>
 wpAny_Dict_empty ⟨.ref s.heap.objs.size,_,I.laid (a:=s.heap.objs.size) (o:=.dK []) (t':=s.toks) (λ Ω Ω q=>lH _ q) (lS _) (zHo s.heap I.big),rfl,h _ (I.hok.fresh (lS _))⟩
end
def zIV:List (TE × TE)->St->Hp->(List (V × V)->Hp->Prop)->Prop
 |[],_,H,Q=>Q [] H
 | (tk,tv)::r,σ,H,Q=>tk σ H λ x H1=>tv σ H1 λ y H2=>zIV r σ H2 λ ps H3=>Q ((x,y)::ps) H3
abbrev VV:List (V × V)->List (Value × Value)->Prop:=Paired λ p q=>RelV p.1 q.1/\RelV p.2 q.2
def PPs (X:Cx) (pos:Pos) (keys:List (Option Expr)) (values:List Expr) (trs:List (TE × TE)):Prop :=
 ∀(jP:List 86) (s:Shared) (σ:St) (H:Hp) (Q:List (V × V)->Hp->Prop),Inv X jP σ H s->zIV trs σ H Q ->
  wpAny 74 X.A (evalPairs (pairTrees keys values X.env pos)) (λ vs s'=>∃ps H',Inv X jP σ H' s'/\VV ps vs/\Q ps H') X.xe s
theorem zIl {X:Cx}{pos:Pos}:PPs X pos [] [] []:=λ jP s σ H Q I h=>pairTrees_nil_walk ⟨[],H,I,.nil,h⟩
theorem zHV {X:Cx}{pos:Pos}{k v:Expr}{ks:List (Option Expr)}{vs:List Expr}{tk tv:TE}{trs:List (TE × TE)}(hk:PE X k tk) (hv:PE X v tv) (hr:PPs X pos ks vs trs) :
  PPs X pos (some k::ks) (v::vs) ((tk,tv)::trs):=λ jP s σ H Q I h =>
 pairTrees_cons_walk (thn (hk jP s σ H _ I h) λ u s1 ⟨x,H1,I1,rx,q1⟩=>thn (hv jP s1 σ H1 _ I1 q1) λ w2 s2 ⟨y,H2,I2,ry,q2⟩ =>
  thn (hr jP s2 σ H2 _ I2 q2) λ ws s3 ⟨ps,H3,I3,rel,q3⟩=>⟨(x,y)::ps,H3,I3,.cons ⟨rx,ry⟩ rel,q3⟩)
noncomputable def zAt (kvs more:List (Key × V)):List (Key × V):=more.foldl (λ acc kv=>putK acc kv.1 kv.2) kvs
theorem KV.merge:∀{more:List (Key × V)}{rs:List (Key × Value)}{kvs:List (Key × V)}{vs:List (Key × Value)},KV more rs->KV kvs vs->KV (zAt kvs more) (merged vs rs):=by
 intro more rs kvs vs r;unfold KV at r
 induction r generalizing kvs vs with
 |nil=>intro q;exact q
 | @cons p q ps qs h t ih =>
  intro r0
  have e:KV (putK kvs p.1 p.2) (stored vs q.1 q.2):=by
   have:=r0.put p.1 h.2;rw[←h.1];exact this
  exact ih e
theorem zBY:∀(more kvs:List (Key × V)),(zAt kvs more).length<=kvs.length+more.length
 |[],kvs=>by show kvs.length<=kvs.length+0;lia
 |p::r,kvs=>by
  have h1:=zBY r (putK kvs p.1 p.2);have h2:=zCa kvs p.1 p.2;show (zAt (putK kvs p.1 p.2) r).length<=_;rw[mM];lia
theorem zFF {P:Program}{w:World}:∀{kvs:List (Key × V)}{ws:List (Value × Value)},VV (kvs.map λ kv=>(kV kv.1,kv.2)) ws->∃rs,Carries (zAo P w) ws rs/\KV kvs rs
 |[],_,r=>by rw[List.map_nil] at r;cases r;exact⟨[],True.intro,.nil⟩
 |p::kvs,_,r=>by
  rw[mL] at r;cases r with
  | @cons a b as bs h t =>
   obtain⟨rs,c,q⟩:=zFF (P:=P) (w:=w) t;obtain⟨b1,b2⟩:=b;exact⟨(p.1,b2)::rs,⟨kV_is h.1,rfl,c⟩,.cons ⟨rfl,h.2⟩ q⟩
def tDisp (trs:List (TE × TE)):TE:=λ σ H Q=>∀p,H p=none->zIV trs σ (upd H p (.dK [])) λ ps H2=>H2 p=some (.dK [])/\∃kvs:List (Key × V),ps=kvs.map (λ kv=>(kV kv.1,kv.2))/\kvs.length<=15/\Q (.ref p) (upd H2 p (.dK (zAt [] kvs)))
theorem zIs {X:Cx}{pos:Pos}{keys:List (Option Expr)}{values:List Expr}{trs:List (TE × TE)}(h:PPs X pos keys values trs) (hall:keys.all (·.isSome)=true) (hl:keys.length=values.length) (h0:keys≠[])
  (h15:keys.length<=15):PE X (.Dict keys values pos) (tDisp trs):=by
 intro jP s σ H Q I q;have hn:=I.hok.fresh (lS s.heap.objs.size);have I1:=I.laid (a:=s.heap.objs.size) (o:=.dK []) (h':=s.heap.push { cls:=.type "dict", data:=.dict #[] }) (t':=s.toks) (λ Ω Ω q=>lH _ q) (lS _) (zHo s.heap I.big);refine wpAny_Dict_walk (knd:=zAo X.prog X.w) hall hl h0 h15 (thn (h jP _ σ _ _ I1 (q _ hn)) λ ws s2 ⟨ps,H2,I2,rel,e,kvs,ep,lk,q2⟩=>?_);subst ep;obtain⟨rs,c,rk⟩:=zFF (P:=X.prog) (w:=X.w) rel;obtain⟨z,hd,vs0,r0,dd⟩:=dk_of I2.hok e;cases r0;refine⟨rs,c,dd,λ h' dd' hs=>⟨.ref s.heap.objs.size,_,?_,rfl,q2⟩⟩
 have hz:(zAt [] kvs).length<=sizeLine:=by
  have h1:=zBY kvs [];rw[List.length_nil] at h1;rw[sizeLine_eq];lia
 have he:∃q,h'.get? s.heap.objs.size=some q:=let ⟨q,_,_,hq,_⟩:=dd';⟨q,hq⟩;exact zFd I2 (by rw[e];exact True.intro) hs he (zHn hz hd (rk.merge .nil) dd')
structure M1 (X:Cx) (o:Expr) (m:Str) (apos:Pos) (e:Expr) (cpos:Pos):Prop where
 base:attributeBase o m X.env (eval o X.env)=eval o X.env
 few:((backTo cpos (starEach [e] X.env)).all (λ x=>!x.1) && (backToKw cpos (keywordEach [] X.env)).all (λ x=>x.1.isSome)
  && decide (([e]:List Expr).length+([]:List Keyword).length+(if ([]:List Keyword).isEmpty then 0 else 1)<30))=true
 line:(apos.endLine == cpos.line)=true
 trees:backTo cpos (starEach [e] X.env)=[(false,eval e X.env)]
structure M2 (X:Cx) (o:Expr) (m:Str) (apos:Pos) (e f:Expr) (cpos:Pos):Prop where
 base:attributeBase o m X.env (eval o X.env)=eval o X.env
 few:((backTo cpos (starEach [e,f] X.env)).all (λ x=>!x.1) && (backToKw cpos (keywordEach [] X.env)).all (λ x=>x.1.isSome)
  && decide (([e,f]:List Expr).length+([]:List Keyword).length+(if ([]:List Keyword).isEmpty then 0 else 1)<30))=true
 line:(apos.endLine == cpos.line)=true
 trees:backTo cpos (starEach [e,f] X.env)=[(false,eval e X.env),(false,eval f X.env)]
def IsD (H:Hp) (a:Addr):Prop:=(∃kvs,Rd H a (.dK kvs))\/∃kvs,Rd H a (.dT kvs)
theorem zLJ {X:Cx}{jP:List 86}{σ:St}{H:Hp}{s:Shared}{a:Addr}(I:Inv X jP σ H s) (d:IsD H a) :
  s.TypeIs (.ref a) "dict" /\ (∀b,Value.ref a = .ref b->∃ob,s.heap.get? b=some ob/\ob.dict=none)/\(a == sysModules)=false:=by
 rcases d with ⟨kvs,e⟩|⟨kvs,e⟩
 ·obtain⟨_,hd,vs,_,dd⟩:=dk_rd I.hok e
  refine⟨dd.typeIs,λ b q=>?_,hd⟩;cases q;obtain⟨ob,_,_,h1,h2,_⟩:=dd;exact⟨ob,h1,h2.2.1⟩
 ·obtain⟨_,hd,xs,_,dd⟩:=dt_rd I.hok e
  refine⟨dd.typeIs,λ b q=>?_,hd⟩;cases q;obtain⟨ob,_,_,h1,h2,_⟩:=dd;exact⟨ob,h1,h2.2.1⟩
section
variable {X:Cx}{jP:List (Addr × Obj)}{σ:St}{H:Hp}{s:Shared}{a:Addr}{y d:V}{u r:Value}{o:Option V}{A:Around}{E:XQ}
theorem zM1 {Q:XQ}(hu:A.units+1<cLine) (I:Inv X jP σ H s) (g:DGet H a y o) (ry:RelV y u) (h:∀w' s',Inv X jP σ H s'->RelV (o.getD .non) w'->Q w' s') :
  wpAny 74 A (call (.builtin "dict.get") [.ref a,u]) Q E s:=by
 rcases g with ⟨kvs,k,e,ey,l⟩|⟨kvs,k,b,e,ey,eb,l⟩
 ·subst ey
  obtain⟨z,hd,vs,rel,dd⟩:=dk_rd I.hok e;refine call_meetsIn PySem.F.slot_dict_get dd.typeIs PySem.F.entry_dict_get (PySem.F.args_dict_get_2 _ _) (meets_dict_get (zAo X.prog X.w) a (kV_is ry) hd) ⟨_,dd.mapOf,h _ _ (I.tok _) ?_⟩;rw[l];exact(rel.val k).getD rfl
 ·subst ey
  cases (show u=Value.ref b from ry);obtain⟨z,hd,xs,rel,dd⟩:=dt_rd I.hok e;refine call_meetsIn PySem.F.slot_dict_get dd.typeIs PySem.F.entry_dict_get (PySem.F.args_dict_get_2 _ _) (meetsH_dict_get (tupleKind (zAo X.prog X.w)) a b hd) ⟨tupleKind_room_in1 hu,k,xs,zEb I.hok eb,dd,h _ _ (I.tok _) ?_⟩;rw[l];exact(rel.val k).getD rfl
theorem zM0 {Q:XQ}(hu:A.units+1<cLine) (I:Inv X jP σ H s) (g:DGet H a y o) (ry:RelV y u) (rd:RelV d r) (h:∀w' s',Inv X jP σ H s'->RelV (o.getD d) w'->Q w' s') :
  wpAny 74 A (call (.builtin "dict.get") [.ref a,u,r]) Q E s:=by
 rcases g with ⟨kvs,k,e,ey,l⟩|⟨kvs,k,b,e,ey,eb,l⟩
 ·subst ey
  obtain⟨z,hd,vs,rel,dd⟩:=dk_rd I.hok e;refine call_meetsIn PySem.F.slot_dict_get dd.typeIs PySem.F.entry_dict_get (PySem.F.args_dict_get_3 _ _ _) (meets_dict_get_default (zAo X.prog X.w) a (kV_is ry) hd r) ⟨_,dd.mapOf,h _ _ (I.tok _) ?_⟩;rw[l];exact(rel.val k).getD rd
 ·subst ey
  cases (show u=Value.ref b from ry);obtain⟨z,hd,xs,rel,dd⟩:=dt_rd I.hok e;refine call_meetsIn PySem.F.slot_dict_get dd.typeIs PySem.F.entry_dict_get (PySem.F.args_dict_get_3 _ _ _) (meetsH_dict_get_default (tupleKind (zAo X.prog X.w)) a b hd r) ⟨tupleKind_room_in1 hu,k,xs,zEb I.hok eb,dd,h _ _ (I.tok _) ?_⟩;rw[l];exact(rel.val k).getD rd
end
def zMO (td ty:TE):TE:=λ σ H Q=>td σ H λ x H1=>∃a,x = .ref a/\IsD H1 a/\ty σ H1 λ y H2=>∃o,DGet H2 a y o/\Q (o.getD .non) H2
def zMN (td ty tx:TE):TE:=λ σ H Q=>td σ H λ x H1=>∃a,x = .ref a/\IsD H1 a/\ty σ H1 λ y H2=>tx σ H2 λ z H3=>∃o,DGet H3 a y o/\Q (o.getD z) H3
section
variable {X:Cx}{o e f:Expr}{apos cpos:Pos}{td ty tx:TE}
theorem zKR (hu:X.A.units+1<cLine) (ho:PE X o td) (he:PE X e ty) (m:M1 X o "get" apos e cpos):PE X (.Call (.Attribute o "get" apos) [e] [] cpos) (zMO td ty):=by
 intro jP s σ H Q I h;refine wpAny_Call_method m.base m.few m.line rP PySem.F.slot_dict_get PySem.F.type_dict_get (thn (ho jP s σ H _ I h) λ u s1 ⟨x,H1,I1,rx,a,ex,d,q1⟩=>?_);subst ex;obtain rfl:u=Value.ref a:=rx;obtain⟨t1,t2,_⟩:=zLJ I1 d;refine⟨t1,t2,?_⟩;rw[m.trees];refine Calls.callWith_builtin rfl (Calls.evalArgs_plain (Calls.spliced_cons (thn (he jP s1 σ H1 _ I1 q1) λ iv s2 ⟨y,H2,I2,ry,ov,g,q2⟩=>Calls.spliced_nil ?_)));exact zM1 hu I2 g ry λ w' s3 I3 rw'=>⟨_,H2,I3,rw',q2⟩
theorem zKQ (hu:X.A.units+1<cLine) (ho:PE X o td) (he:PE X e ty) (hf:PE X f tx) (m:M2 X o "get" apos e f cpos):PE X (.Call (.Attribute o "get" apos) [e,f] [] cpos) (zMN td ty tx):=by
 intro jP s σ H Q I h;refine wpAny_Call_method m.base m.few m.line rP PySem.F.slot_dict_get PySem.F.type_dict_get (thn (ho jP s σ H _ I h) λ u s1 ⟨x,H1,I1,rx,a,ex,d,q1⟩=>?_);subst ex;obtain rfl:u=Value.ref a:=rx;obtain⟨t1,t2,_⟩:=zLJ I1 d;refine⟨t1,t2,?_⟩;rw[m.trees]
 refine Calls.callWith_builtin rfl (Calls.evalArgs_plain (Calls.spliced_cons (thn (he jP s1 σ H1 _ I1 q1) λ iv s2 ⟨y,H2,I2,ry,q2⟩ =>
  Calls.spliced_cons (thn (hf jP s2 σ H2 _ I2 q2) λ fv s3 ⟨z,H3,I3,rz,ov,g,q3⟩=>Calls.spliced_nil ?_))))
 exact zM0 hu I3 g ry rz λ w' s4 I4 rw'=>⟨_,H3,I4,rw',q3⟩
end
end L2
namespace Att
open PySem PySem.W PySem.Calls PyProof.Rows
theorem zEd {P:Params}{h:Heap}:∀(ns:List Int) (vs:List Value),WellAll P h vs (ns.map WData.int)->IntsAre vs ns:=by
 intro ns
 induction ns with
 |nil =>
  intro vs w;rw[List.map_nil] at w;cases w;exact .nil
 |cons n ns ih =>
  intro vs w;rw[mL] at w;cases w with
  |cons a b =>
   cases a;exact .cons _ _ (ih _ b)
theorem zIg {l:OpenLaw}{n:Nat}(hn:l.most=some n) {P:Params}{h:Heap}{args:List WData}{vals:List Value}
    (hpre:l.row.toRowW.claim.pre args=true) (hwl:WellAll P h vals args) :
    ∃a vs ns,vals=[Value.ref a]/\args=[WData.list (ns.map WData.int)]/\h.get? a=some { cls:=.type "list", data:=.seq vs.toArray }/\IntsAre vs ns/\ns.length<=n:=by
  have hsh:WShape.hasAll [] args [.list .int]=true:=(pre_splitW hpre).1;have hc:l.pre.holds [] { args:=args }=true:=(pre_splitW hpre).2;obtain⟨d,r,rfl,h1,h2⟩:=hasAllW_cons hsh;obtain rfl:=hasAllW_nil h2;obtain⟨xs,rfl,h3⟩:=hasW_list h1;obtain⟨ns,rfl⟩:=items_int h3
  have hlen:ns.length<=n:=by
    unfold OpenLaw.pre at hc
    have h4:(WTm.not (.lt (.lit (.int (n:Int))) (.len (.arg 0)))).holds [] { args:=[.list (ns.map .int)] }=true:=by
      have h4:=(holds_andW hc).1;rw[hn] at h4;exact h4
    have h5:=condW_of h4 (w_not (w_lt w_lit (w_len_list (w_arg rfl))));rw[lE] at h5;refine Nat.le_of_not_lt λ q=>?_;have q':(n:Int)<((ns.length:Nat):Int):=by lia
    first
      | (rw[decide_eq_true q'] at h5;exact absurd h5 (by decide))
      | (simp at h5;lia)
  cases hwl with
  |cons w1 w2 =>
    cases w2;cases w1 with
    |list ho hall=>exact⟨_,_,ns,rfl,rfl,ho,zEd ns _ hall,hlen⟩
theorem zIm (l:OpenLaw) (args:List WData):l.row.toRowW.claim.post args (.bool true) args=true :=
  postW_of (r:=l.row.toRowW) (X:=(true == true))
    (show WShape.has [] (.bool true) .bool=true by first|rfl|decide|simp[WShape.has,WShape.arms,WShape.armsAll])
    (show (WTm.eq .res (.lit (.bool true))).value [] { args:=args,res:=some (.bool true),after:=args }=some (.bool (true == true)) from w_eq_bool (w_res rfl) w_lit) rfl
theorem attach_call {l:OpenLaw}{n:Nat}{q:Program}{loose:List Str}{XP:(Str->Option Value)->Heap->Prop}{YP:World->Heap->Prop}{d:DefRec}
  (hn:l.most=some n) (hdf:d.params.defaults=[])
  (call:∀(w:World) (s₀ s₁:Shared) (mg mb:Str->Option Value) (fa:Addr) (o:Obj) (pm cd doc:Value) (a:Addr) (vs:List Value) (ns:List Int),
   Ground q loose [] XP w s₀ mg mb s₁.heap->YP w s₁.heap ->
   s₁.heap.get? fa=some o->o.data = .func (docDef d.name d.params d.body d.scope pm cd doc)->s₁.heap.CodeRec cd d.name->mg d.name=some (.ref fa) ->
   s₁.heap.get? a=some { cls:=.type "list", data:=.seq vs.toArray }->IntsAre vs ns->ns.length<=n->s₁.gens=#[] ->
   codeAny (model l.prog w) callerA (.call (.ref fa) ⟨[.ref a],[]⟩) (λ r s'=>r = .ok (.ret (.bool true))/\OldK s₁.heap s'.heap/\s'.os=s₁.os/\AllBare s'.gens) s₁) :
  WalkO q loose XP YP l.row.toRowW d [] (λ f vs=>PySem.call f vs):=by
 intro w s₀ s₁ mg mb G Y fa o pm cd doc dV kV ho hd hcd hD hmg hg args vals as hpre hlay hrd hwl hlo;obtain rfl:dV = .none:=Dflts.none hD hdf;obtain rfl:kV = .none:=Dflts.noKw hD;obtain⟨a,vs,ns,rfl,rfl,hobj,hints,hlen⟩:=zIg hn hpre hwl;refine enter_call (codeAny_mono (call w s₀ s₁ mg mb fa o pm cd doc a vs ns G Y ho (fd_plain hd) hcd hmg hobj hints hlen hg) λ r s' hq=>?_);obtain⟨rfl,h2,h3,h4⟩:=hq;exact⟨.inl ⟨.bool true,.bool true,[],rfl,λ Ω=>rfl,.bool true,zIm l _,λ Ω=>⟨List.Pairwise.nil,λ Ω hm=>(nomatch hm)⟩⟩,h2,h3,h4⟩
end Att
namespace L2
open PySem PySem.Spec PyProof.Rows
theorem zFj {vs:List Value}{ns:List Int}(h:IntsAre vs ns):Vals (ns.map V.int) vs:=by
 induction h with
 |nil=>exact .nil
 |cons n t h ih=>exact .cons ⟨t,rfl⟩ ih
def Only (H:Hp):Prop:=∀b,H b=none\/∃o xs,H b=some (.frz o (.lst xs))
theorem zKj {P:Program}{w:World}{K:W.Frag}{mg mb:Str->Option Value}{CX:CXT}{k:Nat}{fa a:Addr}{fd:FuncData}{x:Str}{sp:Sp}{s₁:Shared}{vs:List Value}{ns:List Int}
  (KX:K.In s₁.heap) (hns:s₁.heap.Ns mainGlobals mg) (hb:s₁.heap.Ns builtinsNs mb) (hbb:∀x:Str,x ≠ "__name__" -> mb x=bootBuiltins x) (hlim:s₁.heap.NoLimit) (hg:s₁.gens=#[])
  (ha:s₁.heap.get? a=some { cls:=.type "list", data:=.seq vs.toArray }) (hi:IntsAre vs ns) (hl:ns.length<=sizeLine) (hr:Room k callerA)
  (F:∀base:Heap,K.In base->base.Ns mainGlobals mg->FnOk P w K mg base CX k fa fd [x] sp) (hbind:∀(s:Shared) (u:Value),BindsTo s fd ⟨[u],[]⟩ [(x,u)])
  (hsp:∀H:Hp,Only H->SqL K H a (ns.map V.int)->sp [.ref a] H (λ v Ω=>v = .bl true) λ Ω Ω Ω=>False)
  (hCX:∀H e s',CX [] H s₁ (λ Ω Ω Ω=>False) e s'->False) :
  codeAny (model P w) callerA (.call (.ref fa) ⟨[.ref a],[]⟩) (λ r s'=>r = .ok (.ret (.bool true))/\OldK s₁.heap s'.heap/\s'.os=s₁.os/\AllBare s'.gens) s₁:=by
 have rv:=zFj hi;have lenV:=hi.length
 have core:∀H:Hp,Only H->SqL K H a (ns.map V.int)->HOk P w H s₁.heap->(∀b,H b≠none->b=a)->(H a≠none->K.lookup a=none) ->
   codeAny (model P w) callerA (.call (.ref fa) ⟨[.ref a],[]⟩) (λ r s'=>r = .ok (.ret (.bool true))/\OldK s₁.heap s'.heap/\s'.os=s₁.os/\AllBare s'.gens) s₁:=by
  intro H hO hS hok hA hK;have base_of:∀{b:Addr}{o:Obj},s₁.heap.get? b=some o->H b=none->(hidT s₁.heap H).get? b=some o:=λ e n=>zKm e n
  have noA:∀{b:Addr}{o:Obj}{es:Array DictEntry}{ep:Nat},s₁.heap.get? b=some o->o.data = .dict es ep->H b=none:=λ{b o es ep} e d=>by
   cases q:H b with
   |none=>rfl
   |some u =>
    have e':b=a:=hA b (by rw[q];simp);subst e';rw[ha] at e;cases e;have d':Data.seq vs.toArray _=Data.dict es ep:=d;cases d'
  have nsK:∀{b:Addr}{m:Str->Option Value},s₁.heap.Ns b m->(hidT s₁.heap H).Ns b m:=λ{b m} ⟨o,es,ep,e,d,r⟩=>⟨o,es,ep,base_of e (noA e d),d,r⟩
  have hKb:K.In (hidT s₁.heap H):=λ b o e=>base_of (KX b o e) (by
   cases q:H b with
   |none=>rfl
   |some u =>
    have e':b=a:=hA b (by rw[q];simp);subst e';rw[hK (by rw[q];simp)] at e;cases e)
  have hM:Mod K mg (hidT s₁.heap H):=⟨hKb,nsK hns,⟨mb,nsK hb,hbb⟩,let ⟨mc,h1,h2⟩:=hlim;⟨mc,nsK h1,h2⟩⟩;have e0:Env0 P w K mg (hidT s₁.heap H) callerA [] s₁ H:=⟨rfl,hM,λ b o e=>zL0 e,Nat.le_of_eq (zJl _ _),trivial,λ b hb=>absurd (show b∈([]:List Addr) from hb) 68,hok,.of_eq hg⟩;refine codeAny_mono ((F _ hKb (nsK hns)).run callerA [] s₁ H ⟨[.ref a],[]⟩ [.ref a] [.ref a] _ _ hr e0 (hbind s₁ (.ref a)) (.cons rfl .nil) (hsp H hO hS)) λ r s' h=>?_;cases r with
  |error e=>exact(hCX H e s' h).elim
  |ok fl =>
   cases fl with
   |next=>exact False.elim h
   |brk=>exact False.elim h
   |cont=>exact False.elim h
   |ret u =>
    obtain⟨v,H',os,bare,un,hok',r',q⟩:=h;have q':v = .bl true:=q;subst q';obtain rfl:u=Value.bool true:=r';refine⟨rfl,OldK.of_keep λ b o e=>?_,os,bare⟩;cases q:H b with
    |none=>exact un.keep b o e q (by intro z;exact absurd (show b∈([]:List Addr) from z) 68) 68
    |some u =>
     rcases hO b with z|⟨ob,xs,z⟩
     ·rw[q] at z;cases z
     ·have z2:=un.frzs b ob _ z
      obtain⟨e1,_⟩:=hok b _ z;obtain⟨e2,_⟩:=hok' b _ z2;rw[e] at e1;cases e1;exact e2
 cases hk:K.lookup a with
 |some o =>
  have e:=KX a o hk;rw[ha] at e;cases e;refine core (λ Ω=>none) (λ Ω=>.inl rfl) (.inr ⟨_,vs.toArray,_,hk,rfl,rfl,rfl,by rw[mF,lenV];exact hl,by simpa using rv⟩) (λ b u z=>by have z':(none:Option HO)=some u:=z;cases z') (λ b z=>absurd rfl z) λ z=>absurd rfl z
 |none =>
  refine core (λ b=>if b=a then some (.frz { cls:=.type "list", data:=.seq vs.toArray } (.lst (ns.map V.int))) else none) (λ b=>?_) (.inl (.inr ⟨{ cls:=.type "list", data:=.seq vs.toArray },if_pos rfl⟩)) (λ b u z=>?_) (λ b z=>?_) λ Ω=>hk
  ·by_cases hb:b=a
   ·exact .inr ⟨_,_,if_pos hb⟩
   ·exact .inl (if_neg hb)
  ·by_cases hb:b=a
   ·have z':=(if_pos hb).symm.trans z
    cases z';subst hb;exact⟨ha,by rw[lE];exact hl,vs,_,rv,ha⟩
   ·have z':=(if_neg hb).symm.trans z
    cases z'
  ·by_cases hb:b=a
   ·exact hb
   ·exact absurd (if_neg hb) z
theorem walk_of {l:W.OpenLaw}{n k:Nat}{q:Program}{loose:List Str}{XP:(Str->Option Value)->Heap->Prop}{YP:World->Heap->Prop}{d:DefRec}{K:Params->W.Frag}{CX:World->CXT}{sp:World->Sp}{x:Str}
  (hn:l.most=some n) (hn2:n<=sizeLine) (hdf:d.params.defaults=[]) (hr:Room k callerA)
  (hY:∀(w:World) (h:Heap),YP w h->(K w.params).In h)
  (F:∀(w:World) (mg:Str->Option Value) (fa:Addr) (h:Heap),(K w.params).In h->h.Ns mainGlobals mg->mg d.name=some (.ref fa) ->
   ∃fd:FuncData,(∀(s:Shared) (u:Value),BindsTo s fd ⟨[u],[]⟩ [(x,u)]) /\
    ∀base:Heap,(K w.params).In base->base.Ns mainGlobals mg->FnOk l.prog w (K w.params) mg base (CX w) k fa fd [x] (sp w))
  (hsp:∀(w:World) (H:Hp) (a:Addr) (ns:List Int),ns.length<=n->Only H->SqL (K w.params) H a (ns.map V.int)->sp w [.ref a] H (λ v Ω=>v = .bl true) λ Ω Ω Ω=>False)
  (hCX:∀(w:World) (H:Hp) (s:Shared) (e:Value) (s':Shared),CX w [] H s (λ Ω Ω Ω=>False) e s'->False) :
  W.WalkO q loose XP YP l.row.toRowW d [] (λ f vs=>PySem.call f vs):=by
 refine Att.attach_call hn hdf λ w s₀ s₁ mg mb fa o pm cd doc a vs ns G Y ho hd hcd hmg hobj hints hlen hg=>?_;have KX:=hY w _ Y;obtain⟨fd,hb,hF⟩:=F w mg fa _ KX G.T.g hmg;exact zKj KX G.T.g G.T.b G.T.builtins G.T.nolimit hg hobj hints (mI hlen hn2) hr hF hb (λ H hO hS=>hsp w H a ns hlen hO hS) λ H e s'=>hCX w H s₁ e s'
noncomputable def zBF (s:Stmt):Arguments:=match s with
 |.FunctionDef _ a _ _ _ _ _ _ _ _=>a
 |_=>{ posonlyargs:=[],args:=[],vararg:=none,kwonlyargs:=[],kw_defaults:=[],kwarg:=none,defaults:=[] }
noncomputable def zAz (s:Stmt):List Stmt:=match s with
 |.FunctionDef _ _ b _ _ _ _ _ _ _=>b
 |_=>[]
noncomputable def zAM (s:Stmt):Scope:=match s with
 |.FunctionDef _ _ _ _ _ _ sc _ _ _=>sc
 |_=>{ kind:=.function,names:=[],isGenerator:=false,isCoroutine:=false }
abbrev CX0:CXT:=λ Ω Ω Ω Ω Ω Ω=>False
abbrev E0:XK:=λ Ω Ω Ω=>False
theorem pass0 {X:Cx}:zKA CX0 X E0:=λ Ω Ω Ω Ω Ω Ω Ω h=>h.elim
structure Fun (K:W.Frag) (x qual:Str) (st:Stmt) (f:Addr) (fd:FuncData):Prop where
 ex:∃(oc:Value) (od:Option Addr) (kV doc pm:Value) (an:Option Addr) (cdv ct:Value) (osl:Array (Option Value)),
  fd=W.fnOf x qual (zBF st) (zAz st) (zAM st) .none kV doc pm an cdv ct/\K.lookup f=some ⟨oc,od,.func fd,osl⟩/\W.codeIn K cdv qual=true
 kp:W.keepIn K (.ref f)=true
section
variable {P:Program}{w:World}{K:W.Frag}{mg:Str->Option Value}{base:Heap}
theorem Fun.ok {x qual:Str}{st:Stmt}{f:Addr}{fd:FuncData}{N ps:List Str}{k:Nat}{sp:Sp}(F:Fun K x qual st f fd) (S:zAW N ps (zAM st)) (len:∀vs H Q E,sp vs H Q E->vs.length=ps.length)
  (hbody:∀(cdv:Value) (A:Around) (outer:List Env) (s:Shared) (H:Hp) (vs:List V) (Q:VK) (E:XK),Room k (A.deeper (envOfC qual (zAM st) s.heap.objs.size f cdv))->sp vs H Q E ->
   ∃t,PSs (cxOf CX0 P w K mg base N qual (zAM st) f cdv A outer s H E).nox (zAz st) t/\t { nx:=λ Ω H'=>Q .non H',rt:=Q } (start N vs) H):FnOk P w K mg base CX0 (k+1) f fd ps sp:=by
 obtain⟨oc,od,kV,doc,pm,an,cdv,ct,osl,rfl,lk,hcd⟩:=F.ex;refine fn_of lk hcd S len λ A outer s H vs Q E hr hsp=>?_;obtain⟨t,h,q⟩:=hbody cdv A outer s H vs Q E hr hsp;exact⟨t,h.nox,q⟩
theorem Fun.binds {x qual:Str}{st:Stmt}{f:Addr}{fd:FuncData}{ps:List Str}(F:Fun K x qual st f fd)
  (h:∀(kV doc pm:Value) (an:Option Addr) (cdv ct:Value) (us:List Value),us.length=ps.length->bindArgs (W.fnOf x qual (zBF st) (zAz st) (zAM st) .none kV doc pm an cdv ct) ⟨us,[]⟩=pure (ps.zip us)):Binds K fd ps []:=by
 obtain⟨oc,od,kV,doc,pm,an,cdv,ct,osl,rfl,lk,hcd⟩:=F.ex;exact .all (h kV doc pm an cdv ct)
theorem zLL {x qual:Str}{st:Stmt}{f:Addr}{oc:Value}{od an:Option Addr}{osl:Array (Option Value)}{kV doc pm cdv ct:Value}(l:K.lookup f=some ⟨oc,od,.func (W.fnOf x qual (zBF st) (zAz st) (zAM st) .none kV doc pm an cdv ct),osl⟩)
  (c:W.codeIn K cdv qual=true) (k:W.keepIn K (.ref f)=true):Fun K x qual st f (W.fnOf x qual (zBF st) (zAz st) (zAM st) .none kV doc pm an cdv ct):=⟨⟨oc,od,kV,doc,pm,an,cdv,ct,osl,rfl,l,c⟩,k⟩
end
theorem hu_of {A:Around}{k:Nat}(hr:Room k A):A.units+1<cLine:=Nat.lt_of_le_of_lt (Nat.add_le_add_left (by decide:1<=64) _) hr.units
theorem zAR {n:Nat}(h:n<=1000):n<sizeLine:=Nat.lt_of_le_of_lt h 69
section
variable {X:Cx}
theorem pv (i:Nat) {x:Str}{pos:Pos}(hN:X.N[i]?=some x:=by rfl) (hv:Vis X.env.scope x:=by first|exact Or.inl rfl|exact Or.inr (Or.inl rfl)|exact Or.inr (Or.inr rfl)) (hd:(x == ("__debug__" : Str))=false:=by decide)
  (hcd:(x == ("__classdict__" : Str))=false:=by decide):PE X (.Name x pos) (tVar i):=zMb hN hv hd hcd
end
theorem iteF {A B:Prop}(h:B):if false=true then A else B:=by
 rw[if_neg Bool.false_ne_true];exact h
theorem iteT {A B:Prop}(h:A):if true=true then A else B:=by
 rw[if_pos rfl];exact h
theorem ite2 {c A B:Prop} [Decidable c] (h1:c->A) (h2:¬c->B):if c then A else B:=by
 by_cases h:c
 ·rw[if_pos h]
  exact h1 h
 ·rw[if_neg h]
  exact h2 h
def Same (H H':Hp):Prop:=∀b o,H b=some o->H' b=some o
theorem Same.refl (H:Hp):Same H H:=λ Ω Ω h=>h
theorem Same.trans {H H1 H2:Hp}(a:Same H H1) (b:Same H1 H2):Same H H2:=λ c o h=>b c o (a c o h)
theorem Same.free {H H':Hp}(e:Same H H') {l:Addr}(h:H' l=Option.none):H l=Option.none:=by
 cases q:H l with
 |none=>rfl
 |some o =>
  rw[e l o q] at h;cases h
theorem Same.seq {K:W.Frag}{H H':Hp}{a:Addr}{xs:List V}(e:Same H H') (h:SqL K H a xs):SqL K H' a xs:=by
 rcases h with (h|⟨o,h⟩)|h
 ·exact .inl (.inl (e _ _ h))
 ·exact .inl (.inr ⟨o,e _ _ h⟩)
 ·exact .inr h
abbrev NoX:Value->Shared->Prop:=λ Ω Ω=>False
theorem noX {al:Type}{t:Sem al}{Q:al->Shared->Prop}{M:Model}{A:Around}{E:XQ}{s:Shared}(h:wpAny M A t Q NoX s):wpAny M A t Q E s :=
 wpAny_mono h (λ Ω Ω q=>q) λ Ω Ω z=>z.elim
noncomputable def capSt (cap:List (Option Nat)) (σ:St):St:=cap.map λ o=>match o with
 |none=>none
 |some j=>(σ[j]?).join
inductive Ext:St->St->Prop
 |nil:Ext [] []
 |skip {a b:St}{x:Option V}:Ext a b->Ext (none::a) (x::b)
 |keep {a b:St}{x:Option V}:Ext a b->Ext (x::a) (x::b)
theorem Ext.len {a b:St}(h:Ext a b):a.length=b.length:=by
 induction h with
 |nil=>rfl
 |skip _ ih=>simp[ih]
 |keep _ ih=>simp[ih]
theorem Ext.get {a b:St}(h:Ext a b):∀(i:Nat) v,a[i]?=some (some v)->b[i]?=some (some v):=by
 induction h with
 |nil=>intro i v e;simp at e
 |skip _ ih =>
  intro i v e;cases i with
  |zero=>simp at e
  |succ i=>simpa using ih i v (by simpa using e)
 |keep _ ih =>
  intro i v e;cases i with
  |zero=>simpa using e
  |succ i=>simpa using ih i v (by simpa using e)
noncomputable def Cx.block (X:Cx) (sc:Scope) (cl:List (Str × Addr)) (N:List Str) (s:Shared) (H:Hp) (C:Addr) (ex:List Addr):Cx where
 prog:=X.prog
 w:=X.w
 K:=X.K
 mg:=X.mg
 base:=X.base
 A:=X.A
 N:=N
 s₀:=s
 H₀:=H
 env:=compEnvC sc cl C X.env
 outer:=X.stack
 stack:=X.stack
 ex:=ex
 fn:=λ Ω=>false
 calm:=X.calm
 pn:=[]
 xe:=NoX
theorem zDy {env:Env}:∀(names:List (Str × NameKind)) (cs:List (Str × Addr)),(∀n,(n,NameKind.free)∈names->∃c,env.cells.lookup n=some c) ->
  (∀x c,cs.lookup x=some c->env.cells.lookup x=some c) ->
  ∃cl:List (Str × Addr),(forIn names cs λ(x:Str × NameKind) (r:List (Str × Addr))=>(if (x.2 == NameKind.free)=true then do let c ← cellOf env x.1;pure (ForInStep.yield ((x.1,c)::r)) else pure (ForInStep.yield r)):Sem (List (Str × Addr)))=pure cl /\
   (∀x c,cl.lookup x=some c->env.cells.lookup x=some c)/\(∀n,(n,NameKind.free)∈names->∃c,cl.lookup n=some c)/\(∀n c,cs.lookup n=some c->∃c,cl.lookup n=some c)
 |[],cs,_,hc=>⟨cs,rfl,hc,λ Ω h=>(nomatch h),λ n c e=>⟨c,e⟩⟩
 | (n,k)::r,cs,h,hc=>by
  by_cases hk:k = .free
  ·subst hk
   obtain⟨c,ec⟩:=h n lP
   have hc':∀x c',((n,c)::cs).lookup x=some c'->env.cells.lookup x=some c':=λ x c' e=>by
    rw[List.lookup_cons] at e;cases hx:x == n with
    |true=>rw[hx] at e;cases e;rw[eq_of_beq hx];exact ec
    |false=>rw[hx] at e;exact hc x c' e
   obtain⟨cl,e1,e2,e3,e4⟩:=zDy r ((n,c)::cs) (λ m hm=>h m (lQ _ hm)) hc';refine⟨cl,?_,e2,λ m hm=>?_,λ m c' e=>?_⟩
   ·rw[List.forIn_cons,←e1]
    simp only[beq_self_eq_true,if_true,cellOf,ec];rfl
   ·rcases lO.mp hm with z|z
    ·cases z
     exact e4 n c 68
    ·exact e3 m z
   ·by_cases hm:m=n
    ·subst hm;exact e4 m c 68
    ·exact e4 m c' (by rw[List.lookup_cons,beq_eq_false_iff_ne.mpr hm];exact e)
  ·have hb:(k == NameKind.free)=false:=by simpa using hk
   obtain⟨cl,e1,e2,e3,e4⟩:=zDy r cs (λ m hm=>h m (lQ _ hm)) hc;refine⟨cl,?_,e2,λ m hm=>?_,e4⟩
   ·rw[List.forIn_cons,←e1]
    simp only[hb,Bool.false_eq_true,if_false];rfl
   ·rcases lO.mp hm with z|z
    ·cases z;exact absurd rfl hk
    ·exact e3 m z
theorem zFE {sc:Scope}{env:Env}(h:∀n,(n,NameKind.free)∈sc.names->∃c,env.cells.lookup n=some c) :
  ∃cl:List (Str × Addr),closureFor sc env=pure cl/\(∀x c,cl.lookup x=some c->env.cells.lookup x=some c)/\(∀n,(n,NameKind.free)∈sc.names->∃c,cl.lookup n=some c):=by
 obtain⟨cl,e1,e2,e3,_⟩:=zDy (env:=env) sc.names [] h (λ x c e=>by simp at e);refine⟨cl,?_,e2,e3⟩;unfold closureFor;rw[←bind_pure (pure cl),←e1]
theorem zDw {names:List (Str × NameKind)}{x:Str}{k:NameKind}(h:names.lookup x=some k):(x,k)∈names:=by
 induction names with
 |nil=>simp at h
 |cons p r ih =>
  obtain⟨n,j⟩:=p;rw[List.lookup_cons] at h;cases hx:x == n with
  |true=>rw[hx] at h;cases h;rw[eq_of_beq hx];exact lP
  |false=>rw[hx] at h;exact lQ _ (ih h)
set_option tactic.hygienic true in
theorem zD5 {sc:Scope}{env:Env}{x:Str}{k:NameKind}(hk:k = .cell\/k = .free) (nc:∀y∈sc.names,y.2 ≠ .cell) (h:(relabel sc env).names.lookup x=some k):(x,NameKind.free)∈sc.names:=by
 have m:=zDw h;obtain⟨⟨n,j⟩,hm,e⟩:=mE.mp m;have q:(if (j == NameKind.free && env.scope.kind == .function && env.kindOf n == some .cell)=true then (n,NameKind.cell) else (n,j))=(x,k):=e;split at q
 ·rename_i c
  rw[Bool.and_eq_true,Bool.and_eq_true] at c;have j':j = .free:=by simpa using c.1.1
  cases q;rw[j'] at hm;exact hm
 ·cases q
  rcases hk with z|z
  ·exact absurd z (nc _ hm)
  ·rw[z] at hm;exact hm
theorem zBV {sc:Scope}{env:Env}{x:Str}:∀{names:List (Str × NameKind)},names.lookup x=some .free ->
  (names.map λ(n,k)=>if (k == NameKind.free && env.scope.kind == .function && env.kindOf n == some .cell) then (n,NameKind.cell) else (n,k)).lookup x=some .cell \/
  (names.map λ(n,k)=>if (k == NameKind.free && env.scope.kind == .function && env.kindOf n == some .cell) then (n,NameKind.cell) else (n,k)).lookup x=some .free
 |[],h=>by simp at h
 | (n,k)::r,h=>by
  have ih:=@zBV sc env x r;rw[List.lookup_cons] at h
  by_cases c:(k == NameKind.free && env.scope.kind == .function && env.kindOf n == some .cell)=true
  ·rw[mL]
   simp only[c,if_true,List.lookup_cons];cases hx:x == n with
   |true=>exact .inl rfl
   |false=>rw[hx] at h;exact ih h
  ·rw[mL]
   have c':=Bool.eq_false_iff.mpr c;simp only[c',Bool.false_eq_true,if_false,List.lookup_cons];cases hx:x == n with
   |true=>rw[hx] at h;cases h;exact .inr rfl
   |false=>rw[hx] at h;exact ih h
theorem zGS {P:Program}{w:World}{A:Around}{R:Result->Shared->Prop}{s:Shared}{elt tg iter:Expr}{ifs:List Expr}{sc:Scope}{pos:Pos}{it acc:Value}{env:Env}(J:Nat->Shared->Prop)
  (turn:∀n s,J n s->wpAny (model P w) A (pyNext it) (λ r s1=>match r with
   |none=>R (.ok .next) s1
   |some v=>wpAny (model P w) A (letOwnedTupleGo tg it v) (λ Ω s2=>wpAny (model P w) A (assign tg env v) (λ Ω s3 =>
     wpAny (model P w) A (forIn ifs true λ c r=>if r=true then do let ok ← isTrue c env (eval c env);pure (ForInStep.yield ok) else pure (ForInStep.yield r)) (λ ok s4 =>
      if ok=true then wpAny (model P w) A (eval elt env) (λ x s5=>wpAny (model P w) A (call (.builtin "list.append") [acc,x]) (λ Ω s6=>∃m,m<n/\J m s6) NoX s5) NoX s4
      else ∃m,m<n/\J m s4) NoX s3) NoX s2) NoX s1) NoX s) (n:Nat) (h:J n s) :
  codeAny (model P w) A (.compLoop (.ListComp elt [⟨tg,iter,ifs,0⟩] sc pos) 0 it acc env) R s:=by
 refine codeAny_loop rfl J (λ n s hJ=>?_) n h;refine wpAny_noted ?_;rw[compTurn_list];refine lC (wpAny_standAt (lC (noX (thn (turn n s hJ) λ r s1 h1=>?_))));cases r with
 |none=>exact lD h1
 |some v =>
  refine lC (noX (thn h1 λ Ω s2 h2=>?_));refine lC (noX (thn h2 λ Ω s3 h3=>?_));refine lC (noX (thn h3 λ ok s4 h4=>?_));cases ok with
  |false=>exact lD ⟨rfl,h4⟩
  |true=>exact lC (lC (noX (thn h4 λ x s5 h5=>lC (noX (thn h5 λ Ω s6 h6=>lD (lD ⟨rfl,h6⟩))))))
def PTs (X:Cx) (ifs:List Expr) (t:TT):Prop :=
 ∀(jP:List 86) (s:Shared) (σ:St) (H:Hp) (Q:Bool->Hp->Prop),Inv X jP σ H s->t σ H Q ->
  wpAny 74 X.A (forIn ifs true λ c r=>if r=true then do let ok ← isTrue c X.env (eval c X.env);pure (ForInStep.yield ok) else pure (ForInStep.yield r)) (TP X jP σ Q) X.xe s
def tYes:TT:=λ Ω H Q=>Q true H
theorem zBb {X:Cx}:PTs X [] tYes:=λ Ω Ω Ω H Ω I h=>wpAny_tests_nil ⟨H,I,h⟩
theorem zLf {X:Cx}{c:Expr}{t:TT}(h:PT X c t):PTs X [c] t:=λ jP s σ H Q I hq=>wpAny_tests_one (h jP s σ H Q I hq)
def tComp (cap:List (Option Nat)) (wi:TI) (g:TG) (tt:TT) (te:TE):TE:=λ σ H Q=>wi σ H λ J H1=>∀acc,H1 acc=none ->
 ∃W:Nat->Nat->Hp->Prop,(∃m,W 0 m (upd H1 acc (.lst [])))/\∀i m H2,W i m H2 ->
  (J.stop i H2/\Q (.ref acc) H2)\/(J.go i H2/\∃N:Hp->Prop,(∀H',N H'->∃m',m'<m/\W (i+1) m' H')/\∀x H3,J.yld i H2 x H3->g x (capSt cap σ) H3 λ σ2 H4=>Ext (capSt cap σ) σ2/\tt σ2 H4 λ b H5 =>
   if b=true then te σ2 H5 λ y H6=>∃zs,H6 acc=some (.lst zs)/\zs.length<sizeLine/\N (upd H6 acc (.lst (zs++[y])))
   else N H5)
theorem HOk.but {P:Program}{w:World}{H:Hp}{h h':Heap}{C:Addr}(x:HOk P w H h) (n:H C=none) (sb:Heap.SameBut C h h'):HOk P w H h':=λ a o e =>
 (x a o e).stay (λ b u hb q=>(sb.2 b (λ z=>by
  subst z;rcases hb with z|z
  ·subst z;rw[n] at e;cases e
  ·rw[n] at z;cases z)).trans q) (λ Ω q=>q) λ Ω Ω q=>q
theorem Un.but {fs ex:List Addr}{H H':Hp}{h h1 h2:Heap}{C:Addr}(u:Un fs ex H H' h h1) (lt:h.objs.size<=C) (sb:Heap.SameBut C h1 h2):Un fs ex H H' h h2:=by
 have ne:∀b o,h.get? b=some o->b≠C:=λ b o e=>lT (mC (lJ e) lt);refine⟨λ b o e n hb hx=>(sb.2 b (ne b o e)).trans (u.keep b o e n hb hx),λ b o e n hb hx=>?_,u.free,λ b o e hx=>?_,u.tups,u.frzs,u.tbls⟩
 ·obtain⟨sl,q⟩:=u.slot b o e n hb hx
  exact⟨sl,(sb.2 b (ne b o e)).trans q⟩
 ·obtain⟨o',q⟩:=u.there b o e hx
  exact⟨o',(sb.2 b (ne b o e)).trans q⟩
section
variable {X:Cx}
theorem zHs {jP:List 86}{σ:St}{H:Hp}{s:Shared}{sc:Scope}{cl:List (Str × Addr)}{N:List Str}{C:Addr}{fp:List Addr}(I:Inv X jP σ H s) (hk:sc.kind = .function) (nc:∀y∈sc.names,y.2 ≠ .cell)
  (hC:s.heap.objs.size<=C) (hf:∀b∈fp,FpOk X jP H b) (hfo:∀b∈fp,∃o,s.heap.get? b=some o) (c1:∀x c,cl.lookup x=some c->X.env.cells.lookup x=some c) (c2:∀n,(n,NameKind.free)∈sc.names->∃c,cl.lookup n=some c) :
  (X.block sc cl N s H C fp).Ok where
 mod:=I.ok.mod
 kind:=hk
 glob:=I.ok.glob
 blt:=I.ok.blt
 above:=hC
 inj:=λ x y c e e'=>I.ok.inj x y c (c1 x c e) (c1 y c e')
 has:=λ x h=>c2 x (h.elim (zD5 (.inl rfl) nc) (zD5 (.inr rfl) nc))
 cab:=λ x c e=>(nomatch e)
 hd:=I.ok.hd
 frames:=I.ok.frames
 stk:=.inl rfl
 exf:=λ b hb=>⟨λ z=>by
  obtain⟨o,e⟩:=hfo b hb;have lt:=lJ e;rw[z] at lt;exact absurd (mC lt hC) (Nat.lt_irrefl _),λ x c e=>(hf b hb).2.2.2.2.1 x c (c1 x c e)⟩
 bs:=I.bs
 bsz:=mI I.ok.bsz I.sz
 noex:=λ b o e hb=>by
  rcases (hf b hb).2.2.2.1 with z|z
  ·exact I.ok.noex b o e z
  ·exact absurd (mC (lJ (I.ok.bs b o e).1) z) (Nat.lt_irrefl _)
 exfs:=λ b hb hs=>by
  rcases lO.mp (I.stkSub b hs) with z|z
  ·exact(hf b hb).2.1 z
  ·exact(hf b hb).2.2.1 z
 funs:=I.stack
 frf:=I.stkFree
theorem zLn {elt tg iter:Expr}{ifs:List Expr}{sc:Scope}{pos:Pos}{wi:TI}{g:TG}{tt:TT}{te:TE}(N:List Str) (cap:List (Option Nat)) (hc:X.calm=true) (hi:PI X tg iter wi)
  (hg:∀cl s H C ex,PG (X.block sc cl N s H C ex) tg g) (ht:∀cl s H C ex,PTs (X.block sc cl N s H C ex) ifs tt) (he:∀cl s H C ex,PE (X.block sc cl N s H C ex) elt te)
  (hk:sc.kind = .function) (nc:∀y∈sc.names,y.2 ≠ .cell) (hnames:∀y∈sc.names,y.2 = .local->sc.names.lookup y.1=some .local)
  (hfree:∀n,(n,NameKind.free)∈sc.names->X.env.kindOf n=some .cell)
  (hcap:∀(i j:Nat),cap[i]?=some (some j)->∃x,N[i]?=some x/\X.N[j]?=some x/\sc.names.lookup x=some .free) (hlen:cap.length=N.length)
  (hs:∀x,foldedSetIterable iter X.env x=pure x:=by intro _;rfl):PE X (.ListComp elt [⟨tg,iter,ifs,0⟩] sc pos) (tComp cap wi g tt te):=by
 intro jP s σ H Q I h;obtain⟨cl,hclos,c1,c2⟩:=zFE (sc:=sc) (env:=X.env) λ n hn=>I.ok.has n (.inl (hfree n hn));rw[eval_ListComp];refine wpAny_comprehension_free (use:=none) rfl hs hclos hk hnames ?_;refine thn (hi jP s σ H _ I h) λ v s1 h1=>thn h1 λ itv s2 h2=>?_;obtain⟨it,fp,tn,J,H2,e,I2,T,st2,f2,q2⟩:=h2;subst e;have hfr:H2 s2.heap.objs.size=none:=I2.fresh;obtain⟨W,⟨m0,w0⟩,turn⟩:=q2 s2.heap.objs.size hfr;have I3:=I2.lnew (ys:=[]) (its:=[]) (t':=s2.toks) .nil (mB _);have hacc:H2 s2.heap.objs.size=none:=hfr;refine wpAny_newObj_type (wpAny_newFunctionEnv nc (by intro y hy;simp at hy) (λ h4 hns hsb=>?_) hk);generalize hs3:({ s2 with heap:=s2.heap.push { cls:=.type "list", data:=.seq ([]:List Value).toArray } }:Shared)=s3 at hns hsb I3 ⊢;have hheap:s3.heap=s2.heap.push { cls:=.type "list", data:=.seq ([]:List Value).toArray }:=by rw[←hs3]
 generalize hH3:upd H2 s2.heap.objs.size (.lst [])=H3 at I3 w0;have up2:∀b o,s2.heap.get? b=some o->s3.heap.get? b=some o:=λ b o q=>by rw[hheap];exact lH _ q
 have neA:∀b∈fp,b≠s2.heap.objs.size:=λ b hb=>by
  obtain⟨o,q,_⟩:=T.obj _ _ st2 b hb;exact lT (lJ q)
 have f3:∀b∈fp,FpOk X jP H3 b:=λ b hb=>⟨by rw[←hH3,zAd (neA b hb)];exact(f2 b hb).1,(f2 b hb).2⟩
 have o3:∀b∈fp,∃o,s3.heap.get? b=some o:=λ b hb=>by
  obtain⟨o,q,_⟩:=T.obj _ _ st2 b hb;exact⟨o,up2 b o q⟩
 have ok':=zHs (N:=N) (C:=s3.heap.objs.size) I3 hk nc (lS _) f3 o3 c1 c2;generalize hC:s3.heap.objs.size=C at hns hsb ok' ⊢;have ltC:∀b o,s3.heap.get? b=some o->b≠C:=λ b o q=>by rw[←hC];exact lT (lJ q)
 have up4:∀b o,s3.heap.get? b=some o->h4.get? b=some o:=λ b o q=>hsb.extBut b o (ltC b o q) (lH _ q);have st4:tn 0 h4:=T.keep _ _ _ st2 λ b hb o q=>up4 b o (up2 b o q)
 have I4:Inv (X.block sc cl N s3 H3 C fp) [] (capSt cap σ) H3 { s3 with heap:=h4,toks:=s3.toks+([]:List (Str × Value)).length }:=by
  refine⟨ok',rfl,I3.bare,Un.kept up4,⟨_,hns,λ i x v e1 e2 e3=>?_⟩,λ x c q=>?_,?_,λ x c q=>I3.freeC x c (c1 x c q),λ p hp=>(nomatch hp),I3.hok.kept up4,?_⟩
  ·have ee:∃j,cap[i]?=some (some j)/\σ[j]?=some (some v):=by
    unfold capSt at e2;rw[mJ] at e2;cases q:cap[i]? with
    |none=>rw[q] at e2;cases e2
    |some o =>
     rw[q] at e2;cases o with
     |none=>cases e2
     |some j =>
      refine⟨j,rfl,?_⟩;have e2':some ((σ[j]?).join)=some (some v):=e2;cases z:σ[j]? with
      |none=>rw[z] at e2';cases e2'
      |some o' =>
       rw[z] at e2';have e2'':o'=some v:=mG e2';rw[e2'']
   obtain⟨j,ej,es⟩:=ee;obtain⟨x',n1,n2,n3⟩:=hcap i j ej;have e1':N[i]?=some x:=e1;rw[n1] at e1';cases e1';have hfr':(x,NameKind.free)∈sc.names:=zDw n3;have kc:=hfree x hfr';obtain⟨m,_,hl⟩:=I3.loc;obtain⟨u,r,l⟩:=hl j x v n2 es (.inr (.inl kc));refine⟨u,r,?_⟩;rcases l with ⟨l,_⟩|⟨_,c,ec,z⟩
   ·rw[kc] at l;cases l
   ·obtain⟨c',ec'⟩:=c2 x hfr'
    have:=c1 x c' ec';rw[ec] at this;cases this;obtain⟨oc,q1,q2⟩:=z;exact .inr ⟨zBV (sc:=sc) n3,c,ec',oc,up4 _ _ q1,q2⟩
  ·obtain⟨v,oc,q1,q2⟩:=I3.cell x c (c1 x c q)
   exact⟨v,oc,up4 _ _ q1,q2⟩
  ·exact I3.hok.fresh (by rw[hC];exact lS _)
  ·show (capSt cap σ).length=N.length
   unfold capSt;rw[lE,hlen]
 have loop:codeAny 74 X.A (.compLoop (.ListComp elt [⟨tg,iter,ifs,0⟩] sc pos) 0 (.ref it) (.ref s2.heap.objs.size) (compEnvC sc cl C X.env)) (compPost 74 X.A X.xe none (EP X jP σ Q) (.ref s2.heap.objs.size) C)
   { s3 with heap:=h4,toks:=s3.toks+([]:List (Str × Value)).length }:=by
  have stat:∀{H':Hp},(∀b∈fp,H' b=none)->∀b∈fp,FpOk (X.block sc cl N s3 H3 C fp) [] H' b:=λ hn b hb =>
   ⟨hn b hb,(ok'.exf b hb).1,ok'.exfs b hb,.inl hb,(ok'.exf b hb).2,λ p hp=>(nomatch hp)⟩
  refine zGS (λ n s'=>∃i H',Inv (X.block sc cl N s3 H3 C fp) [] (capSt cap σ) H' s'/\tn i s'.heap/\(∀b∈fp,H' b=none)/\W i n H') ?_ m0 ⟨0,H3,I4,st4,λ b hb=>(f3 b hb).1,w0⟩;rintro n s5 ⟨i,H5,I5,st5,fr5,w5⟩;rcases turn i n H5 w5 with ⟨stop,qn⟩|⟨go,N',hN',step⟩
  ·refine thn (T.done (X.block sc cl N s3 H3 C fp) rfl rfl rfl hc i [] s5 _ H5 NoX I5 (stat fr5) st5 stop) λ r s6 ⟨hr,I6⟩=>?_
   subst hr;obtain⟨m,hm,_⟩:=I6.loc;refine⟨m,hm,λ h' sb=>⟨.ref s2.heap.objs.size,H5,?_,rfl,qn⟩⟩;refine I3.call' (s':={ s6 with heap:=h' }) (ch:=fp) I6.os (I6.base.but (by rw[←hC];exact lS _) sb) (I6.hok.but I6.free sb) I6.bare λ b hb=>?_;obtain⟨g0,g1,g2,g3,g4,g5⟩:=f3 b hb;exact⟨g3,g1,g4,g5⟩
  ·refine thn (T.item (X.block sc cl N s3 H3 C fp) rfl rfl rfl hc i [] s5 _ H5 NoX I5 (stat fr5) st5 go) λ r s6 ⟨u,hr,h6⟩=>?_
   subst hr;refine thn h6 λ _ s7 ⟨x,H7,I7,r7,y7,st7,fr7⟩=>?_;have I7':=I7.pinned (stat fr7) (T.obj _ _ st7)
   have again:∀{σ8:St}{H8:Hp}{s8:Shared},Inv (X.block sc cl N s3 H3 C fp) ([]++zE3 fp s7.heap) σ8 H8 s8->Ext (capSt cap σ) σ8->N' H8 ->
     ∃m,m<n/\∃i H',Inv (X.block sc cl N s3 H3 C fp) [] (capSt cap σ) H' s8/\tn i s8.heap/\(∀b∈fp,H' b=none)/\W i m H':=λ{σ8 H8 s8} I8 ex n8=>by
    obtain⟨m',hm,w8⟩:=hN' H8 n8;have I8':=I8.unpinned.weak ex.len ex.get;refine⟨m',hm,i+1,H8,I8',T.keep _ _ _ st7 λ b hb o q=>(I8.pin (b,o) (mD _ (mD _ (zBz hb q)))).1,λ b hb=>?_,w8⟩;obtain⟨o,q,d⟩:=T.obj _ _ st7 b hb;exact(I8.pin (b,o) (mD _ (mD _ (zBz hb q)))).2.1
   refine thn (hg cl s3 H3 C fp _ s7 _ H7 x u _ I7' r7 (step x H7 y7)) λ _ s8 ⟨σ8,H8,I8,ex8,q8⟩=>?_;refine thn (ht cl s3 H3 C fp _ s8 σ8 H8 _ I8 q8) λ b s9 ⟨H9,I9,q9⟩=>?_;cases b with
   |false=>exact again I9 ex8 q9
   |true =>
    rw[if_pos rfl] at q9 ⊢;refine thn (he cl s3 H3 C fp _ s9 σ8 H9 _ I9 q9) λ yv s10 ⟨y,H10,I10,r10,zs,e10,l10,q10⟩=>?_;refine thn (zCn (X:=X.block sc cl N s3 H3 C fp) _ s10 σ8 H10 (.ref s2.heap.objs.size) [y] (.ref s2.heap.objs.size) [yv] (λ Ω H'=>N' H') I10 rfl (.cons r10 .nil) ⟨_,zs,y,rfl,rfl,e10,l10,q10⟩) λ _ s11 ⟨_,H11,I11,_,q11⟩=>?_;exact again I11 ex8 q11
 exact codeAny_compStart_list loop (T.self X.A 0 _ _ _ st4 loop)
end
theorem zIK {lo:Int}{n:Nat}{acc:Addr}{g:TG}{tt:TT}{te:TE}{σ:St}{H:Hp}{Q:VK}(Pv:Nat->Hp->Prop) (h0:Pv 0 (upd H acc (.lst [])))
  (hs:∀i H,i<n->Pv i H->g (.int (lo+i)) σ H λ σ2 H4=>Ext σ σ2/\tt σ2 H4 λ b H5 =>
   if b=true then te σ2 H5 λ y H6=>∃zs,H6 acc=some (.lst zs)/\zs.length<sizeLine/\Pv (i+1) (upd H6 acc (.lst (zs++[y]))) else Pv (i+1) H5) (hd:∀H,Pv n H->Q (.ref acc) H) :
  ∃W:Nat->Nat->Hp->Prop,(∃m,W 0 m (upd H acc (.lst [])))/\∀i m H2,W i m H2 ->
   ((Itr lo n).stop i H2/\Q (.ref acc) H2)\/((Itr lo n).go i H2/\∃N:Hp->Prop,(∀H',N H'->∃m',m'<m/\W (i+1) m' H')/\∀x H3,(Itr lo n).yld i H2 x H3->g x σ H3 λ σ2 H4=>Ext σ σ2/\tt σ2 H4 λ b H5 =>
    if b=true then te σ2 H5 λ y H6=>∃zs,H6 acc=some (.lst zs)/\zs.length<sizeLine/\N (upd H6 acc (.lst (zs++[y])))
    else N H5):=by
 refine⟨λ i m H=>m=n - i/\i<=n/\Pv i H,⟨n,by simp,mB _,h0⟩,?_⟩;rintro i m H2 ⟨rfl,hi,p⟩
 by_cases hlt:i<n
 ·refine .inr ⟨hlt,Pv (i+1),λ H' p'=>⟨n - (i+1),by lia,rfl,hlt,p'⟩,λ x H' y=>?_⟩
  obtain⟨e,y⟩:=y;subst e y;exact hs i _ hlt p
 ·have e:i=n:=by lia
  subst e;exact .inl ⟨lS _,hd H2 p⟩
noncomputable def zHp (sc:Scope) (env:Env) (XN N:List Str) (cap:List (Option Nat)):Bool :=
 (sc.kind == .function) && (sc.names.all λ y=>y.2 != .cell) && (sc.names.all λ y=>y.2 != .local || sc.names.lookup y.1 == some .local) &&
 (sc.names.all λ y=>y.2 != .free || env.kindOf y.1 == some .cell) &&
 ((List.range cap.length).all λ i=>match cap[i]? with
  |some (some j)=>(match N[i]? with|some x=>XN[j]? == some x && sc.names.lookup x == some .free|none=>false)
  |_=>true) && (cap.length == N.length)
theorem zBg {X:Cx}{elt tg iter:Expr}{ifs:List Expr}{sc:Scope}{pos:Pos}{wi:TI}{g:TG}{tt:TT}{te:TE}(N:List Str) (cap:List (Option Nat)) (hc:X.calm=true) (hi:PI X tg iter wi)
  (hg:∀cl s H C ex,PG (X.block sc cl N s H C ex) tg g) (ht:∀cl s H C ex,PTs (X.block sc cl N s H C ex) ifs tt) (he:∀cl s H C ex,PE (X.block sc cl N s H C ex) elt te)
  (ck:zHp sc X.env X.N N cap=true) (hs:∀x,foldedSetIterable iter X.env x=pure x:=by intro _;rfl):PE X (.ListComp elt [⟨tg,iter,ifs,0⟩] sc pos) (tComp cap wi g tt te):=by
 unfold zHp at ck;simp only[Bool.and_eq_true] at ck;obtain⟨⟨⟨⟨⟨k1,k2⟩,k3⟩,k4⟩,k5⟩,k6⟩:=ck;refine zLn N cap hc hi hg ht he (by simpa using k1) (λ y hy=>?_) (λ y hy z=>?_) (λ n hn=>?_) (λ i j e=>?_) (by simpa using k6) hs
 ·have:=List.all_eq_true.mp k2 y hy
  simpa using this
 ·have:=List.all_eq_true.mp k3 y hy
  rw[z] at this;simpa using this
 ·have:=List.all_eq_true.mp k4 _ hn
  simpa using this
 ·have hi:i<cap.length:=(lK.mp e).1
  have:=List.all_eq_true.mp k5 i (List.mem_range.mpr hi);rw[e] at this;dsimp only at this;cases q:N[i]? with
  |none=>rw[q] at this;cases this
  |some x =>
   rw[q] at this;dsimp only at this;rw[Bool.and_eq_true] at this;exact⟨x,rfl,by simpa using this.1,by simpa using this.2⟩
section
variable {prog:Program}{w:World}{A:Around}{E:XQ}{s:Shared}
theorem zAm {it t:Addr}{i:Nat}{items:Array Value}{x:Value}{Q:XQ}(hit:s.heap.IsTupleIter it t i) (ht:s.heap.IsTuple t items) (hx:items[i]?=some x)
  (hQ:∀h',h'.IsTupleIter it t (i+1)->Heap.SameBut it s.heap h'->Q x { s with heap:=h' }):wpAny 90 A (Builtin.SmallTypes.nextOf (.ref it)) Q E s:=by
 obtain⟨o,ho,hc,hd⟩:=id hit;obtain⟨ol,hol,_,nl,hdl⟩:=ht;unfold Builtin.SmallTypes.nextOf;refine lC (wpAny_callSpecial?_slot (name:=Str.ofString "__next__") hit.typeIs F.slot_tuple_iterator_next (wpAny_call_entry F.slot_tuple_iterator_next hit.typeIs F.entry_tuple_iterator_next ?_ (F.args_tuple_iterator_next_1 _)));show wpAny _ _ (field (.ref it) 0 >>= _) _ _ s;refine lC (wpAny_field ho hd (x:=.ref t) rfl ?_);show wpAny _ _ (if (Value.ref t == Value.none)=true then _ else _) _ _ s;rw[if_neg (show ¬((Value.ref t == Value.none)=true) from Bool.false_ne_true)];show wpAny _ _ (field (.ref it) 1 >>= _) _ _ s;refine lC (wpAny_field ho hd (x:=.int i 0) rfl ?_);show wpAny _ _ (seqItems? (.ref t) >>= _) _ _ s;refine lC (wpAny_seqItems hol hdl ?_);simp only[Int.toNat_natCast,hx];refine lC (wpAny_setField ho hd 68 (lD ⟨x,rfl,lD (hQ _ ?_ (Heap.SameBut.update ..))⟩));exact⟨_,Heap.get?_update_self _ ho (Obj.isFreed_of_fields (Obj.data_mapFields hd _)),(Obj.cls_mapFields ..).trans hc,by rw[Obj.data_mapFields hd];simp[rawInt]⟩
theorem zBA {it t:Addr}{i:Nat}{items:Array Value}{Q:XQ}(hh:A.handled=none) (hit:s.heap.IsTupleIter it t i) (ht:s.heap.IsTuple t items) (hx:items[i]?=none)
  (hE:∀h' e,Heap.ExtBut it s.heap h'->(∃o,h'.get? e=some o/\o.cls = .type "StopIteration")->E (.ref e) { s with heap:=h' }):wpAny 90 A (Builtin.SmallTypes.nextOf (.ref it)) Q E s:=by
 obtain⟨o,ho,hc,hd⟩:=id hit;obtain⟨ol,hol,_,nl,hdl⟩:=ht;unfold Builtin.SmallTypes.nextOf;refine lC (wpAny_callSpecial?_slot (name:=Str.ofString "__next__") hit.typeIs F.slot_tuple_iterator_next (wpAny_call_entry F.slot_tuple_iterator_next hit.typeIs F.entry_tuple_iterator_next ?_ (F.args_tuple_iterator_next_1 _)));show wpAny _ _ (field (.ref it) 0 >>= _) _ _ s;refine lC (wpAny_field ho hd (x:=.ref t) rfl ?_);show wpAny _ _ (if (Value.ref t == Value.none)=true then _ else _) _ _ s;rw[if_neg (show ¬((Value.ref t == Value.none)=true) from Bool.false_ne_true)];show wpAny _ _ (field (.ref it) 1 >>= _) _ _ s;refine lC (wpAny_field ho hd (x:=.int i 0) rfl ?_);show wpAny _ _ (seqItems? (.ref t) >>= _) _ _ s;refine lC (wpAny_seqItems hol hdl ?_);simp only[Int.toNat_natCast,hx];refine lC (wpAny_rule (lC (wpAny_setField ho hd 68 ?_)));show wpAny _ _ (newExc (.type "StopIteration") [] >>= _) _ _ _;refine lC ?_;simp only[newExc,newTuple];refine lC (wpAny_newObj_type ?_ (by size_fits));refine lC (m:=firstArgMember _ _) (wpAny_of_eq (a:=Value.none) (by first|rfl|(simp only[firstArgMember];rfl)) ?_);refine wpAny_newObj_type ?_ (by size_fits);simp only[raiseNew];refine lC (wpAny_handled ?_);first|rw[show A.in1.handled=none from hh]|rw[hh]
 refine lC (lD (wpAny_throw ?_));exact hE _ _ (((Heap.SameBut.update ..).extBut.push _).push _) ⟨_,lI _ rfl,rfl⟩
theorem zG0 {prog:Program}{w:World}{A:Around}(hh:A.handled=none) (it t:Addr) (hne:t≠it) (items:Array Value) :
  Draws prog w A it [it,t] items.size (λ i v=>items[i]?=some v) (λ i h=>h.IsTupleIter it t i/\h.IsTuple t items) where
 live:=λ Ω Ω st=>let ⟨o,ho,_⟩:=st.1;⟨o,ho⟩
 frame:=λ Ω Ω Ω st hk=>⟨let ⟨o,ho,r⟩:=st.1;⟨o,hk it 68 o ho,r⟩,let ⟨o,ho,r⟩:=st.2;⟨o,hk t 68 o ho,r⟩⟩
 item:=λ i s Q E hi st hQ=>zAm st.1 st.2 (x:=items[i]) (by simp[hi]) λ h' hit' hs'=>hQ _ h' s.toks (by simp[hi]) ⟨hit',let ⟨o,ho,r⟩:=st.2;⟨o,hs'.extBut t o hne ho,r⟩⟩ hs'
 done:=λ s Q E st hE=>zBA hh st.1 st.2 68 hE
set_option tactic.hygienic true in
theorem zEu (l:Addr) (items:Array Value) (n:Nat) (dct:Option Addr) (sl:Array (Option Value)) :
  Meets (Builtin.«enumerate.__new__» ⟨[.type "enumerate", .ref l],[]⟩) (λ Ω R s=>s.heap.get? l=some { cls:=.type "tuple", dict:=dct,data:=.seq items n,slots:=sl } /\
   R (.ok (.ret (.ref (s.heap.push { cls:=.type "tuple_iterator", data:=.fields #[.ref l,.int 0 0] }).objs.size)))
    { s with heap:=(s.heap.push { cls:=.type "tuple_iterator", data:=.fields #[.ref l,.int 0 0] }).push { cls:=.type "enumerate", data:=.fields #[.none,.bool false,.ref s.heap.objs.size,rawInt 0,.none,.none] } }) :=
 .of_wp λ prog w A R s h=>by
  obtain⟨hp,g,d,tk,os⟩:=s;obtain⟨hl,h⟩:=h;have hsub:=sub_enumerate;have hL:Heap.IsTuple (Shared.heap ⟨hp,g,d,tk,os⟩) l items:=⟨_,hl,rfl,n,rfl⟩
  wp_walk using AutoSeq1.wpAny_loadPart' hl
  refine wpAny_stack_any λ st=>lD ?_;split
  ·rename_i c _ _ _ _ _;cases (c == Value.type "enumerate")
   ·wp_walk using AutoSeq1.wpAny_loadPart' hl,wpAny_pyIter_tuple hL;exact⟨_,rfl,h⟩
   ·wp_walk using AutoSeq1.wpAny_loadPart' hl,wpAny_pyIter_tuple hL;exact⟨_,rfl,h⟩
  ·wp_walk using AutoSeq1.wpAny_loadPart' hl,wpAny_pyIter_tuple hL;exact⟨_,rfl,h⟩
theorem zFh {l:Addr}{items:Array Value}{Q:XQ}(hL:s.heap.IsTuple l items)
  (h:∀h',IsEnum h' (s.heap.objs.size+1) s.heap.objs.size 0 .none->h'.IsTupleIter s.heap.objs.size l 0->h'.objs.size=s.heap.objs.size+2 ->
   (∀b o,s.heap.get? b=some o->h'.get? b=some o)->Q (.ref (s.heap.objs.size+1)) { s with heap:=h' }):wpAny 90 A (call (.type "enumerate") [.ref l]) Q E s:=by
 obtain⟨⟨c,dct,dt,sl⟩,hl,hc,n,hd⟩:=hL;replace hc:c = .type "tuple" := hc;replace hd:dt = .seq items n:=hd;subst hc hd;refine callType_new F.called_enumerate 69 (F.typeCall_enumerate_1 _) (F.newCall_enumerate_1 _) (λ obj=>F.args_object_init_2 obj _) F.entry_enumerate_new (zEu l items n dct sl) ⟨hl,?_⟩;have hz:(s.heap.push { cls:=.type "tuple_iterator", data:=.fields #[.ref l,.int 0 0] }).objs.size=s.heap.objs.size+1:=Heap.size_push ..;show _/\_;rw[hz]
 have he:IsEnum ((s.heap.push { cls:=.type "tuple_iterator", data:=.fields #[.ref l,.int 0 0] }).push { cls:=.type "enumerate", data:=.fields #[.none,.bool false,.ref s.heap.objs.size,rawInt 0,.none,.none] }) (s.heap.objs.size+1) s.heap.objs.size 0 .none:=by
  have:=lI (s.heap.push { cls:=.type "tuple_iterator", data:=.fields #[.ref l,.int 0 0] }) (o:={ cls:=.type "enumerate", data:=.fields #[.none,.bool false,.ref s.heap.objs.size,rawInt 0,.none,.none] }) rfl;rw[hz] at this;exact this
 exact⟨⟨_,he,rfl⟩,h _ he ⟨_,lH _ (lI _ rfl),rfl,rfl⟩ (by rw[Heap.size_push,hz]) λ b o x=>lH _ (lH _ x)⟩
end
section
variable {X:Cx}{jP:List (Addr × Obj)}{σ:St}{H:Hp}{s:Shared}{h':Heap}
theorem Inv.turnedN {t':Nat}{ch:List Addr}(I:Inv X jP σ H s) (k:∀b o,b∉ch->s.heap.get? b=some o->h'.get? b=some o) (hf:∀b∈ch,FpOk X jP H b):Inv X jP σ H { s with heap:=h',toks:=t' }:=by
 refine I.step (g':=s.gens) (d':=s.drawn) (ch:=ch) (λ b hb=>?_) (λ b o Ω Ω hc e Ω=>k b o hc e) (λ b o Ω Ω hc e Ω=>⟨o.slots,k b o hc e⟩) (λ Ω Ω Ω Ω n=>n)
  (λ b o hc e=>⟨o,k b o hc e⟩) (λ Ω Ω e=>e) (λ Ω Ω Ω e=>e) (λ b ps e=>⟨#[],by rw[e];simp⟩) (λ m hm=>?_) (λ b u e=>?_) I.bare
 ·obtain⟨f0,f1,f2,f3,f4,f5⟩:=hf b hb
  exact⟨f3,f1,f4,f5⟩
 ·obtain⟨o,es,ep,ho,r⟩:=hm
  exact⟨o,es,ep,k _ o (λ z=>(hf _ z).2.1 rfl) ho,r⟩
 ·refine(I.hok b u e).stay (λ c v hc q=>k c v (λ z=>?_) q) (λ Ω q=>q) λ Ω Ω q=>q
  have n:=(hf c z).1;rcases hc with y|y
  ·rw[y,e] at n;cases n
  ·rw[y] at n;cases n
theorem Inv.turnedL {t':Nat}{ch:List Addr}{a:Addr}{o:HO}(I:Inv X jP σ H s) (k:∀b o,b∉ch->s.heap.get? b=some o->h'.get? b=some o) (hf:∀b∈ch,FpOk X jP H b) (hp:s.heap.objs.size<=a)
  (new:ObjOk X.prog X.w (upd H a o) h' a o):Inv X jP σ (upd H a o) { s with heap:=h',toks:=t' }:=by
 have hn:H a=none:=I.hok.fresh hp;have ne:∀b u,s.heap.get? b=some u->b≠a:=λ b u e=>lT (mC (lJ e) hp)
 refine I.step (g':=s.gens) (d':=s.drawn) (ch:=ch) (λ b hb=>?_) (λ b o Ω Ω hc e Ω=>k b o hc e) (λ b o Ω Ω hc e Ω=>⟨o.slots,k b o hc e⟩) (λ b u Ω e n=>by rw[zAd (ne b u e)];exact n)
  (λ b o hc e=>⟨o,k b o hc e⟩) (λ b xs q=>by rw[zAd (zAV q hn)];exact q) (λ b u xs q=>by rw[zAd (zAV q hn)];exact q) (λ b ps q=>⟨#[],by rw[zAd (zAV q hn),q];simp⟩) (λ m hm=>?_) (λ b u e=>?_) I.bare
 ·obtain⟨f0,f1,f2,f3,f4,f5⟩:=hf b hb
  exact⟨f3,f1,f4,f5⟩
 ·obtain⟨o,es,ep,ho,r⟩:=hm
  exact⟨o,es,ep,k _ o (λ z=>(hf _ z).2.1 rfl) ho,r⟩
 ·by_cases hb:b=a
  ·subst hb
   rw[zAB] at e;cases e;exact new
  ·rw[zAd hb] at e
   refine(I.hok b u e).stay (λ c v hc q=>k c v (λ z=>?_) q) (λ c q=>by rw[zAd (zAV q hn)];exact q) λ c xs q=>by rw[zAd (zAV q hn)];exact q
   have n:=(hf c z).1;rcases hc with y|y
   ·rw[y,e] at n;cases n
   ·rw[y] at n;cases n
end
noncomputable def Ite (K:W.Frag) (a:Addr):It :=
 ⟨λ i H=>∃xs x,SqT K H a xs/\xs[i]?=some x,λ i H x H'=>∃T y,H T=none/\x = .ref T/\H'=upd H T (.tup [.int i,y])/\∀xs,SqT K H a xs->xs[i]?=some y,λ i H=>∃xs,SqT K H a xs/\xs.length<=i⟩
theorem zIS {P:Program}{w:World}{K:W.Frag}{es:List Expr}{k:Nat}{pos:Pos}(a e it:Addr) (hei:e≠it) :
  Turn P w K (.Tuple es k pos) (Ite K a) [e,it] e (λ i h=>(∃old,IsEnum h e it i old)/\h.IsTupleIter it a i) where
 mem:=by simp
 obj:=λ i h st b hb=>by
  obtain⟨⟨old,z⟩,o,e',c,d⟩:=st;rcases lO.mp hb with y|y
  ·subst y;exact⟨_,z,λ v q=>by have q':Data.fields _=Data.cell v:=q;cases q'⟩
  ·cases mQ.mp y
   exact⟨o,e',λ v q=>by rw[d] at q;cases q⟩
 keep:=λ i h h' st k=>by
  obtain⟨⟨old,z⟩,o,e',r⟩:=st;exact⟨⟨old,k e 68 _ z⟩,o,k it 68 o e',r⟩
 item:=by
  intro X hP hw hK hc i jP s σ H E I hf st hg;subst hP hw hK;obtain⟨xs,x,hq,hx⟩:=hg;obtain⟨its,rv,p,hz⟩:=I.tuple hq;obtain⟨u,hu,ru⟩:=rv.get hx;obtain⟨⟨old,he⟩,hit⟩:=st;have p':s.heap.IsTuple a its.toArray:=p
  have hai:a≠it:=λ z=>by
   obtain⟨o1,q1,c1,_⟩:=p';obtain⟨o2,q2,c2,_⟩:=hit;rw[z,q2] at q1;cases q1;rw[c2] at c1;injection c1 with c3;exact absurd c3 69
  have hae:a≠e:=λ z=>by
   obtain⟨o1,q1,c1,_⟩:=p';rw[z] at q1;have he':s.heap.get? e=some _:=he;rw[he'] at q1;cases q1;injection c1 with c3;exact absurd c3 69
  have hilt:i<its.toArray.size:=by
   have:=(lK.mp hu).1;simpa using this
  refine wpAny_pyNext_enum_itemD (zG0 (A:=X.A.in1) (I.ok.hd hc) it a hai its.toArray) he ⟨hit,p'⟩ hilt hei (by simp[hei,Ne.symm hae]) λ y h1 tk hy ho hst hT hsz hk=>?_
  have hyu:y=u:=by
   have:(its.toArray)[i]?=some u:=by simpa using hu
   rw[hy] at this;exact mG this
  subst hyu;refine⟨_,rfl,?_⟩;have hn:H s.heap.objs.size=none:=I.fresh
  have I1:Inv X jP σ (upd H s.heap.objs.size (.tup [.int i,x])) { s with heap:=h1,toks:=tk+1 }:=I.turnedL (ch:=[e,it]) (λ b o hb q=>hk b o (λ z=>hb (by simp[z])) (λ z=>hb (by simp[z])) q) hf (lS _)
   ⟨Nat.le_of_lt (zAR (show 2<=1000 by decide)),[.int i tk,y],.cons 72 (.cons ru .nil),_,hT,rfl,_,rfl⟩
  have neT:∀b∈[e,it],b≠s.heap.objs.size:=λ b hb=>by
   rcases lO.mp hb with z|z
   ·subst z;exact lT (lJ (show s.heap.get? b=some _ from he))
   ·cases mQ.mp z
    obtain⟨o2,q2,_⟩:=hit;exact lT (lJ q2)
  refine wpAny_letOwnedTupleGo_enum (s:={ s with heap:=h1,toks:=tk+1 }) ho λ h2 he2 hs2=>⟨.ref s.heap.objs.size,_,?_,rfl,⟨_,x,hn,rfl,rfl,λ ys hy'=>by rw[I.tuple_inj hy' hq];exact hx⟩,⟨⟨_,he2⟩,?_⟩,λ b hb=>?_⟩
  ·refine I1.turnedN (t':=tk+1) (ch:=[e]) (λ b o hb q=>(hs2.2 b (λ z=>hb (by simp[z]))).trans q) λ b hb=>?_
   have eb:=mQ.mp hb;subst eb;obtain⟨f0,f⟩:=hf b 68;exact⟨by rw[zAd (neT b 68)];exact f0,f⟩
  ·obtain⟨o2,q2,r2⟩:=hst.1
   exact⟨o2,(hs2.2 it hei.symm).trans q2,r2⟩
  ·rw[zAd (neT b hb)];exact(hf b hb).1
 done:=by
  intro X hP hw hK hc i jP s σ H E I hf st hg;subst hP hw hK;obtain⟨xs,hq,hx⟩:=hg;obtain⟨its,rv,p,hz⟩:=I.tuple hq;obtain⟨⟨old,he⟩,hit⟩:=st;have p':s.heap.IsTuple a its.toArray:=p
  have hai:a≠it:=λ z=>by
   obtain⟨o1,q1,c1,_⟩:=p';obtain⟨o2,q2,c2,_⟩:=hit;rw[z,q2] at q1;cases q1;rw[c2] at c1;injection c1 with c3;exact absurd c3 69
  have hl:=rv.length;have hT:s.TypeIs (.ref e) "enumerate" := ⟨_,he,rfl⟩;unfold pyNext;refine lC 85;show wpAny _ _ (field (.ref e) 2 >>= _) _ _ _;refine lC (wpAny_field he rfl (x:=.ref it) rfl ?_);refine lC (zBA (I.ok.hd hc) hit p' (by simp;lia) λ h1 x hx1 ⟨o,ho,hc'⟩=>?_);refine lC (wpAny_isInstance (T := "StopIteration") (b:=true) ⟨o,ho,hc'⟩ isSubtype_stop ?_);exact lD ⟨rfl,I.turnedN (t':=s.toks) (ch:=[it]) (λ b o hb q=>hx1 b o (λ z=>hb (by simp[z])) q) λ b hb=>hf b (by simp at hb ⊢;exact .inr hb)⟩
 self:=λ Ω Ω Ω Ω Ω st h=>let ⟨⟨_,he⟩,_⟩:=st;wpAny_pyIter_enum he h
def iEnum (K:W.Frag) (ta:TA):TI:=λ σ H R=>ta σ H λ vs H1=>∃a,vs=[.ref a]/\(∃xs,SqT K H1 a xs)/\R (Ite K a) H1
theorem zIq {X:Cx}{es:List Expr}{k:Nat}{tpos:Pos}{a:Expr}{ta:TA}{p pos:Pos}(hg:Gl X "enumerate") (hm:X.mg "enumerate" = none) (ha:PA X [a] ta) (hs:starEach [a] X.env=[(false,eval a X.env)]:=by rfl) :
  PI X (.Tuple es k tpos) (.Call (.Name "enumerate" p) [a] [] pos) (iEnum X.K ta):=by
 intro jP s σ H R I h;refine Call_ (zCI I hg hm boot_enumerate (PyProof.Rows.callWith_type1 98 hs rfl));obtain⟨b,e,⟨xs,hq⟩,q⟩:=q1;subst e;obtain⟨u,rfl,ru⟩:=vals1 r1;cases ru;obtain⟨its,rv,tp,hz⟩:=I1.tuple hq;refine zFh (show s1.heap.IsTuple b its.toArray from tp) λ h' he hit hsz hk=>?_;refine wpAny_pyIter_enum he ⟨_,[s1.heap.objs.size+1,s1.heap.objs.size],_,_,H1,rfl,I1.kept (t':=s1.toks) hk,zIS b _ _ (Nat.succ_ne_self _),⟨⟨_,he⟩,hit⟩,λ c hc=>?_,q⟩
 have ge:s1.heap.objs.size<=c:=by
  rcases lO.mp hc with z|z
  ·rw[z];exact Nat.le_succ _
  ·rw[mQ.mp z];exact lS _
 exact I1.fpOk ge (I1.hok.fresh ge)
theorem zHk {K:W.Frag}{a:Addr}{xs:List V}{g:TG}{tb:TS}{D:Ends}{σ:St}{H:Hp}(Pv:Nat->St->Hp->Prop) (h0:Pv 0 σ H) (hl:∀i σ H,i<=xs.length->Pv i σ H->SqT K H a xs)
  (hs:∀i x T σ H,xs[i]?=some x->Pv i σ H->H T=none->g (.ref T) σ (upd H T (.tup [.int i,x])) λ σ2 H2=>tb { D with nx:=Pv (i+1),ct:=Pv (i+1),bk:=D.nx } σ2 H2) (hd:∀σ H,Pv xs.length σ H->D.nx σ H) :
  ∃W:Nat->Nat->St->Hp->Prop,(∃m,W 0 m σ H)/\∀i m σ H,W i m σ H ->
   ((Ite K a).stop i H/\D.nx σ H)\/((Ite K a).go i H/\∃N:St->Hp->Prop,95/\∀x H',(Ite K a).yld i H x H'->g x σ H' λ σ2 H2=>tb { D with nx:=N,ct:=N,bk:=D.nx } σ2 H2):=by
 refine⟨λ i m σ H=>m=xs.length - i/\i<=xs.length/\Pv i σ H,⟨xs.length,by simp,mB _,h0⟩,?_⟩;rintro i m σ H ⟨rfl,hi,p⟩;have q:=hl i σ H hi p
 by_cases hlt:i<xs.length
 ·refine .inr ⟨⟨xs,xs[i],q,by simp[hlt]⟩,Pv (i+1),λ σ' H' p'=>⟨xs.length - (i+1),by lia,rfl,hlt,p'⟩,λ x H' y=>?_⟩
  obtain⟨T,z,hT,ex,eH,y⟩:=y;subst ex eH;exact hs i z T σ H (y xs q) p hT
 ·have e:i=xs.length:=by lia
  subst e;exact .inl ⟨⟨xs,q,lS _⟩,hd σ H p⟩
section
variable {X:Cx}
theorem zAC {H:Hp}{p:Addr}{o:HO}(h:H p=none):Same H (upd H p o):=λ b u q=>by rw[zAd (zAV q h)];exact q
def rIsi (K:W.Frag):List V->Hp->VK->Prop:=λ xs H Q=>E4 λ x T t b=>A4 (xs=[x,.ty T]) (TyOf K H x t) (W.kitOne K t (.type T)=some b) (Q (.bl b) H)
theorem zHr:CallR X (.builtin "isinstance") (rIsi X.K):=by
 intro jP s σ H xs us Q I r h;obtain⟨x,T,t,b,rfl,ty,e,q⟩:=h;obtain⟨u,w',rfl,ru,rw'⟩:=vals2 r;cases rw';exact zJf I ru ty e λ tk=>⟨.bl b,H,I.tok tk,rfl,q⟩
theorem cI {X:Cx}{e:Expr}{te:TE}{T:Str}{u:String}{p p2 pos:Pos}(hm:X.mg "isinstance"=none)(hT:X.mg T=none)(hv:bootBuiltins T=some (.type u))(ha:PE X e te)(hg:Gl X "isinstance":=by rfl)(hG:Gl X T:=by rfl)(h1:starEach [e,.Name T p2] X.env=(false,eval e X.env)::starEach [.Name T p2] X.env:=by rfl)(h2:starEach [.Name T p2] X.env=(false,eval (.Name T p2) X.env)::starEach [] X.env:=by rfl)(h3:(backTo pos (starEach [.Name T p2] X.env)).any (·.1)=false:=by rfl)(hn:T≠"__name__":=by decide)(hd:(T==("__debug__":Str))=false:=by decide):PE X (.Call (.Name "isinstance" p) [e,.Name T p2] [] pos) (tCB (rIsi X.K) (tCons te (tCons (tC (.ty u)) tNil))):=zBL zHr hg hm rJ (zAA ha (zAA (zGr hG hT hv rfl hn hd) zAD h2) h1) 69 69 h1 h3
theorem zJr (a b:Str):eqV (.str a) (.str b)=true↔a=b:=by
 constructor
 ·intro h;simpa[eqV] using h
 ·intro h;subst h;simp[eqV]
def zMT:List V->Hp->VK->Prop:=λ xs H Q=>E3 λ(d:Addr) (kvs:List (Key × V)) (ks:List Str)=>A5 (xs=[.ref d]) (H d=some (.dK kvs)) (kvs.map (·.1)=ks.map Sum.inr) (ks.length<64) (∀(l:Addr) (ss:List Str),H l=none->ss.Perm ks->ss.Pairwise (λ a b=>ltCps b.cps.toList a.cps.toList=false)->Q (.ref l) (upd H l (.lst (ss.map V.str))))
theorem zIY {P:Program}{w:World}:∀{vs:List (Key × Value)}{ks:List Str}{us:List Value},vs.map (·.1)=ks.map Sum.inr->us.length=vs.length ->
  (∀(j:Nat) (v:Value),us[j]?=some v->∃k x,vs[j]?=some (k,x)/\(zAo P w).is k v=true)->StrsAre us ks
 |[],[],[],_,_,_=>.nil
 | (k,x)::vs,y::ks,u::us,e,hl,h=>by
  have e1:k=Sum.inr y:=(List.cons.inj e).1;have e2:vs.map (·.1)=ks.map Sum.inr:=(List.cons.inj e).2;obtain⟨k',x',q,m⟩:=h 0 u rfl;have q':(k,x)=(k',x'):=mG q;cases q';subst e1;rcases zAy (show keyIs (Sum.inr y) u=true from m) with ⟨i,t,z,_⟩|⟨z,t,z1,z2⟩
  ·cases z
  ·cases z1
   subst z2;exact .cons _ t (zIY e2 (by simpa using hl) λ j v hv=>h (j+1) v (by simpa using hv))
 |[],_::_,_,e,_,_=>nomatch e
 |_::_,[],_,e,_,_=>nomatch e
 |[],[],_::_,_,e,_=>nomatch e
 |_::_,_::_,[],_,e,_=>nomatch e
theorem zFi {us:List Value}{ks:List Str}(h:StrsAre us ks):Vals (ks.map V.str) us:=by
 induction h with
 |nil=>exact .nil
 |cons y t r ih=>exact .cons ⟨t,rfl⟩ ih
theorem zJy {a b c:Str}(h1:ltCps b.cps.toList a.cps.toList=false) (h2:ltCps c.cps.toList b.cps.toList=false):ltCps c.cps.toList a.cps.toList=false:=by
 rw[ltCps_eq,decide_eq_false_iff_not] at *;exact List.le_trans (l₁:=a.cps.toList) (l₂:=b.cps.toList) (l₃:=c.cps.toList) h1 h2
theorem zE1:∀(p:Str) (l:List Str),risingS p l=true->(p::l).Pairwise (λ a b=>ltCps b.cps.toList a.cps.toList=false)
 |p,[],_=>by simp
 |p,x::r,h=>by
  have h':(!ltCps x.cps.toList p.cps.toList && risingS x r)=true:=h;rw[Bool.and_eq_true] at h';have h1:ltCps x.cps.toList p.cps.toList=false:=by simpa using h'.1
  have ih:=zE1 x r h'.2;refine List.pairwise_cons.mpr ⟨λ y hy=>?_,ih⟩;rcases lO.mp hy with z|z
  ·subst z;exact h1
  ·exact zJy h1 ((List.pairwise_cons.mp ih).1 y z)
theorem zEV:∀{l:List Str},sortedS l=true->l.Pairwise (λ a b=>ltCps b.cps.toList a.cps.toList=false)
 |[],_=>.nil
 |x::r,h=>zE1 x r h
theorem zL2 {kvs:List (Key × V)}{vs:List (Key × Value)}(h:KV kvs vs):kvs.map (·.1)=vs.map (·.1):=by
 unfold KV at h
 induction h with
 |nil=>rfl
 |cons r _ ih=>simp[r.1,ih]
theorem zCp (hc:X.calm=true):CallR X (.builtin "sorted") zMT:=by
 intro jP s σ H xs us Q I r h;obtain⟨d,kvs,ks,rfl,hd,hk,h64,q⟩:=h;obtain⟨u,rfl,ru⟩:=vals1 r;cases ru;obtain⟨hz,hsm,vs,kv,hdo⟩:=(show ObjOk X.prog X.w H s.heap d (.dK kvs) from I.hok d _ hd);obtain⟨ep,hat⟩:=hdo.dictAt;have hks:vs.map (·.1)=ks.map Sum.inr:=by rw[←zL2 kv];exact hk
 have hn:vs.length=ks.length:=by have:=congrArg List.length hks;simpa using this
 have line:vs.length<=sizeLine:=Nat.le_of_lt (zAR 61);refine Calls.call_function_entry kind_sorted plain_sorted entry_sorted (args_sorted1 _) ?_;unfold Builtin.«sorted»;refine lC (m:=checkCount "sorted" 1 1 _) (lD ?_);refine lC (W.kdu_collect (A:=X.A.in1) (W.kdl_dict (knd:=zAo X.prog X.w) (kvs:=vs) (ep:=ep) hsm) (I.ok.hd hc) hat line λ h1 tk acc hk1 hacc=>?_);have la:acc.toList.length=vs.length:=by rw[Array.length_toList];exact hacc.1
 have hS:StrsAre acc.toList ks:=zIY (P:=X.prog) (w:=X.w) hks la λ j v hv=>hacc.2 j v (by rw[←nH];exact hv);have I1:Inv X jP σ H { s with heap:=h1,toks:=tk }:=I.kept hk1;refine lC (wpAny_newList ?_ (by rw[la];exact line));have hoL:(h1.push { cls:=.type "list", data:=.seq acc.toList.toArray }).get? h1.objs.size=some (seqObj "list" acc.toList.toArray 0):=lI _ rfl;refine lC (lG (wpAny_call_entry slot_list_sort ⟨_,hoL,rfl⟩ entry_list_sort (list_sort_treeK strKind_oneLt hoL hS.keysOf (λ a b rest e=>keyKind_strs (ss:=ks) (by rw[←e];exact hS)) (by rw[la,hn];exact h64) λ st' a1 a2=>⟨_,rfl,?_⟩) (args_list_sort _)));obtain⟨ss,b1,b2,b3⟩:=sorted_out_str hS a1 a2;obtain⟨e,he⟩:∃e,(sortedHeap (h1.push { cls:=.type "list", data:=.seq acc.toList.toArray }) h1.objs.size acc.toList ((arrOf st').map (·.2))).get? h1.objs.size=some (seqObj "list" ((arrOf st').map (·.2)) e):=sortedHeap_at hoL;refine lD ⟨_,rfl,⟨.ref h1.objs.size,upd H h1.objs.size (.lst (ss.map V.str)),I1.laid (t':=tk) (a:=h1.objs.size) (o:=.lst (ss.map V.str)) (λ b o hb=>?_) (lS _) ⟨?_,_,e,zFi b1,?_⟩,rfl,q _ ss (I1.hok.fresh (lS _)) b2 (zEV b3)⟩⟩
 ·rw[sortedHeap_old (Nat.ne_of_lt (Heap.lt_size hb)) (by rw[Heap.size_push];exact Nat.lt_succ_of_lt (lJ hb))]
  exact lH _ hb
 ·rw[lE,b2.length_eq]
  exact Nat.le_of_lt (zAR 61)
 ·rw[he]
end
structure FnB (P:Program) (w:World) (K:W.Frag) (mg:Str->Option Value) (base:Heap) (k:Nat) (x:Str) (f:Addr) (fd:FuncData) (ps:List Str) (sp:Sp):Prop where
 ok:FnOk P w K mg base CX0 k f fd ps sp
 bd:Binds K fd ps []
 kp:W.keepIn K (.ref f)=true
 gl:mg x=some (.ref f)
theorem pe_cl {X:Cx}{k:Nat}{x:Str}{f:Addr}{fd:FuncData}{ps:List Str}{sp:Sp}{e:Expr}{es:List Expr}{t:TA}{p pos:Pos}(G:FnB X.prog X.w X.K X.mg X.base k x f fd ps sp) (hr:Room k X.A) (ha:PA X (e::es) t) (hg:Gl X x:=by rfl) (hdb:(x==("__debug__":Str))=false:=by decide) (he:starEach (e::es) X.env=(false,eval e X.env)::starEach es X.env:=by rfl) (hpl:(backTo pos (starEach es X.env)).any (·.1)=false:=by rfl):PE X (.Call (.Name x p) (e::es) [] pos) (tCall sp [] E0 t):=zEU G.ok hr hg G.gl G.kp G.bd .nil pass0 ha hdb he hpl
theorem iC {X:Cx}{r:R2}{a:Expr}{ta:TE}{i j p2 pos} (hr:IxR X r) (ha:PE X a ta):PE X (.Subscript a (.Constant (.int i) j p2) pos) (tOp r ta (tC (.int i))):=pe_ix hr ha zAH 76
theorem FnB.up {P:Program}{w:World}{K:W.Frag}{mg:Str->Option Value}{base:Heap}{j k:Nat}{x:Str}{f:Addr}{fd:FuncData}{ps:List Str}{sp:Sp}(F:FnB P w K mg base j x f fd ps sp) (h:j<=k):FnB P w K mg base k x f fd ps sp :=
 ⟨F.ok.mono h,F.bd,F.kp,F.gl⟩
def Tk (H H':Hp):Prop:=∀b xs,H b=some (.tup xs)->H' b=some (.tup xs)
theorem Tk.refl (H:Hp):Tk H H:=λ Ω Ω h=>h
theorem Tk.trans {H H1 H2:Hp}(a:Tk H H1) (b:Tk H1 H2):Tk H H2:=λ c xs h=>b c xs (a c xs h)
theorem Same.tk {H H':Hp}(h:Same H H'):Tk H H':=λ b xs e=>h b _ e
theorem Tk.lst {H:Hp}{p:Addr}{xs:List V}{o:HO}(h:H p=some (.lst xs)):Tk H (upd H p o):=λ b ys e=>by
 rw[zAd (λ z=>by subst z;rw[h] at e;cases e)];exact e
theorem Tk.dk {H:Hp}{p:Addr}{kvs:List (Key × V)}{o:HO}(h:H p=some (.dK kvs)):Tk H (upd H p o):=λ b ys e=>by
 rw[zAd (λ z=>by subst z;rw[h] at e;cases e)];exact e
section
variable {X:Cx}
def rCatV:R2:=λ x y H Q=>E4 λ a b xs ys=>A6 (x = .ref a) (y = .ref b) (H a=some (.tup xs)) (H b=some (.tup ys)) (xs.length+ys.length<=sizeLine) (∀p H',Same H H'->H' p=some (.tup (xs++ys))->Q (.ref p) H')
theorem zCB:OpR X (binaryOp .Add) rCatV:=by
 intro jP s σ H x y v u Q I rx ry h;obtain⟨a,b,xs,ys,rfl,rfl,ha,hb,hz,q⟩:=h
 by_cases hx:xs=[]
 ·subst hx
  cases rx;cases ry;obtain⟨its,r1,p1,_⟩:=I.tuple (SqT.of ha);obtain⟨its2,r2,p2,_⟩:=I.tuple (SqT.of hb);have e0:its=[]:=r1.nil_iff.mpr rfl;subst e0;obtain⟨⟨cls,dd,data,sl⟩,ho,hc,n,hd⟩:=id p1;obtain⟨⟨cls2,dd2,data2,sl2⟩,ho2,hc2,n2,hd2⟩:=id p2;simp only at hc hd hc2 hd2;subst hc hd hc2 hd2;exact concat_meets ⟨_,ho,rfl⟩ ⟨_,ho2,rfl⟩ noFill_tuple_add seq_tuple_add PySem.F.slot_tuple_add PySem.F.entry_tuple_add (PySem.F.args_tuple_add_2 _ _) (tuple_addW0 a b _ _ n n2 dd dd2 sl sl2 rfl) ⟨ho,ho2,⟨.ref b,H,I,rfl,q b H (.refl H) hb⟩⟩
 ·refine zLq jP s σ H (.ref a) (.ref b) v u Q I rx ry ⟨a,b,xs,ys,rfl,rfl,SqT.of ha,SqT.of hb,hx,hz,λ e=>?_,λ e p hp=>?_⟩
  ·subst e
   exact q a H (.refl H) (by rw[nP];exact ha)
  ·exact q p _ (zAC hp) zAB
def rSlV:V->Option Int->Option Int->Hp->VK->Prop:=λ x lo hi H Q=>E2 λ a xs=>A4 (x = .ref a) (H a=some (.tup xs)) (¬(HT.sIx xs.length 0 lo=0/\HT.sIx xs.length xs.length hi=xs.length)) (∀p H',Same H H'->H' p=some (.tup (cutV xs lo hi))->Q (.ref p) H')
theorem zGk:SlR X rSlV:=by
 intro jP s σ H x v vl vu lo hi sl Q I rx hs pl pu h;obtain⟨a,xs,rfl,ha,hw,q⟩:=h;exact zMQ jP s σ H (.ref a) v vl vu lo hi sl Q I rx hs pl pu ⟨a,xs,rfl,SqT.of ha,hw,λ p hp=>q p _ (zAC hp) zAB⟩
end
inductive Atom where
 |name (x:Str)|num (n:Int)|gap (g:Str)
inductive Bin where
 |add|sub|mul|thn
noncomputable def Bin.s:Bin->Str
 |.add => "add" |.sub => "sub" |.mul => "mul" |.thn => "then"
inductive Tr where
 |num (n:Int)|name (x:Str)|ask (x:Str)|stop (x:Str)|gap (g:Str) (as:List Atom)
 |say (a:Tr)|bin (o:Bin) (a b:Tr)|ite (a b c:Tr)|lett (x:Str) (a b:Tr)
def AtRep (H:Hp):Atom->V->Prop
 |.name x,v=>∃a,v = .ref a/\H a=some (.tup [.str "name", .str x])
 |.num n,v=>∃a,v = .ref a/\H a=some (.tup [.str "num", .int n])
 |.gap g,v=>∃a b,v = .ref a/\H a=some (.tup [.str "gap", .str g,.ref b])/\H b=some (.tup [])
def Rep (H:Hp):Tr->V->Prop
 |.num n,v=>∃a,v = .ref a/\H a=some (.tup [.str "num", .int n])
 |.name x,v=>∃a,v = .ref a/\H a=some (.tup [.str "name", .str x])
 |.ask x,v=>∃a,v = .ref a/\H a=some (.tup [.str "ask", .str x])
 |.stop x,v=>∃a,v = .ref a/\H a=some (.tup [.str "stop", .str x])
 |.gap g as,v=>∃a b us,v = .ref a/\H a=some (.tup [.str "gap", .str g,.ref b])/\H b=some (.tup us)/\us.length<=1000/\Paired (AtRep H) as us
 |.say t,v=>∃a u,v = .ref a/\H a=some (.tup [.str "say", u])/\Rep H t u
 |.bin o s t,v=>∃a u w,v = .ref a/\H a=some (.tup [.str o.s,u,w])/\Rep H s u/\Rep H t w
 |.ite r s t,v=>∃a u w z,v = .ref a/\H a=some (.tup [.str "if", u,w,z])/\Rep H r u/\Rep H s w/\Rep H t z
 |.lett x s t,v=>∃a u w,v = .ref a/\H a=some (.tup [.str "let", .str x,u,w])/\Rep H s u/\Rep H t w
theorem AtRep.mono {H H':Hp}(k:Tk H H'):∀{t:Atom}{v:V},AtRep H t v->AtRep H' t v
 |.name _,_,⟨a,e,h⟩=>⟨a,e,k _ _ h⟩
 |.num _,_,⟨a,e,h⟩=>⟨a,e,k _ _ h⟩
 |.gap _,_,⟨a,b,e,h,h'⟩=>⟨a,b,e,k _ _ h,k _ _ h'⟩
theorem Rep.mono {H H':Hp}(k:Tk H H'):∀{t:Tr}{v:V},Rep H t v->Rep H' t v
 |.num _,_,⟨a,e,h⟩=>⟨a,e,k _ _ h⟩
 |.name _,_,⟨a,e,h⟩=>⟨a,e,k _ _ h⟩
 |.ask _,_,⟨a,e,h⟩=>⟨a,e,k _ _ h⟩
 |.stop _,_,⟨a,e,h⟩=>⟨a,e,k _ _ h⟩
 |.gap _ _,_,⟨a,b,us,e,h,h',n,p⟩=>⟨a,b,us,e,k _ _ h,k _ _ h',n,Paired.mapP p λ Ω Ω z=>z.mono k⟩
 |.say _,_,⟨a,u,e,h,r⟩=>⟨a,u,e,k _ _ h,r.mono k⟩
 |.bin _ _ _,_,⟨a,u,w,e,h,r,s⟩=>⟨a,u,w,e,k _ _ h,r.mono k,s.mono k⟩
 |.ite _ _ _,_,⟨a,u,w,z,e,h,r,s,t⟩=>⟨a,u,w,z,e,k _ _ h,r.mono k,s.mono k,t.mono k⟩
 |.lett _ _ _,_,⟨a,u,w,e,h,r,s⟩=>⟨a,u,w,e,k _ _ h,r.mono k,s.mono k⟩
inductive Kd where
 |num|name|ask|stop|gap|say|add|sub|mul|thn|ite|lett
 deriving DecidableEq
noncomputable def Kd.s:Kd->Str
 |.num => "num" |.name => "name" |.ask => "ask" |.stop => "stop" |.gap => "gap"
 |.say => "say" |.add => "add" |.sub => "sub" |.mul => "mul" |.thn => "then" |.ite => "if" |.lett => "let"
noncomputable def Kd.leaf:Kd->Bool
 |.num=>true|.name=>true|.ask=>true|.stop=>true|.gap=>true
 |_=>false
theorem Kd.inj {a b:Kd}(h:a.s=b.s):a=b:=by
 revert h;cases a<;>cases b<;>first|(intro _;rfl)|(intro h;exact absurd h (by right))
theorem Kd.eq_iff {a b:Kd}:(V.str a.s=V.str b.s)↔a=b:=⟨λ h=>Kd.inj (V.str.inj h),λ h=>by rw[h]⟩
noncomputable def Bin.kd:Bin->Kd
 |.add=>.add|.sub=>.sub|.mul=>.mul|.thn=>.thn
noncomputable def Tr.kd:Tr->Kd
 |.num _=>.num|.name _=>.name|.ask _=>.ask|.stop _=>.stop|.gap _ _=>.gap
 |.say _=>.say|.bin o _ _=>o.kd|.ite _ _ _=>.ite|.lett _ _ _=>.lett
noncomputable def Tr.sign (t:Tr):Str:=t.kd.s
theorem Bin.kd_s (o:Bin):o.kd.s=o.s:=by cases o<;>rfl
noncomputable def Tr.parts:Tr->List Tr
 |.say a=>[a]|.bin _ a b=>[a,b]|.ite a b c=>[a,b,c]|.lett _ a b=>[a,b]
 |_=>[]
noncomputable def Tr.head:Tr->Nat
 |.gap _ _=>3|.say _=>1|.bin _ _ _=>1|.ite _ _ _=>1
 |_=>2
theorem Rep.all {H:Hp}:∀{t:Tr}{v:V},Rep H t v->∃a hs us,v = .ref a/\H a=some (.tup (.str t.sign::hs++us))/\hs.length+1=t.head/\Paired (Rep H) t.parts us
 |.num n,_,⟨a,e,h⟩=>⟨a,[.int n],[],e,h,rfl,.nil⟩
 |.name x,_,⟨a,e,h⟩=>⟨a,[.str x],[],e,h,rfl,.nil⟩
 |.ask x,_,⟨a,e,h⟩=>⟨a,[.str x],[],e,h,rfl,.nil⟩
 |.stop x,_,⟨a,e,h⟩=>⟨a,[.str x],[],e,h,rfl,.nil⟩
 |.gap g _,_,⟨a,b,us,e,h,h',_,p⟩=>⟨a,[.str g,.ref b],[],e,h,rfl,.nil⟩
 |.say _,_,⟨a,u,e,h,r⟩=>⟨a,[],[u],e,h,rfl,.cons r .nil⟩
 |.bin o _ _,_,⟨a,u,w,e,h,r,s⟩=>⟨a,[],[u,w],e,(by show _=some (HO.tup [V.str o.kd.s,u,w]);rw[Bin.kd_s];exact h),rfl,.cons r (.cons s .nil)⟩
 |.ite _ _ _,_,⟨a,u,w,z,e,h,r,s,t⟩=>⟨a,[],[u,w,z],e,h,rfl,.cons r (.cons s (.cons t .nil))⟩
 |.lett x _ _,_,⟨a,u,w,e,h,r,s⟩=>⟨a,[.str x],[u,w],e,h,rfl,.cons r (.cons s .nil)⟩
noncomputable def Tr.size:Tr->Nat
 |.say a=>a.size+1|.bin _ a b=>a.size+b.size+1|.ite a b c=>a.size+b.size+c.size+1|.lett _ a b=>a.size+b.size+1
 |_=>1
theorem zAP {α:Type}{F:α->V->Prop}{as:List α}{us:List V}{i:Nat}{u:V}(h:Paired F as us):us[i]?=some u->∃a,as[i]?=some a/\F a u:=by
 induction h generalizing i with
 |nil=>exact λ e=>nomatch e
 |cons h t ih=>cases i with
  |zero=>exact λ e=>⟨_,rfl,by cases e;exact h⟩
  |succ i=>exact λ e=>ih (i:=i) (by simpa using e)
theorem zAb {H H':Hp}{p:Addr}{o:HO}(g:Same H H') (h:H p=none):Same H (upd H' p o):=λ b u q=>by rw[zAd (zAV q h)];exact g b u q
theorem zAY {α:Type}{as:List α}{i:Nat}{a:α}(h:as[i]?=some a):as.take (i+1)=as.take i++[a]:=by
 rw[List.take_add_one,h];rfl
noncomputable def Atom.names:Atom->List Str
 |.name x=>[x]
 |_=>[]
noncomputable def Tr.names:Tr->List Str
 |.name x=>[x]
 |.gap _ as=>as.flatMap Atom.names
 |_=>[]
theorem iteN {c:Prop} [Decidable c] {A B:Prop}(hc:¬c) (h:B):if decide c=true then A else B:=by rw[if_neg (by rw[decide_eq_false hc];exact lZ)];exact h
theorem zAf {n:Nat}(h:n<=1000):n<=sizeLine:=Nat.le_of_lt (zAR h)
noncomputable def zDS:List Expr->Option (List V)
 |[]=>some []
 |.Constant (.str x) _ _::r=>(zDS r).map λ l=>V.str x::l
 |.Constant (.int i) _ _::r=>(zDS r).map λ l=>V.int i::l
 |_=>none
def tRow (vs:List V):TA:=λ Ω H Q=>Q vs H
theorem zLC {X:Cx}{es:List Expr}:∀(vs:List V),zDS es=some vs->PA X es (tRow vs):=by
 induction es with
 |nil=>intro vs h;cases h;exact zAD
 |cons e r ih =>
  intro vs h;cases e with
  |Constant c j p =>
   cases c with
   |str x =>
    obtain⟨l,hl,e⟩:=lX.mp (show (zDS r).map (λ l=>V.str x::l)=some vs from h);subst e;exact zAA zAe (ih l hl)
   |int x =>
    obtain⟨l,hl,e⟩:=lX.mp (show (zDS r).map (λ l=>V.int x::l)=some vs from h);subst e;exact zAA zAH (ih l hl)
   |_=>cases h
  |_=>cases h
noncomputable def rowT:Expr->Option (List V)
 |.Tuple es _ _=>zDS es
 |_=>none
noncomputable def rowL:Expr->Option (List V)
 |.List es _=>zDS es
 |_=>none
theorem zER {X:Cx}{e:Expr}(vs:List V) (h:rowT e=some vs):PE X e (tTup (tRow vs)):=by
 unfold rowT at h;split at h
 ·exact zAZ (zLC vs h)
 ·cases h
theorem zES {X:Cx}{e:Expr}(vs:List V) (h:rowL e=some vs):PE X e (tLst (tRow vs)):=by
 unfold rowL at h;split at h
 ·exact zA8 (zLC vs h)
 ·cases h
abbrev DRow:=Str × (Str ⊕ Int)
abbrev En:=Str->Int
abbrev Res:=List DRow × (Int ⊕ Str)
noncomputable def askR (x:Str):DRow:=("ask", .inl x)
noncomputable def sayR (n:Int):DRow:=("say", .inr n)
noncomputable def Bin.op:Bin->Int->Int->Int
 |.add,m,n=>(m+n) % 10 ^ 30
 |.sub,m,n=>(m - n) % 10 ^ 30
 |.mul,m,n=>(m * n) % 10 ^ 30
 |.thn,_,n=>n
noncomputable def En.set (e:En) (x:Str) (n:Int):En:=λ y=>if y=x then n else e y
noncomputable def pre (D:List DRow) (o:Option Res):Option Res:=o.map λ q=>(D++q.1,q.2)
noncomputable def seqR (r:Option Res) (k:Int->Option Res):Option Res:=r.bind λ r=>match r.2 with
 |.inr w=>some (r.1,.inr w)
 |.inl n=>pre r.1 (k n)
noncomputable def ev (a:En):Tr->En->Option Res
 |.num n,_=>some ([],.inl n)
 |.name x,e=>some ([],.inl (e x))
 |.ask x,_=>some ([askR x],.inl (a x))
 |.stop x,_=>some ([],.inr x)
 |.gap _ _,_=>none
 |.say t,e=>seqR (ev a t e) λ n=>some ([sayR n],.inl n)
 |.bin o s t,e=>seqR (ev a s e) λ m=>seqR (ev a t e) λ n=>some ([],.inl (o.op m n))
 |.ite c s t,e=>seqR (ev a c e) λ n=>if n=0 then ev a t e else ev a s e
 |.lett x s t,e=>seqR (ev a s e) λ n=>ev a t (e.set x n)
noncomputable def aft (a:En) (t:Tr) (e:En) (E:List Int):Option (Option Res × List Int) :=
 match t with
 |.say _=>match E with
  |n::E=>some (some ([sayR n],.inl n),E)
  |_=>none
 |.bin .thn _ t=>match E with
  |_::E=>some (ev a t e,E)
  |_=>none
 |.bin o _ _=>match E with
  |n::m::E=>some (some ([],.inl (o.op m n)),E)
  |_=>none
 |.ite _ s t=>match E with
  |n::E=>some (if n=0 then ev a t e else ev a s e,E)
  |_=>none
 |.lett x _ t=>match E with
  |n::E=>some (ev a t (e.set x n),E)
  |_=>none
 |_=>none
abbrev Item:=Tr × En × Bool
noncomputable def cont (a:En):List Item->List Int->Option Res
 |[],[]=>none
 |[],n::_=>some ([],.inl n)
 | (t,e,false)::W,E=>seqR (ev a t e) λ n=>cont a W (n::E)
 | (t,e,true)::W,E=>(aft a t e E).bind λ p=>seqR p.1 λ n=>cont a W (n::p.2)
def tOrT (K:W.Frag) (ta tb:TE):TE:=λ σ H Q=>ta σ H λ x H1=>∃k,TruV K x H1 k/\if k=true then Q x H1 else tb σ H1 Q
theorem zLA {X:Cx}{a b:Expr}{rest:List Expr}{pos:Pos}{ta tb:TE}(ha:PE X a ta) (hb:PE X (.BoolOp .Or (b::rest) pos) tb):PE X (.BoolOp .Or (a::b::rest) pos) (tOrT X.K ta tb):=by
 intro jP s σ H Q I h;refine BoolOp_or (thn (ha jP s σ H _ I h) λ v s1 ⟨x,H1,I1,r1,k,e1,q1⟩=>?_);refine thn (zKx jP s1 σ H1 x v (λ c H2=>if c=true then Q x H2 else tb σ H2 Q) I1 r1 ⟨k,e1,q1⟩) λ c s2 ⟨H2,I2,q2⟩=>?_;cases c with
 |true=>exact⟨x,H2,I2,r1,q2⟩
 |false=>exact hb jP s2 σ H2 Q I2 q2
structure FunD (K:W.Frag) (x qual:Str) (st:Stmt) (f:Addr) (fd:FuncData) (dvs:List Value):Prop where
 ex:∃(oc:Value) (od:Option Addr) (kV doc pm:Value) (an:Option Addr) (cdv ct:Value) (osl:Array (Option Value)) (dt:Addr) (o:Obj) (n:Nat),
  fd=W.fnOf x qual (zBF st) (zAz st) (zAM st) (.ref dt) kV doc pm an cdv ct/\K.lookup f=some ⟨oc,od,.func fd,osl⟩/\W.codeIn K cdv qual=true/\K.lookup dt=some o/\o.data = .seq dvs.toArray n
 kp:W.keepIn K (.ref f)=true
section
variable {P:Program}{w:World}{K:W.Frag}{mg:Str->Option Value}{base:Heap}
theorem FunD.ok {x qual:Str}{st:Stmt}{f:Addr}{fd:FuncData}{dvs:List Value}{N ps:List Str}{k:Nat}{sp:Sp}(F:FunD K x qual st f fd dvs) (S:zAW N ps (zAM st)) (len:∀vs H Q E,sp vs H Q E->vs.length=ps.length)
  (hbody:∀(cdv:Value) (A:Around) (outer:List Env) (s:Shared) (H:Hp) (vs:List V) (Q:VK) (E:XK),Room k (A.deeper (envOfC qual (zAM st) s.heap.objs.size f cdv))->sp vs H Q E ->
   ∃t,PSs (cxOf CX0 P w K mg base N qual (zAM st) f cdv A outer s H E).nox (zAz st) t/\t { nx:=λ Ω H'=>Q .non H',rt:=Q } (start N vs) H):FnOk P w K mg base CX0 (k+1) f fd ps sp:=by
 obtain⟨oc,od,kV,doc,pm,an,cdv,ct,osl,dt,o,n,rfl,lk,hcd,_⟩:=F.ex;refine fn_of lk hcd S len λ A outer s H vs Q E hr hsp=>?_;obtain⟨t,h,q⟩:=hbody cdv A outer s H vs Q E hr hsp;exact⟨t,h.nox,q⟩
theorem zGy {x qual:Str}{st:Stmt}{f dt:Addr}{oc:Value}{od an:Option Addr}{osl:Array (Option Value)}{kV doc pm cdv ct:Value}{o:Obj}{dvs:List Value}{n:Nat}(l:K.lookup f=some ⟨oc,od,.func (W.fnOf x qual (zBF st) (zAz st) (zAM st) (.ref dt) kV doc pm an cdv ct),osl⟩)
  (c:W.codeIn K cdv qual=true) (k:W.keepIn K (.ref f)=true) (ld:K.lookup dt=some o) (hd:o.data = .seq dvs.toArray n):FunD K x qual st f (W.fnOf x qual (zBF st) (zAz st) (zAM st) (.ref dt) kV doc pm an cdv ct) dvs :=
 ⟨⟨oc,od,kV,doc,pm,an,cdv,ct,osl,dt,o,n,rfl,l,c,ld,hd⟩,k⟩
theorem zGe:Vals [V.non] [Value.none]:=.cons rfl .nil
end
theorem zHS:Manifest.owners.lookup (String.ofList ['d', 'e', 's', 'r', 'e', 'v', 'e', 'r'].reverse)=some Manifest.sig_reversed:=by kernel_rfl
theorem zEN:Slot "reversed" "__next__" "reversed.__next__" := .of (owner := "reversed") (n := "__next__") (by rw[typeLookup_type,builtinLookup_eq_fast];kernel_rfl) (by right) (by right) (by right) (by first|exact .inl (by right)|exact .inr (by right)) (by rw[isSubtype_type];kernel_rfl)
theorem zDZ:entryFor table "reversed.__next__" = some Builtin.«reversed.__next__»:=entryFor_of_tree (by kernel_rfl)
theorem zD4 (a:Value):argsOk "reversed.__next__" ⟨[a],[]⟩:=by unfold argsOk;rw[signature?_of (id := "reversed.__next__") (n:=['_', '_', 't', 'x', 'e', 'n', '_', '_']) (o:=['d', 'e', 's', 'r', 'e', 'v', 'e', 'r']) (by kernel_rfl) zHS];kernel_rfl
theorem zIi:Slot "reversed" "__iter__" "reversed.__iter__" := .of (owner := "reversed") (n := "__iter__") (by rw[typeLookup_type,builtinLookup_eq_fast];kernel_rfl) (by right) (by right) (by right) (by first|exact .inl (by right)|exact .inr (by right)) (by rw[isSubtype_type];kernel_rfl)
theorem zFy (a:Value):argsOk "reversed.__iter__" ⟨[a],[]⟩:=by unfold argsOk;rw[signature?_of (id := "reversed.__iter__") (n:=['_', '_', 'r', 'e', 't', 'i', '_', '_']) (o:=['d', 'e', 's', 'r', 'e', 'v', 'e', 'r']) (by kernel_rfl) zHS];kernel_rfl
theorem zFP:entryFor table "reversed.__iter__" = some Builtin.«dict_keyiterator.__iter__»:=entryFor_alias (id' := "dict_keyiterator.__iter__") (by kernel_rfl) (by first|rfl|right|(unfold String.splitOn;simp +decide [String.splitOnAux])) (by right) (by kernel_rfl)
theorem zLc:Slot "reversed" "__init__" "object.__init__" := .of (owner := "object") (n := "__init__") (by rw[typeLookup_type,builtinLookup_eq_fast];kernel_rfl) (by right) (by right) (by right) (by first|exact .inl (by right)|exact .inr (by right)) (by rw[isSubtype_type];kernel_rfl)
theorem zIj:TypeCalled "reversed" "reversed.__new__" "object.__init__" := ⟨by right,F.create_reversed,⟨_,_,F.mro_reversed⟩,F.made_reversed,F.plain_reversed_new,F.sub_reversed_self,zLc⟩
theorem zH4:typeLookup (.type "tuple") "__reversed__" = pure none:=by rw[typeLookup_type,builtinLookup_eq_fast];kernel_rfl
noncomputable def rvObj (l:Addr) (i:Int):Obj:={ cls:=.type "reversed", data:=.fields #[.ref l,rawInt i] }
theorem zIF (l:Addr) (items:Array Value) (hz:(items.size:Int)<2 ^ 63) :
  Meets (Builtin.«reversed.__new__» ⟨[.type "reversed", .ref l],[]⟩) (λ Ω R s=>IsTup s.heap l items/\R (.ok (.ret (.ref s.heap.objs.size))) { s with heap:=s.heap.push (rvObj l ((items.size:Int) - 1)),toks:=s.toks+1+1 }) :=
 .of_wp λ prog w A R s h=>by
  obtain⟨ht,h⟩:=h;unfold Builtin.«reversed.__new__»;refine lC (wpAny_of_eq (newClass_reversed _) ?_);dsimp only;refine lC (wpAny_of_eq (a:=()) (by first|rfl|kernel_rfl) ?_);refine lC (wpAny_of_eq (a:=()) (by first|rfl|kernel_rfl) ?_);try dsimp only
  refine lC (wpAny_specialOf ht.typeIs zH4 ?_);dsimp only;refine lC ?_;show wpAny _ _ (isInstance (.ref l) (.type "dict") >>= _) _ _ s;refine lC (wpAny_isInstance ht.typeIs F.sub_tuple_dict ?_);show wpAny _ _ (specialOf (.ref l) "__getitem__" >>= _) _ _ s;refine lC (wpAny_specialOf ht.typeIs slot_tuple_getitem.lookup ?_);dsimp only;rw[if_pos 69];refine lD ?_;show wpAny _ _ (call (.builtin "len") [.ref l] >>= _) _ _ s;refine lC (len_tuple ht hz ?_);refine lC (wpAny_of_eq (a:=some (items.size:Int)) rfl ?_);dsimp only;refine lC ?_;unfold Builtin.SmallTypes.newRecord;dsimp only;refine wpAny_newObj_type ?_ (by size_fits);exact lD ⟨_,rfl,h⟩
section
variable {prog:Program}{w:World}{A:Around}{E:XQ}{s:Shared}
theorem zJ1 {l:Addr}{items:Array Value}{Q:XQ}(ht:IsTup s.heap l items) (hz:(items.size:Int)<2 ^ 63) (h:Q (.ref s.heap.objs.size) { s with heap:=s.heap.push (rvObj l ((items.size:Int) - 1)),toks:=s.toks+1+1 }) :
  wpAny 90 A (call (.type "reversed") [.ref l]) Q E s:=by
 refine callType_new zIj 69 (F.typeCall_reversed_1 _) (F.newCall_reversed_1 _) (λ obj=>F.args_object_init_2 obj _) F.entry_reversed_new (zIF l items hz) ⟨ht,?_⟩;exact⟨⟨_,lI _ rfl,rfl⟩,h⟩
theorem zJe {it t:Addr}{i:Int}{Q:XQ}(hit:s.heap.get? it=some (rvObj t i)) (h:Q (.ref it) s):wpAny 90 A (pyIter (.ref it)) Q E s:=by
 have hT:s.TypeIs (.ref it) "reversed" := ⟨_,hit,rfl⟩;refine wpAny_pyIter_slot hT zIi (wpAny_call_entry zIi hT zFP ?_ (zFy _));show wpAny _ _ (ret (.ref it)) _ _ s;exact lD ⟨_,rfl, "reversed", _,hT,zEN.lookup,h⟩
theorem zL1 {it t:Addr}{i:Nat}{items:Array Value}{x:Value}{Q:Option Value->Shared->Prop}(hit:s.heap.get? it=some (rvObj t (i:Int))) (ht:IsTup s.heap t items) (hne:t≠it) (hz:(items.size:Int)<2 ^ 63) (hx:items[i]?=some x)
  (hQ:∀h' tk,h'.get? it=some (rvObj t ((i:Int) - 1))->Heap.SameBut it s.heap h'->Q (some x) { s with heap:=h',toks:=tk }):wpAny 90 A (pyNext (.ref it)) Q E s:=by
 have hT:s.TypeIs (.ref it) "reversed" := ⟨_,hit,rfl⟩
 have hi:i<items.size:=by
  rcases Nat.lt_or_ge i items.size with h|h
  ·exact h
  ·rw[Array.getElem?_eq_none h] at hx;cases hx
 unfold pyNext;refine lC (wpAny_attempt (wpAny_callSpecial?_slot (name:=Str.ofString "__next__") hT zEN (wpAny_call_entry zEN hT zDZ ?_ (zD4 _))));unfold Builtin.«reversed.__next__»;refine lC (wpAny_of_eq (a:=(Value.ref it,[])) rfl ?_);dsimp only;refine lC (wpAny_field hit rfl (x:=.ref t) rfl ?_);refine lC (wpAny_field hit rfl (x:=rawInt (i:Int)) rfl ?_);show wpAny _ _ (if (i:Int)<0 then _ else _) _ _ s;rw[if_neg 61];show wpAny _ _ (specialOf (.ref t) "__getitem__" >>= _) _ _ s;refine lC (wpAny_specialOf ht.typeIs slot_tuple_getitem.lookup ?_);rw[if_neg 69];show wpAny _ _ (mkInt (i:Int) >>= _) _ _ s;refine lC (wpAny_mkInt ?_);refine lC (wpAny_attempt (getItem_tuple (j:=i) (x:=x) ht 61 61 (seqIndex_of 61 61) hx ?_));dsimp only;refine lC (wpAny_field hit rfl (x:=rawInt (i:Int)) rfl ?_);refine lC (wpAny_setField_rec hit 68 λ q1 h1 hs1=>?_);refine lD ⟨x,rfl,lD (hQ q1 _ ?_ hs1)⟩;exact h1
theorem zMy {it t:Addr}{i:Int}{Q:Option Value->Shared->Prop}(hh:A.handled=none) (hit:s.heap.get? it=some (rvObj t i)) (hi:i<0)
  (hQ:∀h' tk,Heap.ExtBut it s.heap h'->Q none { s with heap:=h',toks:=tk }):wpAny 90 A (pyNext (.ref it)) Q E s:=by
 have hT:s.TypeIs (.ref it) "reversed" := ⟨_,hit,rfl⟩;unfold pyNext;refine lC (wpAny_attempt (wpAny_callSpecial?_slot (name:=Str.ofString "__next__") hT zEN (wpAny_call_entry zEN hT zDZ ?_ (zD4 _))));unfold Builtin.«reversed.__next__»;refine lC (wpAny_of_eq (a:=(Value.ref it,[])) rfl ?_);dsimp only;refine lC (wpAny_field hit rfl (x:=.ref t) rfl ?_);refine lC (wpAny_field hit rfl (x:=rawInt i) rfl ?_);show wpAny _ _ (if i<0 then _ else _) _ _ s;rw[if_pos hi];refine lC (wpAny_rule ?_);refine lC ?_;show wpAny _ _ (setField (.ref it) 1 (rawInt (-1)) >>= _) _ _ s;refine lC (wpAny_setField_rec hit 68 λ q1 h1 hs1=>?_);refine wpAny_setField_rec h1 68 λ q2 h2 hs2=>?_;refine lC ?_;show wpAny _ _ (newExc (.type "StopIteration") [] >>= _) _ _ _;refine lC ?_;simp only[newExc,newTuple];refine lC (wpAny_newObj_type ?_ (by size_fits));refine lC (m:=firstArgMember _ _) (wpAny_of_eq (a:=Value.none) (by first|rfl|(simp only[firstArgMember];rfl)) ?_);refine wpAny_newObj_type ?_ (by size_fits);simp only[raiseNew];refine lC (wpAny_handled ?_);first|rw[show A.in1.handled=none from hh]|rw[hh]
 refine lC (lD (wpAny_throw ?_));refine lC (wpAny_isInstance (T := "StopIteration") (b:=true) ⟨_,lI _ rfl,rfl⟩ isSubtype_stop ?_);exact lD (hQ _ _ (((hs1.extBut.trans hs2.extBut).push _).push _))
end
noncomputable def Itv (K:W.Frag) (a:Addr) (n:Nat):It :=
 ⟨λ i H=>i<n/\∃xs x,SqT K H a xs/\xs.length=n/\xs[n - 1 - i]?=some x,λ i H x H'=>H'=H/\∀xs,SqT K H a xs->xs[n - 1 - i]?=some x,λ i Ω=>n<=i⟩
theorem zLV {P:Program}{w:World}{K:W.Frag}{tg:Expr}(a it:Addr) (n:Nat):Turn P w K tg (Itv K a n) [it] it (λ i h=>h.get? it=some (rvObj a ((n:Int) - 1 - (i:Nat)))) where
 mem:=by simp
 obj:=λ i h st b hb=>by
  have e:b=it:=by simpa using hb
  subst e;exact⟨_,st,λ v z=>by have z':Data.fields _=Data.cell v:=z;cases z'⟩
 keep:=λ i h h' st k=>k it 68 _ st
 item:=by
  intro X hP hw hK hc i jP s σ H E I hf st hg;subst hP hw hK;obtain⟨hin,xs,x,hq,hl,hx⟩:=hg;obtain⟨its,rv,p,hz⟩:=I.tuple hq;obtain⟨u,hu,ru⟩:=rv.get hx;obtain⟨f0,f1,f2,f3,f4,f5⟩:=hf it 68;have hn:=zDe;have hlv:=rv.length
  have hai:a≠it:=λ z=>by
   obtain⟨o1,q1,c1,_⟩:=p;rw[z,st] at q1;cases q1;injection c1 with c3;exact absurd c3 69
  have e:(n:Int) - 1 - (i:Nat)=((n - 1 - i:Nat):Int):=by lia
  rw[e] at st;refine zL1 st p hai (by rw[mF];lia) (x:=u) (by simpa using hu) λ h' tk st' sb=>?_;have I1:Inv X jP σ H { s with heap:=h',toks:=tk }:=I.turned (t':=tk) (λ b o hb e=>(sb.2 b hb).trans e) f0 f1 f3 f4 f5;refine⟨u,rfl,go_of (s:={ s with heap:=h',toks:=tk }) (n := "reversed") st' rfl rfl 69 ⟨x,H,I1,ru,⟨rfl,λ ys hy=>by rw[I.tuple_inj hy hq];exact hx⟩,?_,λ b hb=>(hf b hb).1⟩⟩;have e2:(n:Int) - 1 - ((i+1:Nat):Int)=((n - 1 - i:Nat):Int) - 1:=by lia
  show h'.get? it=some (rvObj a ((n:Int) - 1 - ((i+1:Nat):Int)));rw[e2];exact st'
 done:=by
  intro X hP hw hK hc i jP s σ H E I hf st hg;subst hP hw hK;obtain⟨f0,f1,f2,f3,f4,f5⟩:=hf it 68;have hg':n<=i:=hg;exact zMy (I.ok.hd hc) st 61 λ h' tk eb=>⟨rfl,I.turned (t':=tk) (λ b o hb e=>eb b o hb e) f0 f1 f3 f4 f5⟩
 self:=λ Ω Ω Ω Ω Ω st h=>zJe st h
def iRev (K:W.Frag) (ta:TA):TI:=λ σ H R=>ta σ H λ vs H1=>∃a,vs=[.ref a]/\∃xs,SqT K H1 a xs/\R (Itv K a xs.length) H1
theorem zLm {X:Cx}{tg a:Expr}{ta:TA}{p pos:Pos}(hg:Gl X "reversed") (hm:X.mg "reversed" = none) (ha:PA X [a] ta) (hs:starEach [a] X.env=[(false,eval a X.env)]:=by rfl):PI X tg (.Call (.Name "reversed" p) [a] [] pos) (iRev X.K ta):=by
 intro jP s σ H R I h;refine Call_ (zCI I hg hm boot_reversed (PyProof.Rows.callWith_type1 98 hs rfl));obtain⟨b,e,xs,hq,q⟩:=q1;subst e;obtain⟨u,rfl,ru⟩:=vals1 r1;cases ru;obtain⟨its,rv,tp,hz⟩:=I1.tuple hq;have hl:=rv.length;have hn:=zDe;refine zJ1 tp (by rw[mF];lia) ?_;have hnew:(s1.heap.push (rvObj b ((its.toArray.size:Int) - 1))).get? s1.heap.objs.size=some (rvObj b ((its.toArray.size:Int) - 1)):=lI _ rfl;refine zJe hnew ⟨_,[s1.heap.objs.size],_,_,H1,rfl,I1.kept (t':=s1.toks+1+1) (λ c o e=>lH _ e),zLV b _ xs.length,?_,λ c hc=>?_,q⟩
 ·show _=some (rvObj b ((xs.length:Int) - 1 - ((0:Nat):Int)))
  rw[hnew,mF,hl];simp
 ·have e:=mQ.mp hc
  subst e;exact I1.fpOk (lS _) (I1.hok.fresh (lS _))
theorem zL9 {K:W.Frag}{a:Addr}{xs:List V}{g:TG}{tb:TS}{D:Ends}{σ:St}{H:Hp}(Pv:Nat->St->Hp->Prop) (h0:Pv 0 σ H) (hl:∀i σ H,i<=xs.length->Pv i σ H->SqT K H a xs)
  (hs:∀i x σ H,i<xs.length->xs[xs.length - 1 - i]?=some x->Pv i σ H->g x σ H λ σ2 H2=>tb { D with nx:=Pv (i+1),ct:=Pv (i+1),bk:=D.nx } σ2 H2) (hd:∀σ H,Pv xs.length σ H->D.nx σ H) :
  ∃W:Nat->Nat->St->Hp->Prop,(∃m,W 0 m σ H)/\∀i m σ H,W i m σ H ->
   ((Itv K a xs.length).stop i H/\D.nx σ H)\/((Itv K a xs.length).go i H/\∃N:St->Hp->Prop,95/\∀x H',(Itv K a xs.length).yld i H x H'->g x σ H' λ σ2 H2=>tb { D with nx:=N,ct:=N,bk:=D.nx } σ2 H2):=by
 refine⟨λ i m σ H=>m=xs.length - i/\i<=xs.length/\Pv i σ H,⟨xs.length,by simp,mB _,h0⟩,?_⟩;rintro i m σ H ⟨rfl,hi,p⟩;have q:=hl i σ H hi p
 by_cases hlt:i<xs.length
 ·have hk:xs.length - 1 - i<xs.length:=by lia
  refine .inr ⟨⟨hlt,xs,xs[xs.length - 1 - i],q,rfl,by simp[hk]⟩,Pv (i+1),λ σ' H' p'=>⟨xs.length - (i+1),by lia,rfl,hlt,p'⟩,λ x H' y=>?_⟩;obtain⟨eH,y⟩:=y;subst eH;exact hs i x σ _ hlt (y xs q) p
 ·have e:i=xs.length:=by lia
  subst e;exact .inl ⟨lS _,hd σ H p⟩
theorem zDT {lo:Int}{n:Nat}{acc:Addr}{g:TG}{tt:TT}{te:TE}{σ:L2.St}{H:Hp}{R:Hp->Prop}(Pv:Nat->Hp->Prop) (h0:Pv 0 (upd H acc (.lst [])))
  (hs:∀i H,i<n->Pv i H->g (.int (lo+i)) σ H λ σ2 H4=>Ext σ σ2/\tt σ2 H4 λ b H5 =>
   if b=true then te σ2 H5 λ y H6=>∃zs,H6 acc=some (.lst zs)/\zs.length<sizeLine/\Pv (i+1) (upd H6 acc (.lst (zs++[y]))) else Pv (i+1) H5) (hd:∀H,Pv n H->R H) :
  ∃W:Nat->Nat->Hp->Prop,(∃m,W 0 m (upd H acc (.lst [])))/\∀i m H2,W i m H2 ->
   ((Itr lo n).stop i H2/\R H2)\/((Itr lo n).go i H2/\∃N:Hp->Prop,(∀H',N H'->∃m',m'<m/\W (i+1) m' H')/\∀x H3,(Itr lo n).yld i H2 x H3->g x σ H3 λ σ2 H4=>Ext σ σ2/\tt σ2 H4 λ b H5 =>
    if b=true then te σ2 H5 λ y H6=>∃zs,H6 acc=some (.lst zs)/\zs.length<sizeLine/\N (upd H6 acc (.lst (zs++[y])))
    else N H5):=zIK (Q:=λ Ω H=>R H) Pv h0 hs hd
noncomputable def Itr2 (n:Nat):It:=⟨λ i Ω=>i<n,λ i H x H'=>H'=H/\x = .int ((i:Int) * 2),λ i Ω=>n<=i⟩
theorem zGf {P:Program}{w:World}{K:W.Frag}{tg:Expr}(it:Addr) (n:Nat):Turn P w K tg (Itr2 n) [it] it (λ i h=>IsRangeIter h it (0+(i:Nat) * 2) ((n:Int) - (i:Nat)) 2) where
 mem:=by simp
 obj:=λ i h st b hb=>by
  have e:b=it:=by simpa using hb
  subst e;exact⟨_,st,λ v z=>by have z':Data.fields _=Data.cell v:=z;cases z'⟩
 keep:=λ i h h' st k=>k it 68 _ st
 item:=by
  intro X hP hw hK hc i jP s σ H E I hf st hg;subst hP hw hK;obtain⟨f0,f1,f2,f3,f4,f5⟩:=hf it 68;refine(Walks.range (prog:=X.prog) (w:=X.w) (I.ok.hd hc) it 0 2 n).item i s _ _ hg st λ v h' tk hv st' kk=>?_;obtain⟨t,rfl⟩:=hv;have I1:Inv X jP σ H { s with heap:=h',toks:=tk }:=I.turned (λ b o hb e=>kk b o (by simpa using hb) e) f0 f1 f3 f4 f5;refine⟨_,rfl,go_of (s:={ s with heap:=h',toks:=tk }) (n := "range_iterator") st' rfl rfl 69 ⟨.int ((i:Int) * 2),H,I1,⟨t,by rw[Int.zero_add]⟩,⟨rfl,rfl⟩,st',λ b hb=>(hf b hb).1⟩⟩
 done:=by
  intro X hP hw hK hc i jP s σ H E I hf st hg;subst hP hw hK;obtain⟨f0,f1,f2,f3,f4,f5⟩:=hf it 68;exact wpAny_pyNext_range_end (I.ok.hd hc) st (by have:n<=i:=hg;lia) λ h' eb=>⟨rfl,I.turned (t':=s.toks) (λ b o hb e=>eb b o hb e) f0 f1 f3 f4 f5⟩
 self:=λ Ω Ω Ω Ω Ω st h=>wpAny_pyIter_rangeiter st h
def iRng3 (ta:TA):TI:=λ σ H R=>ta σ H λ vs H1=>∃j:Int,vs=[.int 0,.int j,.int 2]/\0<=j/\j<1000/\R (Itr2 ((j+1) / 2).toNat) H1
theorem zHR {j:Int}(h:0<=j):Builtin.Range.rangeSize 0 j 2=(j+1) / 2:=by
 unfold Builtin.Range.rangeSize;rw[if_pos 69];split<;>lia
theorem zIe {j:Int}(h:0<=j) (h':j<1000):Builtin.Range.small 0 j 2=true:=by
 unfold Builtin.Range.small;rw[zHR h];simp only[Builtin.Range.rangeFitsLong,Bool.and_eq_true,Bool.or_eq_true,decide_eq_true_eq,beq_iff_eq,show (2:Int) > 0 by decide,if_true]
 lia
theorem zIp {X:Cx}{tg a b c:Expr}{ta:TA}{p pos:Pos}(hg:Gl X "range") (hm:X.mg "range" = none) (ha:PA X [a,b,c] ta) (hs:starEach [a,b,c] X.env=(false,eval a X.env)::starEach [b,c] X.env:=by rfl) (hs2:(backTo pos (starEach [b,c] X.env)).any (·.1)=false:=by rfl) :
  PI X tg (.Call (.Name "range" p) [a,b,c] [] pos) (iRng3 ta):=by
 intro jP s σ H R I h;refine Call_ (zCI I hg hm boot_range (PyProof.Rows.callWith_type1 98 hs hs2));obtain⟨j,e,j0,j1,q⟩:=q1;subst e;cases r1 with
 |cons r rr =>
  cases rr with
  |cons r' rr =>
   cases rr with
   |cons r'' rr =>
    cases rr;obtain⟨t,rfl⟩:=r;obtain⟨t',rfl⟩:=r';obtain⟨t'',rfl⟩:=r'';refine call_range_3 69 ?_ (.inl (PyProof.noPylong_small 69));refine wpAny_pyIter_range (IsRange.new ..) (zIe j0 j1) ?_;have I2:Inv X jP σ H1 { s1 with heap:=s1.heap.push { cls:=.type "range", data:=.fields #[.int 0 t,.int j t',.int 2 t''] } }:=I1.kept (t':=s1.toks) λ b o e=>lH _ e
    refine⟨(s1.heap.push { cls:=.type "range", data:=.fields #[.int 0 t,.int j t',.int 2 t''] }).objs.size,[(s1.heap.push { cls:=.type "range", data:=.fields #[.int 0 t,.int j t',.int 2 t''] }).objs.size],_,_,H1,rfl,
     I2.kept (t':=s1.toks) λ b o e=>lH _ e,zGf _ ((j+1) / 2).toNat,?_,λ b hb=>?_,q⟩
    ·have e1:(0:Int)+((0:Nat):Int) * 2=0:=by simp
     have e2:((((j+1) / 2).toNat:Nat):Int) - ((0:Nat):Int)=Builtin.Range.rangeSize 0 j 2:=by rw[zHR j0];lia
     show IsRangeIter _ _ ((0:Int)+((0:Nat):Int) * 2) (((((j+1) / 2).toNat:Nat):Int) - ((0:Nat):Int)) 2;rw[e1,e2];exact lI _ rfl
    ·have e:=mQ.mp hb
     subst e;exact I2.fpOk (lS _) (I2.hok.fresh (lS _))
theorem zBd {K:W.Frag}{a:Addr}{xs:List V}{acc:Addr}{g:TG}{tt:TT}{te:TE}{σ:L2.St}{H:Hp}{R:Hp->Prop}(Pv:Nat->Hp->Prop) (h0:Pv 0 (upd H acc (.lst []))) (hl:∀i H,i<=xs.length->Pv i H->SqL K H a xs)
  (hs:∀i x H,xs[i]?=some x->Pv i H->g x σ H λ σ2 H4=>Ext σ σ2/\tt σ2 H4 λ b H5 =>
   if b=true then te σ2 H5 λ y H6=>∃zs,H6 acc=some (.lst zs)/\zs.length<sizeLine/\Pv (i+1) (upd H6 acc (.lst (zs++[y]))) else Pv (i+1) H5) (hd:∀H,Pv xs.length H->R H) :
  ∃W:Nat->Nat->Hp->Prop,(∃m,W 0 m (upd H acc (.lst [])))/\∀i m H2,W i m H2 ->
   ((Itl K a).stop i H2/\R H2)\/((Itl K a).go i H2/\∃N:Hp->Prop,(∀H',N H'->∃m',m'<m/\W (i+1) m' H')/\∀x H3,(Itl K a).yld i H2 x H3->g x σ H3 λ σ2 H4=>Ext σ σ2/\tt σ2 H4 λ b H5 =>
    if b=true then te σ2 H5 λ y H6=>∃zs,H6 acc=some (.lst zs)/\zs.length<sizeLine/\N (upd H6 acc (.lst (zs++[y])))
    else N H5):=by
 refine⟨λ i m H=>m=xs.length - i/\i<=xs.length/\Pv i H,⟨xs.length,by simp,mB _,h0⟩,?_⟩;rintro i m H2 ⟨rfl,hi,p⟩;have q:=hl i H2 hi p
 by_cases hlt:i<xs.length
 ·refine .inr ⟨⟨xs,xs[i],q,by simp[hlt]⟩,Pv (i+1),λ H' p'=>⟨xs.length - (i+1),by lia,rfl,hlt,p'⟩,λ x H' y=>?_⟩
  obtain⟨e,y⟩:=y;subst e;exact hs i x _ (y xs q) p
 ·have e:i=xs.length:=by lia
  subst e;exact .inl ⟨⟨xs,q,lS _⟩,hd H2 p⟩
theorem zGO:∀{ns:List Int}{us:List Value},Vals (ns.map V.int) us->IntsAre us ns
 |[],_,h=>by cases h;exact .nil
 |n::ns,_,h=>by
  cases h with
  |cons r t =>
   obtain⟨tk,rfl⟩:=r;exact .cons n tk (zGO t)
theorem zGU {X:Cx}(hc:X.calm=true):CallR X (.builtin "max") (λ xs H Q=>E2 λ(l:Addr) (ns:List Int)=>A4 (xs=[.ref l]) (H l=some (.lst (ns.map V.int))) (0<ns.length) (∀M:Int,Q (.int M) H)):=by
 intro jP s σ H xs us Q I r h;obtain⟨l,ns,rfl,hl,hn,q⟩:=h;obtain⟨u,rfl,ru⟩:=vals1 r;cases ru;obtain⟨_,its,n,rv,le,e⟩:=I.lstM hl;have L1:s.heap.IsList l its.toArray:=⟨_,e,rfl,_,rfl⟩;have hi:=zGO rv;obtain⟨xs,ex⟩:=hi.allInts.items;rw[ex] at L1
 have hsz:0<xs.size:=by
  have h1:its.toArray.size=its.length:=by simp
  have h2:=congrArg Array.size ex;rw[h1,←le,lE] at h2;have h3:(intItems xs).size=xs.size:=by simp[intItems]
  lia
 refine max_intList (I.ok.hd hc) L1 hsz λ v h' tk hv hk=>?_;obtain⟨t,rfl⟩:=intItems_at hv;exact⟨.int _,H,I.kept hk,⟨t,rfl⟩,q _⟩
theorem zGR {n:Nat}{acc:Addr}{g:TG}{tt:TT}{te:TE}{σ:L2.St}{H:Hp}{R:Hp->Prop}(Pv:Nat->Hp->Prop) (h0:Pv 0 (upd H acc (.lst [])))
  (hs:∀i H,i<n->Pv i H->g (.int ((i:Int) * 2)) σ H λ σ2 H4=>Ext σ σ2/\tt σ2 H4 λ b H5 =>
   if b=true then te σ2 H5 λ y H6=>∃zs,H6 acc=some (.lst zs)/\zs.length<sizeLine/\Pv (i+1) (upd H6 acc (.lst (zs++[y]))) else Pv (i+1) H5) (hd:∀H,Pv n H->R H) :
  ∃W:Nat->Nat->Hp->Prop,(∃m,W 0 m (upd H acc (.lst [])))/\∀i m H2,W i m H2 ->
   ((Itr2 n).stop i H2/\R H2)\/((Itr2 n).go i H2/\∃N:Hp->Prop,(∀H',N H'->∃m',m'<m/\W (i+1) m' H')/\∀x H3,(Itr2 n).yld i H2 x H3->g x σ H3 λ σ2 H4=>Ext σ σ2/\tt σ2 H4 λ b H5 =>
    if b=true then te σ2 H5 λ y H6=>∃zs,H6 acc=some (.lst zs)/\zs.length<sizeLine/\N (upd H6 acc (.lst (zs++[y])))
    else N H5):=by
 refine⟨λ i m H=>m=n - i/\i<=n/\Pv i H,⟨n,by simp,mB _,h0⟩,?_⟩;rintro i m H2 ⟨rfl,hi,p⟩
 by_cases hlt:i<n
 ·refine .inr ⟨hlt,Pv (i+1),λ H' p'=>⟨n - (i+1),by lia,rfl,hlt,p'⟩,λ x H' y=>?_⟩
  obtain⟨e,y⟩:=y;subst e y;exact hs i _ hlt p
 ·have e:i=n:=by lia
  subst e;exact .inl ⟨lS _,hd H2 p⟩
theorem zGo {n d:Nat}{k:Nat}(hk:0<k) (h:k<=n):HT.sIx n d (some (-(k:Int)))=n - k:=by
 show (if -(k:Int)<0 then (-(k:Int)+n).toNat else _)=_;rw[if_pos 61]
 lia
section
variable {X:Cx}
theorem zLh {elt tg iter:Expr}{y:Str}{py spos:Pos}{jj:Nat}{ifs:List Expr}{sc:Scope}{pos:Pos}{wi:TI}{g:TG}{tt:TT}{te:TE}(N:List Str) (cap:List (Option Nat)) (hc:X.calm=true) (hi:PI X tg iter wi)
    (hg:∀cl s H C ex,PG (X.block sc cl N s H C ex) tg g) (ht:∀cl s H C ex,PTs (X.block sc cl N s H C ex) ifs tt) (he:∀cl s H C ex,PE (X.block sc cl N s H C ex) elt te)
    (hk:sc.kind = .function) (nc:∀y∈sc.names,y.2 ≠ .cell) (hnames:∀y∈sc.names,y.2 = .local->sc.names.lookup y.1=some .local)
    (hfree:∀n,(n,NameKind.free)∈sc.names->X.env.kindOf n=some .cell)
    (hcap:∀(i j:Nat),cap[i]?=some (some j)->∃x,N[i]?=some x/\X.N[j]?=some x/\sc.names.lookup x=some .free) (hlen:cap.length=N.length)
    (hN:X.N.Nodup) (hjj:X.N[jj]?=some y) (hxx:Loc X.env.scope y) (hf:X.fn y=true\/X.env.scope.names.lookup y=some .local)
    (hsw:swapsWith (.ListComp elt [⟨tg,iter,ifs,0⟩] sc pos) (some (.Name y py)) spos.line X.env=pure true)
    (hs:∀x,foldedSetIterable iter X.env x=pure x:=by intro _;rfl):PS X (.Assign [.Name y py] (.ListComp elt [⟨tg,iter,ifs,0⟩] sc pos) spos) (tAsg (tComp cap wi g tt te) (gName jj)):=by
  intro jP s σ H D I h;obtain⟨cl,hclos,c1,c2⟩:=zFE (sc:=sc) (env:=X.env) λ n hn=>I.ok.has n (.inl (hfree n hn));rw[exec_Assign_Name_used _ _ _ _ hsw];refine lC (wpAny_standAt (lC ?_));show wpAny _ X.A (do let _ ← comprehension (.ListComp elt [⟨tg,iter,ifs,0⟩] sc pos) sc X.env _ (newList []) false (eval iter X.env) (some (assign (.Name y py) X.env))) _ _ s;refine lC (wpAny_mono (wpAny_comprehension_free (use:=some (assign (.Name y py) X.env)) (Q:=λ Ω s'=>SP X jP D .next s') rfl hs hclos hk hnames ?_) (λ Ω s' hq=>lD (lD hq)) λ Ω Ω e=>e);refine thn (hi jP s σ H _ I h) λ v s1 h1=>thn h1 λ itv s2 h2=>?_;obtain⟨it,fp,tn,J,H2,e,I2,T,st2,f2,q2⟩:=h2;subst e;have hfr:H2 s2.heap.objs.size=none:=I2.fresh;obtain⟨W,⟨m0,w0⟩,turn⟩:=q2 s2.heap.objs.size hfr;have I3:=I2.lnew (ys:=[]) (its:=[]) (t':=s2.toks) .nil (mB _);have hacc:H2 s2.heap.objs.size=none:=hfr;refine wpAny_newObj_type (wpAny_newFunctionEnv nc (by intro y hy;simp at hy) (λ h4 hns hsb=>?_) hk);generalize hs3:({ s2 with heap:=s2.heap.push { cls:=.type "list", data:=.seq ([]:List Value).toArray } }:Shared)=s3 at hns hsb I3 ⊢;have hheap:s3.heap=s2.heap.push { cls:=.type "list", data:=.seq ([]:List Value).toArray }:=by rw[←hs3]
  generalize hH3:upd H2 s2.heap.objs.size (.lst [])=H3 at I3 w0;have up2:∀b o,s2.heap.get? b=some o->s3.heap.get? b=some o:=λ b o q=>by rw[hheap];exact lH _ q
  have neA:∀b∈fp,b≠s2.heap.objs.size:=λ b hb=>by
    obtain⟨o,q,_⟩:=T.obj _ _ st2 b hb;exact lT (lJ q)
  have f3:∀b∈fp,FpOk X jP H3 b:=λ b hb=>⟨by rw[←hH3,zAd (neA b hb)];exact(f2 b hb).1,(f2 b hb).2⟩
  have o3:∀b∈fp,∃o,s3.heap.get? b=some o:=λ b hb=>by
    obtain⟨o,q,_⟩:=T.obj _ _ st2 b hb;exact⟨o,up2 b o q⟩
  have ok':=zHs (N:=N) (C:=s3.heap.objs.size) I3 hk nc (lS _) f3 o3 c1 c2;generalize hC:s3.heap.objs.size=C at hns hsb ok' ⊢;have ltC:∀b o,s3.heap.get? b=some o->b≠C:=λ b o q=>by rw[←hC];exact lT (lJ q)
  have up4:∀b o,s3.heap.get? b=some o->h4.get? b=some o:=λ b o q=>hsb.extBut b o (ltC b o q) (lH _ q);have st4:tn 0 h4:=T.keep _ _ _ st2 λ b hb o q=>up4 b o (up2 b o q)
  have I4:Inv (X.block sc cl N s3 H3 C fp) [] (capSt cap σ) H3 { s3 with heap:=h4,toks:=s3.toks+([]:List (Str × Value)).length }:=by
    refine⟨ok',rfl,I3.bare,Un.kept up4,⟨_,hns,λ i x v e1 e2 e3=>?_⟩,λ x c q=>?_,?_,λ x c q=>I3.freeC x c (c1 x c q),λ p hp=>(nomatch hp),I3.hok.kept up4,?_⟩
    · have ee:∃j,cap[i]?=some (some j)/\σ[j]?=some (some v):=by
        unfold capSt at e2;rw[mJ] at e2;cases q:cap[i]? with
        |none=>rw[q] at e2;cases e2
        |some o =>
          rw[q] at e2;cases o with
          |none=>cases e2
          |some j =>
            refine⟨j,rfl,?_⟩;have e2':some ((σ[j]?).join)=some (some v):=e2;cases z:σ[j]? with
            |none=>rw[z] at e2';cases e2'
            |some o' =>
              rw[z] at e2';have e2'':o'=some v:=mG e2';rw[e2'']
      obtain⟨j,ej,es⟩:=ee;obtain⟨x',n1,n2,n3⟩:=hcap i j ej;have e1':N[i]?=some x:=e1;rw[n1] at e1';cases e1';have hfr':(x,NameKind.free)∈sc.names:=zDw n3;have kc:=hfree x hfr';obtain⟨m,_,hl⟩:=I3.loc;obtain⟨u,r,l⟩:=hl j x v n2 es (.inr (.inl kc));refine⟨u,r,?_⟩;rcases l with ⟨l,_⟩|⟨_,c,ec,z⟩
      · rw[kc] at l;cases l
      · obtain⟨c',ec'⟩:=c2 x hfr'
        have:=c1 x c' ec';rw[ec] at this;cases this;obtain⟨oc,q1,q2⟩:=z;exact .inr ⟨zBV (sc:=sc) n3,c,ec',oc,up4 _ _ q1,q2⟩
    · obtain⟨v,oc,q1,q2⟩:=I3.cell x c (c1 x c q)
      exact⟨v,oc,up4 _ _ q1,q2⟩
    · exact I3.hok.fresh (by rw[hC];exact lS _)
    · show (capSt cap σ).length=N.length
      unfold capSt;rw[lE,hlen]
  have loop:codeAny 74 X.A (.compLoop (.ListComp elt [⟨tg,iter,ifs,0⟩] sc pos) 0 (.ref it) (.ref s2.heap.objs.size) (compEnvC sc cl C X.env)) (compPost 74 X.A X.xe (some (assign (.Name y py) X.env)) (λ Ω s'=>SP X jP D .next s') (.ref s2.heap.objs.size) C)
      { s3 with heap:=h4,toks:=s3.toks+([]:List (Str × Value)).length }:=by
    have stat:∀{H':Hp},(∀b∈fp,H' b=none)->∀b∈fp,FpOk (X.block sc cl N s3 H3 C fp) [] H' b:=λ hn b hb =>
      ⟨hn b hb,(ok'.exf b hb).1,ok'.exfs b hb,.inl hb,(ok'.exf b hb).2,λ p hp=>(nomatch hp)⟩
    refine zGS (λ n s'=>∃i H',Inv (X.block sc cl N s3 H3 C fp) [] (capSt cap σ) H' s'/\tn i s'.heap/\(∀b∈fp,H' b=none)/\W i n H') ?_ m0 ⟨0,H3,I4,st4,λ b hb=>(f3 b hb).1,w0⟩;rintro n s5 ⟨i,H5,I5,st5,fr5,w5⟩;rcases turn i n H5 w5 with ⟨stop,qn⟩|⟨go,N',hN',step⟩
    · refine thn (T.done (X.block sc cl N s3 H3 C fp) rfl rfl rfl hc i [] s5 _ H5 NoX I5 (stat fr5) st5 stop) λ r s6 ⟨hr,I6⟩=>?_
      subst hr;obtain⟨m,hm,_⟩:=I6.loc
      have I7:Inv X jP σ H5 s6:=by
        refine I3.call' (s':=s6) (ch:=fp) I6.os I6.base I6.hok I6.bare λ b hb=>?_;obtain⟨g0,g1,g2,g3,g4,g5⟩:=f3 b hb;exact⟨g3,g1,g4,g5⟩
      have hCl:X.env.locals≠C:=by
        obtain⟨_,hn3,_⟩:=I3.loc;rw[←hC];exact lT hn3.lt
      have hCc:∀x c,X.env.cells.lookup x=some c->c≠C:=λ x c q=>by
        obtain⟨v,oc,q1,q2⟩:=I3.cell x c q;exact ltC _ _ q1
      refine wpAny_assign_Name (zFo I7 hN hjj hxx (v:=.ref s2.heap.objs.size) rfl (λ s9 I9 ⟨a9,sb9,ha9⟩=>?_) hf)
      have hCa:a9≠C:=by
        rcases ha9 with rfl|z
        · exact hCl
        · exact hCc _ _ z
      refine⟨m,hm.sameBut sb9 (Ne.symm hCa),λ h' sb=>⟨_,H5,?_,qn⟩⟩;refine I9.call' (s':={ s9 with heap:=h' }) (ch:=[C]) rfl ?_ (I9.hok.but I6.free sb) I9.bare λ b hb=>?_
      · have st:∀b o,s9.heap.get? b=some o->b∉[C]->h'.get? b=some o:=λ b o q hx=>(sb.2 b (λ z=>hx (by rw[z];exact mQ.mpr rfl))).trans q
        exact⟨λ b o q Ω Ω hx=>st b o q hx,λ b o q Ω Ω hx=>⟨o.slots,st b o q hx⟩,λ b o q n Ω=>n,λ b o q hx=>⟨o,st b o q hx⟩,λ Ω Ω q=>q,λ Ω Ω Ω q=>q,λ b ps q=>⟨#[],by simpa using q⟩⟩
      · rw[mQ.mp hb]
        exact⟨.inr (by rw[←hC];exact I3.sz),Ne.symm hCl,hCc,λ p hp=>ltC _ _ (I3.pin p hp).1⟩
    · refine thn (T.item (X.block sc cl N s3 H3 C fp) rfl rfl rfl hc i [] s5 _ H5 NoX I5 (stat fr5) st5 go) λ r s6 ⟨u,hr,h6⟩=>?_
      subst hr;refine thn h6 λ _ s7 ⟨x,H7,I7,r7,y7,st7,fr7⟩=>?_;have I7':=I7.pinned (stat fr7) (T.obj _ _ st7)
      have again:∀{σ8:St}{H8:Hp}{s8:Shared},Inv (X.block sc cl N s3 H3 C fp) ([]++zE3 fp s7.heap) σ8 H8 s8->Ext (capSt cap σ) σ8->N' H8 ->
          ∃m,m<n/\∃i H',Inv (X.block sc cl N s3 H3 C fp) [] (capSt cap σ) H' s8/\tn i s8.heap/\(∀b∈fp,H' b=none)/\W i m H':=λ{σ8 H8 s8} I8 ex n8=>by
        obtain⟨m',hm,w8⟩:=hN' H8 n8;have I8':=I8.unpinned.weak ex.len ex.get;refine⟨m',hm,i+1,H8,I8',T.keep _ _ _ st7 λ b hb o q=>(I8.pin (b,o) (mD _ (mD _ (zBz hb q)))).1,λ b hb=>?_,w8⟩;obtain⟨o,q,d⟩:=T.obj _ _ st7 b hb;exact(I8.pin (b,o) (mD _ (mD _ (zBz hb q)))).2.1
      refine thn (hg cl s3 H3 C fp _ s7 _ H7 x u _ I7' r7 (step x H7 y7)) λ _ s8 ⟨σ8,H8,I8,ex8,q8⟩=>?_;refine thn (ht cl s3 H3 C fp _ s8 σ8 H8 _ I8 q8) λ b s9 ⟨H9,I9,q9⟩=>?_;cases b with
      |false=>exact again I9 ex8 q9
      |true =>
        rw[if_pos rfl] at q9 ⊢;refine thn (he cl s3 H3 C fp _ s9 σ8 H9 _ I9 q9) λ yv s10 ⟨y,H10,I10,r10,zs,e10,l10,q10⟩=>?_;refine thn (zCn (X:=X.block sc cl N s3 H3 C fp) _ s10 σ8 H10 (.ref s2.heap.objs.size) [y] (.ref s2.heap.objs.size) [yv] (λ Ω H'=>N' H') I10 rfl (.cons r10 .nil) ⟨_,zs,y,rfl,rfl,e10,l10,q10⟩) λ _ s11 ⟨_,H11,I11,_,q11⟩=>?_;exact again I11 ex8 q11
  exact codeAny_compStart_list loop (T.self X.A 0 _ _ _ st4 loop)
theorem zEC {elt tg iter:Expr}{y:Str}{py spos:Pos}{jj:Nat}{ifs:List Expr}{sc:Scope}{pos:Pos}{wi:TI}{g:TG}{tt:TT}{te:TE}(N:List Str) (cap:List (Option Nat)) (hc:X.calm=true) (hi:PI X tg iter wi)
  (hg:∀cl s H C ex,PG (X.block sc cl N s H C ex) tg g) (ht:∀cl s H C ex,PTs (X.block sc cl N s H C ex) ifs tt) (he:∀cl s H C ex,PE (X.block sc cl N s H C ex) elt te)
  (ck:zHp sc X.env X.N N cap=true) (hN:X.N.Nodup) (hjj:X.N[jj]?=some y) (hxx:Loc X.env.scope y) (hf:X.fn y=true\/X.env.scope.names.lookup y=some .local)
  (hsw:swapsWith (.ListComp elt [⟨tg,iter,ifs,0⟩] sc pos) (some (.Name y py)) spos.line X.env=pure true:=by rfl) (hs:∀x,foldedSetIterable iter X.env x=pure x:=by intro _;rfl):PS X (.Assign [.Name y py] (.ListComp elt [⟨tg,iter,ifs,0⟩] sc pos) spos) (tAsg (tComp cap wi g tt te) (gName jj)):=by
 unfold zHp at ck;simp only[Bool.and_eq_true] at ck;obtain⟨⟨⟨⟨⟨k1,k2⟩,k3⟩,k4⟩,k5⟩,k6⟩:=ck;refine zLh N cap hc hi hg ht he (by simpa using k1) (λ y hy=>?_) (λ y hy z=>?_) (λ n hn=>?_) (λ i j e=>?_) (by simpa using k6) hN hjj hxx hf hsw hs
 ·have:=List.all_eq_true.mp k2 y hy
  simpa using this
 ·have:=List.all_eq_true.mp k3 y hy
  rw[z] at this;simpa using this
 ·have:=List.all_eq_true.mp k4 _ hn
  simpa using this
 ·have hi:i<cap.length:=(lK.mp e).1
  have:=List.all_eq_true.mp k5 i (List.mem_range.mpr hi);rw[e] at this;dsimp only at this;cases q:N[i]? with
  |none=>rw[q] at this;cases this
  |some x =>
   rw[q] at this;dsimp only at this;rw[Bool.and_eq_true] at this;exact⟨x,rfl,by simpa using this.1,by simpa using this.2⟩
end
inductive Dt where
 |int (i:Int)|str (x:Str)|tup (ds:List Dt)
mutual
def Dt.beq:Dt->Dt->Bool
 |.int i,.int j=>decide (i=j)
 |.str x,.str y=>decide (x=y)
 |.tup ds,.tup es=>Dt.beqs ds es
 |_,_=>false
def Dt.beqs:List Dt->List Dt->Bool
 |[],[]=>true
 |d::ds,e::es=>Dt.beq d e && Dt.beqs ds es
 |_,_=>false
end
mutual
theorem Dt.beq_iff:∀{d e:Dt},Dt.beq d e=true↔d=e
 |.int i,.int j=>by simp[Dt.beq]
 |.str x,.str y=>by simp[Dt.beq]
 |.tup ds,.tup es=>by
  have:=Dt.beqs_iff (ds:=ds) (es:=es);simp[Dt.beq,this]
 |.int _,.str _=>by simp[Dt.beq]
 |.int _,.tup _=>by simp[Dt.beq]
 |.str _,.int _=>by simp[Dt.beq]
 |.str _,.tup _=>by simp[Dt.beq]
 |.tup _,.int _=>by simp[Dt.beq]
 |.tup _,.str _=>by simp[Dt.beq]
theorem Dt.beqs_iff:∀{ds es:List Dt},Dt.beqs ds es=true↔ds=es
 |[],[]=>by simp[Dt.beqs]
 |[],_::_=>by simp[Dt.beqs]
 |_::_,[]=>by simp[Dt.beqs]
 |d::ds,e::es=>by
  have h1:=Dt.beq_iff (d:=d) (e:=e);have h2:=Dt.beqs_iff (ds:=ds) (es:=es);simp[Dt.beqs,h1,h2]
end
mutual
noncomputable def Dt.deep:Dt->Nat
 |.tup ds=>Dt.deeps ds+1
 |_=>0
noncomputable def Dt.deeps:List Dt->Nat
 |[]=>0
 |d::ds=>max (Dt.deep d) (Dt.deeps ds)
end
mutual
inductive DR (H:Hp):Dt->V->Prop
 |int (i:Int):DR H (.int i) (.int i)
 |str (x:Str):DR H (.str x) (.str x)
 |tup {a:Addr}{xs:List V}{ds:List Dt}:H a=some (.tup xs)->DRs H ds xs->DR H (.tup ds) (.ref a)
inductive DRs (H:Hp):List Dt->List V->Prop
 |nil:DRs H [] []
 |cons {d:Dt}{v:V}{ds:List Dt}{vs:List V}:DR H d v->DRs H ds vs->DRs H (d::ds) (v::vs)
end
theorem DRs.length {H:Hp}:∀{ds:List Dt}{vs:List V},DRs H ds vs->ds.length=vs.length
 |_,_,.nil=>rfl
 |_,_,.cons _ t=>congrArg (· + 1) t.length
mutual
theorem DR.inj {H:Hp}:∀{d e:Dt}{v:V},DR H d v->DR H e v->d=e
 |_,_,_,.int _,.int _=>rfl
 |_,_,_,.str _,.str _=>rfl
 |_,_,_,.tup h r,.tup h' r'=>by
  rw[h] at h';cases h';rw[DRs.inj r r']
theorem DRs.inj {H:Hp}:∀{ds es:List Dt}{vs:List V},DRs H ds vs->DRs H es vs->ds=es
 |_,_,_,.nil,.nil=>rfl
 |_,_,_,.cons r t,.cons r' t'=>by rw[DR.inj r r',DRs.inj t t']
end
theorem DRs.get {H:Hp}:∀{ds:List Dt}{vs:List V}{j:Nat}{v:V},DRs H ds vs->vs[j]?=some v->∃d,ds[j]?=some d/\DR H d v
 |_,_,_,_,.nil,e=>by simp at e
 |_,_,0,_,.cons r _,e=>by simp at e;subst e;exact⟨_,rfl,r⟩
 |_,_,j+1,v,.cons _ t,e=>by
  obtain⟨d,h1,h2⟩:=DRs.get (j:=j) (v:=v) t (by simpa using e);exact⟨d,by simpa using h1,h2⟩
theorem zEH:∀{ds:List Dt}{j:Nat}{d:Dt},ds[j]?=some d->d.deep<=Dt.deeps ds
 |[],_,_,h=>by simp at h
 |e::ds,0,d,h=>by simp at h;subst h;simp[Dt.deeps];lia
 |e::ds,j+1,d,h=>by
  have:=zEH (ds:=ds) (j:=j) (d:=d) (by simpa using h);simp[Dt.deeps];lia
theorem zHt:∀(ds es:List Dt),Dt.beqs ds es=((List.range (min ds.length es.length)).all (λ j=>match ds[j]?,es[j]? with|some d,some e=>Dt.beq d e|_,_=>false) && ds.length == es.length):=by
 intro ds es;rw[Bool.eq_iff_iff,Dt.beqs_iff,Bool.and_eq_true,List.all_eq_true];constructor
 ·rintro rfl
  refine⟨λ j hj=>?_,by simp⟩;have hj':j<ds.length:=by simpa using List.mem_range.mp hj
  simp[nN hj',Dt.beq_iff]
 ·rintro⟨h,hl⟩
  have hl':ds.length=es.length:=by simpa using hl
  refine List.ext_getElem hl' λ j h1 h2=>?_;have:=h j (List.mem_range.mpr 61);simpa[nN h1,nN h2,Dt.beq_iff] using this
section
variable {X:Cx}{jP:List (Addr × Obj)}{σ:St}{H:Hp}{s:Shared}
theorem zGz (I:Inv X jP σ H s):∀(n:Nat) (A:Around) {d e:Dt}{v z:V}{u y:Value},d.deep<=n->DR H d v->DR H e z->RelV v u->RelV z y->A.units+n<cLine->SeqAt.EqAt A s u y (Dt.beq d e):=by
 intro n
 induction n with
 |zero =>
  intro A d e v z u y hn rd re ru ry hu;cases rd with
  |int i =>
   obtain⟨t,rfl⟩:=ru;cases re with
   |int j=>obtain⟨t',rfl⟩:=ry;rw[show Dt.beq (.int i) (.int j)=(i == j) by simp[Dt.beq,Bool.beq_eq_decide_eq]];exact SeqAt.EqAt.int_int i t j t'
   |str x=>obtain⟨t',rfl⟩:=ry;exact SeqAt.EqAt.int_str i t x t'
   |tup h r =>
    cases ry;obtain⟨its,rv,p,_⟩:=I.tuple (SqT.of h);exact SeqAt.EqAt.int_tuple i t (show s.heap.IsTuple _ its.toArray from p) 61
  |str x =>
   obtain⟨t,rfl⟩:=ru;cases re with
   |int j=>obtain⟨t',rfl⟩:=ry;exact SeqAt.EqAt.str_int x t j t'
   |str w'=>obtain⟨t',rfl⟩:=ry;rw[show Dt.beq (.str x) (.str w')=(x == w') by simp[Dt.beq,Bool.beq_eq_decide_eq]];exact SeqAt.EqAt.str_str x t w' t'
   |tup h r =>
    cases ry;obtain⟨its,rv,p,_⟩:=I.tuple (SqT.of h);exact SeqAt.EqAt.str_tuple x t (show s.heap.IsTuple _ its.toArray from p) 61
  |tup h r=>simp[Dt.deep] at hn
 |succ n ih =>
  intro A d e v z u y hn rd re ru ry hu;cases rd with
  |int i =>
   obtain⟨t,rfl⟩:=ru;cases re with
   |int j=>obtain⟨t',rfl⟩:=ry;rw[show Dt.beq (.int i) (.int j)=(i == j) by simp[Dt.beq,Bool.beq_eq_decide_eq]];exact SeqAt.EqAt.int_int i t j t'
   |str x=>obtain⟨t',rfl⟩:=ry;exact SeqAt.EqAt.int_str i t x t'
   |tup h r =>
    cases ry;obtain⟨its,rv,p,_⟩:=I.tuple (SqT.of h);exact SeqAt.EqAt.int_tuple i t (show s.heap.IsTuple _ its.toArray from p) 61
  |str x =>
   obtain⟨t,rfl⟩:=ru;cases re with
   |int j=>obtain⟨t',rfl⟩:=ry;exact SeqAt.EqAt.str_int x t j t'
   |str w'=>obtain⟨t',rfl⟩:=ry;rw[show Dt.beq (.str x) (.str w')=(x == w') by simp[Dt.beq,Bool.beq_eq_decide_eq]];exact SeqAt.EqAt.str_str x t w' t'
   |tup h r =>
    cases ry;obtain⟨its,rv,p,_⟩:=I.tuple (SqT.of h);exact SeqAt.EqAt.str_tuple x t (show s.heap.IsTuple _ its.toArray from p) 61
  | @tup a xs ds ha rs =>
   cases ru;obtain⟨its,rv,p,_⟩:=I.tuple (SqT.of ha);have hn':Dt.deeps ds<=n:=by simpa[Dt.deep] using hn
   cases re with
   |int j=>obtain⟨t',rfl⟩:=ry;exact SeqAt.EqAt.tuple_int j t' (show s.heap.IsTuple _ its.toArray from p) 61
   |str w'=>obtain⟨t',rfl⟩:=ry;exact SeqAt.EqAt.tuple_str w' t' (show s.heap.IsTuple _ its.toArray from p) 61
   | @tup b ys es hb rs' =>
    cases ry
    by_cases hab:a=b
    ·subst hab
     rw[ha] at hb;cases hb;have:ds=es:=DRs.inj rs rs';subst this;rw[show Dt.beq (.tup ds) (.tup ds)=true from Dt.beq_iff.mpr rfl];exact SeqAt.EqAt.same _
    ·obtain⟨its2,rv2,p2,_⟩:=I.tuple (SqT.of hb)
     refine SeqAt.EqAt.of_refs hab ?_;have l1:=rv.length;have l2:=rv2.length;have m1:=rs.length;have m2:=rs'.length
     have key:=SeqAt.RcAt.tuples (A:=A) (s:=s) (e:=λ j=>match ds[j]?,es[j]? with|some d,some e=>Dt.beq d e|_,_=>false) (show s.heap.IsTuple _ its.toArray from p) (show s.heap.IsTuple _ its2.toArray from p2) 61 λ j h1 h2=>by
      have g1:j<xs.length:=by rw[l1];simpa using h1
      have g2:j<ys.length:=by rw[l2];simpa using h2
      obtain⟨u1,eu,r1⟩:=rv.get (lY g1);obtain⟨u2,ev,r2⟩:=rv2.get (lY g2);obtain⟨d1,ed,rd1⟩:=rs.get (lY g1);obtain⟨d2,ed2,rd2⟩:=rs'.get (lY g2);have e1:its.toArray[j]=u1:=by obtain⟨_,q⟩:=lK.mp eu;simpa using q
      have e2:its2.toArray[j]=u2:=by obtain⟨_,q⟩:=lK.mp ev;simpa using q
      simp only[ed,ed2,e1,e2];exact ih A.in1 (mI (zEH ed) hn') rd1 rd2 r1 r2 (by rw[show A.in1.units=A.units+1 from rfl];lia)
     have ez:Dt.beq (.tup ds) (.tup es)=((List.range (min its.toArray.size its2.toArray.size)).all (λ j=>match ds[j]?,es[j]? with|some d,some e=>Dt.beq d e|_,_=>false) && its.toArray.size == its2.toArray.size):=by
      rw[show Dt.beq (.tup ds) (.tup es)=Dt.beqs ds es by simp[Dt.beq],zHt];have a1:its.toArray.size=ds.length:=by simp;lia
      have a2:its2.toArray.size=es.length:=by simp;lia
      rw[a1,a2]
     rw[ez];exact key
def rEqD (neg:Bool):R2:=λ x y H Q=>E2 λ(ds es:List Dt)=>A4 (DR H (.tup ds) x) (DR H (.tup es) y) ((Dt.tup ds).deep<=150) (Q (.bl (if neg then !Dt.beqs ds es else Dt.beqs ds es)) H)
theorem zJs (I:Inv X jP σ H s) {a b:Addr}{ds es:List Dt}(hd:DR H (.tup ds) (.ref a)) (he:DR H (.tup es) (.ref b)) (hdeep:(Dt.tup ds).deep<=150) (hu:X.A.units+150<cLine) :
  ∃its its2:List Value,s.heap.IsTuple a its.toArray/\s.heap.IsTuple b its2.toArray/\its.toArray.size=ds.length/\its2.toArray.size=es.length /\
   ∀j (h1:j<its.toArray.size) (h2:j<its2.toArray.size),SeqAt.EqAt X.A.in1 s its.toArray[j] its2.toArray[j] ((λ j=>match ds[j]?,es[j]? with|some d,some e=>Dt.beq d e|_,_=>false) j):=by
 cases hd with
 | @tup _ xs _ ha rs =>
  cases he with
  | @tup _ ys _ hb rs' =>
   obtain⟨its,rv,p,_⟩:=I.tuple (SqT.of ha);obtain⟨its2,rv2,p2,_⟩:=I.tuple (SqT.of hb);have l1:=rv.length;have l2:=rv2.length;have m1:=rs.length;have m2:=rs'.length;refine⟨its,its2,p,p2,by simp;lia,by simp;lia,λ j h1 h2=>?_⟩;have g1:j<xs.length:=by rw[l1];simpa using h1
   have g2:j<ys.length:=by rw[l2];simpa using h2
   obtain⟨u1,eu,r1⟩:=rv.get (lY g1);obtain⟨u2,ev,r2⟩:=rv2.get (lY g2);obtain⟨d1,ed,rd1⟩:=rs.get (lY g1);obtain⟨d2,ed2,rd2⟩:=rs'.get (lY g2);have e1:its.toArray[j]=u1:=by obtain⟨_,q⟩:=lK.mp eu;simpa using q
   have e2:its2.toArray[j]=u2:=by obtain⟨_,q⟩:=lK.mp ev;simpa using q
   simp only[ed,ed2,e1,e2];have dd:Dt.deeps ds+1<=150:=by simpa[Dt.deep] using hdeep
   exact zGz I 149 X.A.in1 (mI (zEH ed) 61) rd1 rd2 r1 r2 (by rw[show X.A.in1.units=X.A.units+1 from rfl];lia)
theorem zHZ (hu:X.A.units+150<cLine):OpR X (compareOp .Eq) (rEqD false):=by
 intro jP s σ H x y v u Q I rx ry h;obtain⟨ds,es,hd,he,hdeep,q⟩:=h;obtain⟨a,rfl⟩:∃a,x = .ref a:=by cases hd;exact⟨_,rfl⟩
 obtain⟨b,rfl⟩:∃b,y = .ref b:=by cases he;exact⟨_,rfl⟩
 cases rx;cases ry;obtain⟨its,its2,p,p2,z1,z2,hall⟩:=zJs I hd he hdeep hu;refine SeqAt.eq_tupleAt p p2 61 hall ?_;rw[z1,z2,←zHt];exact⟨.bl (Dt.beqs ds es),H,I,rfl,by simpa using q⟩
theorem hu150 {k:Nat}{A:Around}(hr:Room k A):A.units+150<cLine:=by have:=hr.un;lia
end
theorem itB {h h':Heap}{a b t:Addr}{i:Nat}(x:h.IsTupleIter a t i) (e:Heap.SameBut b h h') (n:a≠b):h'.IsTupleIter a t i:=x.extBut e.extBut n
theorem tpB {h h':Heap}{a b:Addr}{xs:Array Value}(x:h.IsTuple a xs) (e:Heap.SameBut b h h') (n:a≠b):h'.IsTuple a xs:=let ⟨o,ho,r⟩:=x;⟨o,e.extBut a o n ho,r⟩
section
variable {prog:Program}{w:World}{A:Around}{E:XQ}{s:Shared}
theorem zIM {z TI TO i1 i2 l1 l2:Addr}{k:Nat}{xs ys:Array Value}{x y a b:Value}{Q:Option Value->Shared->Prop}(D:ZipApart z TI TO i1 i2 l1 l2)
  (hz:IsZip s.heap z TI TO .none) (hTI:IsPair s.heap TI (.ref i1) (.ref i2)) (hTO:IsPair s.heap TO a b) (h1:s.heap.IsTupleIter i1 l1 k) (h2:s.heap.IsTupleIter i2 l2 k)
  (hl1:s.heap.IsTuple l1 xs) (hl2:s.heap.IsTuple l2 ys) (hx:xs[k]?=some x) (hy:ys[k]?=some y)
  (hQ:∀h',IsZip h' z TI TO (rawInt s.heap.objs.size)->IsPair h' TO x y->h'.IsTupleIter i1 l1 (k+1)->h'.IsTupleIter i2 l2 (k+1)->IsPair h' s.heap.objs.size x y ->
   (∀c o,c≠z->c≠TO->c≠i1->c≠i2->s.heap.get? c=some o->h'.get? c=some o)->Q (some (.ref s.heap.objs.size)) { s with heap:=h' }):wpAny 90 A (pyNext (.ref z)) Q E s:=by
 have hT:s.TypeIs (.ref z) "zip" := ⟨_,hz,rfl⟩;unfold pyNext;refine lC (wpAny_attempt 92);show wpAny _ _ (field (.ref z) 2 >>= _) _ _ _;refine lC (wpAny_field hz rfl (x:=.bool false) rfl ?_);show wpAny _ _ (field (.ref z) 3 >>= _) _ _ _;refine lC (wpAny_field hz rfl (x:=.ref TI) rfl ?_);refine lC (wpAny_seqItems hTI rfl ?_);show wpAny _ _ (Builtin.SmallTypes.ownedTupleIsFree (.ref z) >>= _) _ _ _;refine lC ?_;unfold Builtin.SmallTypes.ownedTupleIsFree;refine lC (wpAny_field hz rfl (x:=.none) rfl (lD ?_));simp only[if_true];refine lC (wpAny_rule ?_);refine lC (wpAny_field hz rfl (x:=.ref TO) rfl ?_);refine lC (wpAny_setField_rec hz 68 λ q1 hz1 hs1=>?_);replace hz1:IsZip q1 z TI TO .ellipsis:=hz1;refine lC ?_;simp only[List.zipIdx_cons,List.zipIdx_nil,List.forIn_cons,List.forIn_nil];refine lC (lC (wpAny_onRaise ?_));show wpAny _ _ (Builtin.SmallTypes.nextOf (.ref i1) >>= _) _ _ _;refine lC (zAm (itB h1 hs1 D.i1z) (tpB hl1 hs1 D.l1z) hx λ q2 j1 hs2=>lD ?_);have hTO2:IsPair q2 TO a b:=hs2.extBut _ _ D.TOi1 (hs1.extBut _ _ D.TOz hTO);refine lC (wpAny_seqItems hTO2 rfl ?_);refine lC (wpAny_updateSeq_pair hTO2 λ q3 hTO3 hs3=>?_);replace hTO3:IsPair q3 TO x b:=hTO3;refine lC (wpAny_letGo (lD ?_));refine lC (lC (wpAny_onRaise ?_));show wpAny _ _ (Builtin.SmallTypes.nextOf (.ref i2) >>= _) _ _ _;refine lC (zAm (itB (itB (itB h2 hs1 D.i2z) hs2 D.i12.symm) hs3 D.TOi2.symm) (tpB (tpB (tpB hl2 hs1 D.l2z) hs2 D.l2i1) hs3 D.l2TO) hy λ q4 j2 hs4=>lD ?_);have hTO4:IsPair q4 TO x b:=hs4.extBut _ _ D.TOi2 hTO3;refine lC (wpAny_seqItems hTO4 rfl ?_);refine lC (wpAny_updateSeq_pair hTO4 λ q5 hTO5 hs5=>?_);replace hTO5:IsPair q5 TO x y:=hTO5;refine lC (wpAny_letGo (lD (lD ?_)));refine lC (wpAny_seqItems hTO5 rfl ?_);refine lC (wpAny_newTuple ?_);have hsz:q5.objs.size=s.heap.objs.size:=by rw[hs5.1,hs4.1,hs3.1,hs2.1,hs1.1]
 have hz5:IsZip q5 z TI TO .ellipsis:=hs5.extBut _ _ D.TOz.symm (hs4.extBut _ _ D.i2z.symm (hs3.extBut _ _ D.TOz.symm (hs2.extBut _ _ D.i1z.symm hz1)));have hk5:∀c o,c≠z->c≠TO->c≠i1->c≠i2->s.heap.get? c=some o->q5.get? c=some o:=λ c o c1 c2 c3 c4 e=>hs5.extBut _ _ c2 (hs4.extBut _ _ c4 (hs3.extBut _ _ c2 (hs2.extBut _ _ c3 (hs1.extBut _ _ c1 e))));have j15:q5.IsTupleIter i1 l1 (k+1):=itB (itB (itB j1 hs3 D.TOi1.symm) hs4 D.i12) hs5 D.TOi1.symm;have j25:q5.IsTupleIter i2 l2 (k+1):=itB j2 hs5 D.TOi2.symm;have hzlt:z<q5.objs.size:=lJ hz5;show wpAny _ _ (Builtin.SmallTypes.ownedTupleHandOut (.ref z) (.ref q5.objs.size) >>= _) _ _ _;refine lC ?_;unfold Builtin.SmallTypes.ownedTupleHandOut;have hz6:IsZip (q5.push { cls:=.type "tuple", data:=.seq #[x,y] }) z TI TO .ellipsis:=lH _ hz5;refine lC (wpAny_setField_rec hz6 68 λ q7 hz7 hs7=>?_);replace hz7:IsZip q7 z TI TO (rawInt q5.objs.size):=hz7;refine wpAny_setField_rec hz7 68 λ q8 hz8 hs8=>?_;replace hz8:IsZip q8 z TI TO (rawInt q5.objs.size):=hz8;have up:∀c o,c≠z->q5.get? c=some o->q8.get? c=some o:=λ c o c1 e=>hs8.extBut _ _ c1 (hs7.extBut _ _ c1 (lH _ e));have hT8:IsPair q8 q5.objs.size x y:=hs8.extBut _ _ (Nat.ne_of_gt hzlt) (hs7.extBut _ _ (Nat.ne_of_gt hzlt) (lI _ rfl));rw[hsz] at hz8 hT8;refine lD ⟨_,rfl,lD ?_⟩;show Q (some (.ref q5.objs.size)) _;rw[hsz];exact hQ q8 hz8 (up _ _ D.TOz hTO5) (let ⟨o,e,r⟩:=j15;⟨o,up _ o D.i1z e,r⟩) (let ⟨o,e,r⟩:=j25;⟨o,up _ o D.i2z e,r⟩) hT8 λ c o c1 c2 c3 c4 e=>up c o c1 (hk5 c o c1 c2 c3 c4 e)
theorem zKB {z TI TO i1 i2 l1 l2:Addr}{k:Nat}{xs ys:Array Value}{a b:Value}{Q:Option Value->Shared->Prop}(hh:A.handled=none) (D:ZipApart z TI TO i1 i2 l1 l2)
    (hz:IsZip s.heap z TI TO .none) (hTI:IsPair s.heap TI (.ref i1) (.ref i2)) (hTO:IsPair s.heap TO a b) (h1:s.heap.IsTupleIter i1 l1 k) (h2:s.heap.IsTupleIter i2 l2 k)
    (hl1:s.heap.IsTuple l1 xs) (hl2:s.heap.IsTuple l2 ys) (hend:xs[k]?=none\/ys[k]?=none)
    (hQ:∀h',(∀c o,c≠z->c≠TO->c≠i1->c≠i2->s.heap.get? c=some o->h'.get? c=some o)->Q none { s with heap:=h' }):wpAny 90 A (pyNext (.ref z)) Q E s:=by
  have hT:s.TypeIs (.ref z) "zip" := ⟨_,hz,rfl⟩;unfold pyNext
  have fin:∀(h':Heap) (e:Addr),(∀c o,c≠z->c≠TO->c≠i1->c≠i2->s.heap.get? c=some o->h'.get? c=some o)->(∃o,h'.get? e=some o/\o.cls = .type "StopIteration") ->
      wpAny 90 A (do if ← isInstance (.ref e) (.type "StopIteration") then pure none else throw (.ref e)) Q E { s with heap:=h' }:=λ h' e hk ⟨o,ho,hc⟩ =>
    lC (wpAny_isInstance (T := "StopIteration") (b:=true) ⟨o,ho,hc⟩ isSubtype_stop (lD (hQ _ hk)))
  refine lC (wpAny_attempt 92);show wpAny _ _ (field (.ref z) 2 >>= _) _ _ _;refine lC (wpAny_field hz rfl (x:=.bool false) rfl ?_);show wpAny _ _ (field (.ref z) 3 >>= _) _ _ _;refine lC (wpAny_field hz rfl (x:=.ref TI) rfl ?_);refine lC (wpAny_seqItems hTI rfl ?_);show wpAny _ _ (Builtin.SmallTypes.ownedTupleIsFree (.ref z) >>= _) _ _ _;refine lC ?_;unfold Builtin.SmallTypes.ownedTupleIsFree;refine lC (wpAny_field hz rfl (x:=.none) rfl (lD ?_));simp only[if_true];refine lC (wpAny_rule ?_);refine lC (wpAny_field hz rfl (x:=.ref TO) rfl ?_);refine lC (wpAny_setField_rec hz 68 λ q1 hz1 hs1=>?_);replace hz1:IsZip q1 z TI TO .ellipsis:=hz1;refine lC ?_;simp only[List.zipIdx_cons,List.zipIdx_nil,List.forIn_cons,List.forIn_nil];refine lC (lC (wpAny_onRaise ?_));show wpAny _ _ (Builtin.SmallTypes.nextOf (.ref i1) >>= _) _ _ _;cases hx:xs[k]? with
  |none =>
    refine lC (zBA hh (itB h1 hs1 D.i1z) (tpB hl1 hs1 D.l1z) hx λ q2 e hs2 he=>?_);obtain⟨oe,hoe,hce⟩:=he;have hz2:IsZip q2 z TI TO .ellipsis:=hs2 _ _ D.i1z.symm hz1;have hez:e≠z:=λ x=>by subst x;rw[hz2] at hoe;cases hoe;simp at hce
    exact wpAny_setField_rec hz2 68 λ q3 Ω hs3=>fin q3 e (λ c o c1 Ω c3 Ω x=>hs3.extBut _ _ c1 (hs2 _ _ c3 (hs1.extBut _ _ c1 x))) ⟨oe,hs3.extBut _ _ hez hoe,hce⟩
  |some x =>
    have hy:ys[k]?=none:=by rcases hend with h|h;rw[hx] at h;cases h;exact h
    refine lC (zAm (itB h1 hs1 D.i1z) (tpB hl1 hs1 D.l1z) hx λ q2 j1 hs2=>lD ?_);have hTO2:IsPair q2 TO a b:=hs2.extBut _ _ D.TOi1 (hs1.extBut _ _ D.TOz hTO);refine lC (wpAny_seqItems hTO2 rfl ?_);refine lC (wpAny_updateSeq_pair hTO2 λ q3 hTO3 hs3=>?_);refine lC (wpAny_letGo (lD ?_));refine lC (lC (wpAny_onRaise ?_));show wpAny _ _ (Builtin.SmallTypes.nextOf (.ref i2) >>= _) _ _ _;refine lC (zBA hh (itB (itB (itB h2 hs1 D.i2z) hs2 D.i12.symm) hs3 D.TOi2.symm) (tpB (tpB (tpB hl2 hs1 D.l2z) hs2 D.l2i1) hs3 D.l2TO) hy λ q4 e hs4 he=>?_);obtain⟨oe,hoe,hce⟩:=he;have hz4:IsZip q4 z TI TO .ellipsis:=hs4 _ _ D.i2z.symm (hs3.extBut _ _ D.TOz.symm (hs2.extBut _ _ D.i1z.symm hz1));have hez:e≠z:=λ x=>by subst x;rw[hz4] at hoe;cases hoe;simp at hce
    exact wpAny_setField_rec hz4 68 λ q5 Ω hs5=>fin q5 e (λ c o c1 c2 c3 c4 x=>hs5.extBut _ _ c1 (hs4 _ _ c4 (hs3.extBut _ _ c2 (hs2.extBut _ _ c3 (hs1.extBut _ _ c1 x))))) ⟨oe,hs5.extBut _ _ hez hoe,hce⟩
end
theorem zIE (l1 l2:Addr) (xs ys:Array Value) :
    Meets (Builtin.«zip.__new__» ⟨[.type "zip", .ref l1,.ref l2],[]⟩) (λ Ω R s=>s.heap.IsTuple l1 xs/\s.heap.IsTuple l2 ys /\
      ∀(h':Heap) (z TI TO i1 i2:Addr),(∀c o,s.heap.get? c=some o->h'.get? c=some o)->s.heap.objs.size<=z->s.heap.objs.size<=TI->s.heap.objs.size<=TO->s.heap.objs.size<=i1->s.heap.objs.size<=i2 ->
        (TI≠z/\TO≠z/\i1≠z/\i2≠z/\TI≠TO/\TI≠i1/\TI≠i2/\TO≠i1/\TO≠i2/\i1≠i2)->IsZip h' z TI TO .none->IsPair h' TI (.ref i1) (.ref i2)->IsPair h' TO .none .none->h'.IsTupleIter i1 l1 0->h'.IsTupleIter i2 l2 0 ->
        R (.ok (.ret (.ref z))) { s with heap:=h' }) :=
  .of_wp λ prog w A R s h=>by
    obtain⟨hp,g,d,tk,os⟩:=s;obtain⟨hl1,hl2,h⟩:=h;have hsub:=sub_zip;have hL1:Heap.IsTuple (Shared.heap ⟨hp,g,d,tk,os⟩) l1 xs:=hl1;have hL2:Heap.IsTuple (Shared.heap ⟨hp.push { cls:=.type "tuple_iterator", data:=.fields #[.ref l1,.int 0 0] },g,d,tk,os⟩) l2 ys:=let ⟨o,ho,r⟩:=hl2;⟨o,lH _ ho,r⟩
    wp_walk using wpAny_pyIter_tuple hL1,wpAny_pyIter_tuple hL2
    refine⟨_,rfl,h _ _ _ _ _ _ (λ c o e=>lH _ (lH _ (lH _ (lH _ (lH _ e))))) ?_ ?_ ?_ ?_ ?_ ?_ (lI _ rfl) (lH _ (lH _ (lI _ rfl))) (lH _ (lI _ rfl))
      ⟨_,lH _ (lH _ (lH _ (lH _ (lI _ rfl)))),rfl,rfl⟩ ⟨_,lH _ (lH _ (lH _ (lI _ rfl))),rfl,rfl⟩⟩
    all_goals simp only[Heap.size_push]
    all_goals first
      |lia
      | (refine⟨?_,?_,?_,?_,?_,?_,?_,?_,?_,?_⟩<;>(intro e;have e' : @Eq Nat _ _:=e;lia))
section
variable {prog:Program}{w:World}{A:Around}{E:XQ}{s:Shared}
theorem zGT {l1 l2:Addr}{xs ys:Array Value}{Q:XQ}(hl1:s.heap.IsTuple l1 xs) (hl2:s.heap.IsTuple l2 ys)
  (h:∀(h':Heap) (z TI TO i1 i2:Addr),(∀c o,s.heap.get? c=some o->h'.get? c=some o)->s.heap.objs.size<=z->s.heap.objs.size<=TI->s.heap.objs.size<=TO->s.heap.objs.size<=i1->s.heap.objs.size<=i2 ->
    (TI≠z/\TO≠z/\i1≠z/\i2≠z/\TI≠TO/\TI≠i1/\TI≠i2/\TO≠i1/\TO≠i2/\i1≠i2)->IsZip h' z TI TO .none->IsPair h' TI (.ref i1) (.ref i2)->IsPair h' TO .none .none->h'.IsTupleIter i1 l1 0->h'.IsTupleIter i2 l2 0->Q (.ref z) { s with heap:=h' }) :
  wpAny 90 A (call (.type "zip") [.ref l1,.ref l2]) Q E s:=by
 refine callType_new F.called_zip 69 (F.typeCall_zip_2 _ _) (F.newCall_zip_2 _ _) (λ obj=>F.args_object_init_3 obj _ _) F.entry_zip_new (zIE l1 l2 xs ys) ⟨hl1,hl2,λ h' z TI TO i1 i2 a0 a1 a2 a3 a4 a5 a6 a7 a8 a9 b1 b2=>?_⟩;exact⟨⟨_,a7,rfl⟩,h h' z TI TO i1 i2 a0 a1 a2 a3 a4 a5 a6 a7 a8 a9 b1 b2⟩
end
noncomputable def Itz (a b:Addr):It :=
 ⟨λ i H=>∃xs ys x y,H a=some (.tup xs)/\H b=some (.tup ys)/\xs[i]?=some x/\ys[i]?=some y,
 λ i H v H'=>∃T x y,H T=none/\v = .ref T/\H'=upd H T (.tup [x,y])/\(∀xs,H a=some (.tup xs)->xs[i]?=some x)/\∀ys,H b=some (.tup ys)->ys[i]?=some y,
 λ i H=>∃xs ys,H a=some (.tup xs)/\H b=some (.tup ys)/\(xs.length<=i\/ys.length<=i)⟩
theorem zKD {P:Program}{w:World}{K:W.Frag}{es:List Expr}{kk:Nat}{pos:Pos}(a b z TI TO i1 i2:Addr)
  (ap:TI≠z/\TO≠z/\i1≠z/\i2≠z/\TI≠TO/\TI≠i1/\TI≠i2/\TO≠i1/\TO≠i2/\i1≠i2) :
  Turn P w K (.Tuple es kk pos) (Itz a b) [z,TI,TO,i1,i2] z (λ i h=>IsZip h z TI TO .none/\IsPair h TI (.ref i1) (.ref i2)/\(∃p q,IsPair h TO p q)/\h.IsTupleIter i1 a i/\h.IsTupleIter i2 b i) where
 mem:=by simp
 obj:=λ i h st c hc=>by
  obtain⟨hz,hTI,⟨p,q,hTO⟩,⟨o1,e1,c1,d1⟩,o2,e2,c2,d2⟩:=st;simp only[nM,mZ,or_false] at hc;rcases hc with rfl|rfl|rfl|rfl|rfl
  ·exact⟨_,hz,λ v z=>by have z':Data.fields _=Data.cell v:=z;cases z'⟩
  ·exact⟨_,hTI,λ v z=>by have z':Data.seq _ _=Data.cell v:=z;cases z'⟩
  ·exact⟨_,hTO,λ v z=>by have z':Data.seq _ _=Data.cell v:=z;cases z'⟩
  ·exact⟨o1,e1,λ v z=>by rw[d1] at z;cases z⟩
  ·exact⟨o2,e2,λ v z=>by rw[d2] at z;cases z⟩
 keep:=λ i h h' st k=>by
  obtain⟨hz,hTI,⟨p,q,hTO⟩,⟨o1,e1,r1⟩,o2,e2,r2⟩:=st;exact⟨k z 68 _ hz,k TI 68 _ hTI,⟨p,q,k TO 68 _ hTO⟩,⟨o1,k i1 68 _ e1,r1⟩,o2,k i2 68 _ e2,r2⟩
 item:=by
  intro X hP hw hK hc i jP s σ H E I hf st hg;subst hP hw hK;obtain⟨xs,ys,x,y,ha,hb,hx,hy⟩:=hg;obtain⟨hz,hTI,⟨p,q,hTO⟩,h1,h2⟩:=st;obtain⟨its,rv,t1,_⟩:=I.tuple (SqT.of ha);obtain⟨its2,rv2,t2,_⟩:=I.tuple (SqT.of hb);obtain⟨u,hu,ru⟩:=rv.get hx;obtain⟨u2,hu2,ru2⟩:=rv2.get hy;obtain⟨n1,n2,n3,n4,n5,n6,n7,n8,n9,n10⟩:=ap;have ne:∀{c d:Addr}{o:HO},H c=some o->d∈[z,TI,TO,i1,i2]->c≠d:=λ e hd=>zAV e (hf _ hd).1;have D:ZipApart z TI TO i1 i2 a b:=88;refine zIM D hz hTI hTO h1 h2 (show s.heap.IsTuple a its.toArray from t1) (show s.heap.IsTuple b its2.toArray from t2) (by simpa using hu) (by simpa using hu2) λ q1 hz1 hTO1 j1 j2 hT hk=>⟨_,rfl,?_⟩;have hn:H s.heap.objs.size=none:=I.fresh;have hT1:IsPair q1 TI (.ref i1) (.ref i2):=hk _ _ n1 n5 n6 n7 hTI
  have neT:∀c∈[z,TI,TO,i1,i2],c≠s.heap.objs.size:=λ c hc=>by
   simp only[nM,mZ,or_false] at hc;rcases hc with rfl|rfl|rfl|rfl|rfl
   ·exact lT (lJ (show s.heap.get? _=some _ from hz))
   ·exact lT (lJ (show s.heap.get? _=some _ from hTI))
   ·exact lT (lJ (show s.heap.get? _=some _ from hTO))
   ·obtain⟨_,e,_⟩:=h1;exact lT (lJ e)
   ·obtain⟨_,e,_⟩:=h2;exact lT (lJ e)
  have I1:Inv X jP σ (upd H s.heap.objs.size (.tup [x,y])) { s with heap:=q1,toks:=s.toks }:=I.turnedL (ch:=[z,TO,i1,i2]) (λ c o hc e=>hk c o 89 89 89 89 e)
   (λ c hc=>hf c (by simp at hc ⊢;rcases hc with r|r|r|r<;>simp[r])) (lS _) ⟨Nat.le_of_lt (zAR (show 2<=1000 by decide)),[u,u2],.cons ru (.cons ru2 .nil),_,hT,rfl,_,rfl⟩
  refine wpAny_letOwnedTupleGo_zip (s:={ s with heap:=q1 }) hz1 λ q2 hz2 hs2=>⟨.ref s.heap.objs.size,_,?_,rfl,⟨_,x,y,hn,rfl,rfl,λ ws e=>by rw[ha] at e;cases e;exact hx,λ ws e=>by rw[hb] at e;cases e;exact hy⟩,⟨hz2,hs2.extBut _ _ n1 hT1,⟨_,_,hs2.extBut _ _ n2 hTO1⟩,itB j1 hs2 n3,itB j2 hs2 n4⟩,λ c hc=>?_⟩
  ·refine I1.turnedN (t':=s.toks) (ch:=[z]) (λ c o hc e=>(hs2.2 c 89).trans e) λ c hc=>?_
   have ec:=mQ.mp hc;subst ec;obtain⟨f0,f⟩:=hf c 68;exact⟨by rw[zAd (neT c 68)];exact f0,f⟩
  ·rw[zAd (neT c hc)];exact(hf c hc).1
 done:=by
  intro X hP hw hK hc i jP s σ H E I hf st hg;subst hP hw hK;obtain⟨xs,ys,ha,hb,hend⟩:=hg;obtain⟨hz,hTI,⟨p,q,hTO⟩,h1,h2⟩:=st;obtain⟨its,rv,t1,_⟩:=I.tuple (SqT.of ha);obtain⟨its2,rv2,t2,_⟩:=I.tuple (SqT.of hb);have l1:=rv.length;have l2:=rv2.length;obtain⟨n1,n2,n3,n4,n5,n6,n7,n8,n9,n10⟩:=ap;have ne:∀{c d:Addr}{o:HO},H c=some o->d∈[z,TI,TO,i1,i2]->c≠d:=λ e hd=>zAV e (hf _ hd).1;have D:ZipApart z TI TO i1 i2 a b:=88;refine zKB (I.ok.hd hc) D hz hTI hTO h1 h2 (show s.heap.IsTuple a its.toArray from t1) (show s.heap.IsTuple b its2.toArray from t2) ?_ λ q1 hk=>⟨rfl,?_⟩
  ·rcases hend with h|h
   ·exact .inl (by simp;lia)
   ·exact .inr (by simp;lia)
  ·exact I.turnedN (t':=s.toks) (ch:=[z,TO,i1,i2]) (λ c o hc e=>hk c o 89 89 89 89 e) (λ c hc=>hf c (by simp at hc ⊢;rcases hc with r|r|r|r<;>simp[r]))
 self:=λ Ω Ω Ω Ω Ω st h=>wpAny_pyIter_zip st.1 h
theorem zEi:bootBuiltins "zip" = some (.type "zip"):=by right
def iZip (ta:TA):TI:=λ σ H R=>ta σ H λ vs H1=>∃a b xs ys,vs=[.ref a,.ref b]/\H1 a=some (.tup xs)/\H1 b=some (.tup ys)/\R (Itz a b) H1
theorem zMY {X:Cx}{es:List Expr}{k:Nat}{tpos:Pos}{a b:Expr}{ta:TA}{p pos:Pos}(hg:Gl X "zip") (hm:X.mg "zip" = none) (ha:PA X [a,b] ta) (hs:starEach [a,b] X.env=[(false,eval a X.env),(false,eval b X.env)]:=by rfl) (hs2:starEach [b] X.env=[(false,eval b X.env)]:=by rfl) :
  PI X (.Tuple es k tpos) (.Call (.Name "zip" p) [a,b] [] pos) (iZip ta):=by
 intro jP s σ H R I h;refine Call_ (zCI I hg hm zEi (PyProof.Rows.callWith_type1 98 (by rw[hs,hs2]) (by rw[hs2];rfl)));obtain⟨l1,l2,xs,ys,e,h1,h2,q⟩:=q1;subst e;obtain⟨u,w',rfl,ru,rw'⟩:=vals2 r1;cases ru;cases rw';obtain⟨its,rv,t1,_⟩:=I1.tuple (SqT.of h1);obtain⟨its2,rv2,t2,_⟩:=I1.tuple (SqT.of h2);refine zGT (show s1.heap.IsTuple l1 its.toArray from t1) (show s1.heap.IsTuple l2 its2.toArray from t2) λ h' z TI TO i1 i2 a0 a1 a2 a3 a4 a5 a6 a7 a8 a9 b1 b2=>?_;refine wpAny_pyIter_zip a7 ⟨_,[z,TI,TO,i1,i2],_,_,H1,rfl,I1.kept (t':=s1.toks) a0,zKD l1 l2 z TI TO i1 i2 a6,⟨a7,a8,⟨_,_,a9⟩,b1,b2⟩,λ c hc=>?_,q⟩
 have ge:s1.heap.objs.size<=c:=by
  simp only[nM,mZ,or_false] at hc;rcases hc with rfl|rfl|rfl|rfl|rfl<;>assumption
 exact I1.fpOk ge (I1.hok.fresh ge)
theorem itL {h h':Heap}{a b t:Addr}{i:Nat}(x:h.IsListIter a t i) (e:Heap.SameBut b h h') (n:a≠b):h'.IsListIter a t i:=let ⟨o,ho,r⟩:=x;⟨o,e.extBut a o n ho,r⟩
noncomputable def Itzl (K:W.Frag) (a b:Addr):It :=
 ⟨λ i H=>∃xs ys x y,H a=some (.lst xs)/\H b=some (.lst ys)/\xs[i]?=some x/\ys[i]?=some y,
 λ i H v H'=>∃T x y,H T=none/\v = .ref T/\H'=upd H T (.tup [x,y])/\(∀xs,H a=some (.lst xs)->xs[i]?=some x)/\∀ys,H b=some (.lst ys)->ys[i]?=some y,
 λ i H=>∃xs ys,H a=some (.lst xs)/\H b=some (.lst ys)/\(xs.length<=i\/ys.length<=i)⟩
theorem zIQ {P:Program}{w:World}{K:W.Frag}{es:List Expr}{kk:Nat}{pos:Pos}(a b z TI TO i1 i2:Addr)
  (ap:TI≠z/\TO≠z/\i1≠z/\i2≠z/\TI≠TO/\TI≠i1/\TI≠i2/\TO≠i1/\TO≠i2/\i1≠i2) :
  Turn P w K (.Tuple es kk pos) (Itzl K a b) [z,TI,TO,i1,i2] z (λ i h=>IsZip h z TI TO .none/\IsPair h TI (.ref i1) (.ref i2)/\(∃p q,IsPair h TO p q)/\h.IsListIter i1 a i/\h.IsListIter i2 b i) where
 mem:=by simp
 obj:=λ i h st c hc=>by
  obtain⟨hz,hTI,⟨p,q,hTO⟩,⟨o1,e1,c1,d1⟩,o2,e2,c2,d2⟩:=st;simp only[nM,mZ,or_false] at hc;rcases hc with rfl|rfl|rfl|rfl|rfl
  ·exact⟨_,hz,λ v z=>by have z':Data.fields _=Data.cell v:=z;cases z'⟩
  ·exact⟨_,hTI,λ v z=>by have z':Data.seq _ _=Data.cell v:=z;cases z'⟩
  ·exact⟨_,hTO,λ v z=>by have z':Data.seq _ _=Data.cell v:=z;cases z'⟩
  ·exact⟨o1,e1,λ v z=>by rw[d1] at z;cases z⟩
  ·exact⟨o2,e2,λ v z=>by rw[d2] at z;cases z⟩
 keep:=λ i h h' st k=>by
  obtain⟨hz,hTI,⟨p,q,hTO⟩,⟨o1,e1,r1⟩,o2,e2,r2⟩:=st;exact⟨k z 68 _ hz,k TI 68 _ hTI,⟨p,q,k TO 68 _ hTO⟩,⟨o1,k i1 68 _ e1,r1⟩,o2,k i2 68 _ e2,r2⟩
 item:=by
  intro X hP hw hK hc i jP s σ H E I hf st hg;subst hP hw hK;obtain⟨xs,ys,x,y,ha,hb,hx,hy⟩:=hg;obtain⟨hz,hTI,⟨p,q,hTO⟩,h1,h2⟩:=st;obtain⟨its,rv,t1,_⟩:=I.list (SqL.of ha);obtain⟨its2,rv2,t2,_⟩:=I.list (SqL.of hb);obtain⟨u,hu,ru⟩:=rv.get hx;obtain⟨u2,hu2,ru2⟩:=rv2.get hy;obtain⟨n1,n2,n3,n4,n5,n6,n7,n8,n9,n10⟩:=ap;have ne:∀{c d:Addr}{o:HO},H c=some o->d∈[z,TI,TO,i1,i2]->c≠d:=λ e hd=>zAV e (hf _ hd).1;have D:ZipApart z TI TO i1 i2 a b:=88;refine wpAny_pyNext_zip_item D hz hTI hTO h1 h2 t1.isList t2.isList (by simpa using hu) (by simpa using hu2) λ q1 hz1 hTO1 j1 j2 hT hsz hk=>⟨_,rfl,?_⟩;have hn:H s.heap.objs.size=none:=I.fresh;have hT1:IsPair q1 TI (.ref i1) (.ref i2):=hk _ _ n1 n5 n6 n7 hTI
  have neT:∀c∈[z,TI,TO,i1,i2],c≠s.heap.objs.size:=λ c hc=>by
   simp only[nM,mZ,or_false] at hc;rcases hc with rfl|rfl|rfl|rfl|rfl
   ·exact lT (lJ (show s.heap.get? _=some _ from hz))
   ·exact lT (lJ (show s.heap.get? _=some _ from hTI))
   ·exact lT (lJ (show s.heap.get? _=some _ from hTO))
   ·obtain⟨_,e,_⟩:=h1;exact lT (lJ e)
   ·obtain⟨_,e,_⟩:=h2;exact lT (lJ e)
  have I1:Inv X jP σ (upd H s.heap.objs.size (.tup [x,y])) { s with heap:=q1,toks:=s.toks }:=I.turnedL (ch:=[z,TO,i1,i2]) (λ c o hc e=>hk c o 89 89 89 89 e)
   (λ c hc=>hf c (by simp at hc ⊢;rcases hc with r|r|r|r<;>simp[r])) (lS _) ⟨Nat.le_of_lt (zAR (show 2<=1000 by decide)),[u,u2],.cons ru (.cons ru2 .nil),_,hT,rfl,_,rfl⟩
  refine wpAny_letOwnedTupleGo_zip (s:={ s with heap:=q1 }) hz1 λ q2 hz2 hs2=>⟨.ref s.heap.objs.size,_,?_,rfl,⟨_,x,y,hn,rfl,rfl,λ ws e=>by rw[ha] at e;cases e;exact hx,λ ws e=>by rw[hb] at e;cases e;exact hy⟩,⟨hz2,hs2.extBut _ _ n1 hT1,⟨_,_,hs2.extBut _ _ n2 hTO1⟩,itL j1 hs2 n3,itL j2 hs2 n4⟩,λ c hc=>?_⟩
  ·refine I1.turnedN (t':=s.toks) (ch:=[z]) (λ c o hc e=>(hs2.2 c 89).trans e) λ c hc=>?_
   have ec:=mQ.mp hc;subst ec;obtain⟨f0,f⟩:=hf c 68;exact⟨by rw[zAd (neT c 68)];exact f0,f⟩
  ·rw[zAd (neT c hc)];exact(hf c hc).1
 done:=by
  intro X hP hw hK hc i jP s σ H E I hf st hg;subst hP hw hK;obtain⟨xs,ys,ha,hb,hend⟩:=hg;obtain⟨hz,hTI,⟨p,q,hTO⟩,h1,h2⟩:=st;obtain⟨its,rv,t1,_⟩:=I.list (SqL.of ha);obtain⟨its2,rv2,t2,_⟩:=I.list (SqL.of hb);have l1:=rv.length;have l2:=rv2.length;obtain⟨n1,n2,n3,n4,n5,n6,n7,n8,n9,n10⟩:=ap;have ne:∀{c d:Addr}{o:HO},H c=some o->d∈[z,TI,TO,i1,i2]->c≠d:=λ e hd=>zAV e (hf _ hd).1;have D:ZipApart z TI TO i1 i2 a b:=88;refine wpAny_pyNext_zip_end (I.ok.hd hc) D hz hTI hTO h1 h2 t1.isList t2.isList ?_ λ q1 hk=>⟨rfl,?_⟩
  ·rcases hend with h|h
   ·exact .inl (by simp;lia)
   ·exact .inr (by simp;lia)
  ·exact I.turnedN (t':=s.toks) (ch:=[z,TO,i1,i2]) (λ c o hc e=>hk c o 89 89 89 89 e) (λ c hc=>hf c (by simp at hc ⊢;rcases hc with r|r|r|r<;>simp[r]))
 self:=λ Ω Ω Ω Ω Ω st h=>wpAny_pyIter_zip st.1 h
def iZipL (K:W.Frag) (ta:TA):TI:=λ σ H R=>ta σ H λ vs H1=>∃a b xs ys,vs=[.ref a,.ref b]/\H1 a=some (.lst xs)/\H1 b=some (.lst ys)/\R (Itzl K a b) H1
theorem zLl {X:Cx}{es:List Expr}{k:Nat}{tpos:Pos}{a b:Expr}{ta:TA}{p pos:Pos}(hg:Gl X "zip") (hm:X.mg "zip" = none) (ha:PA X [a,b] ta) (hs:starEach [a,b] X.env=[(false,eval a X.env),(false,eval b X.env)]:=by rfl) (hs2:starEach [b] X.env=[(false,eval b X.env)]:=by rfl) :
  PI X (.Tuple es k tpos) (.Call (.Name "zip" p) [a,b] [] pos) (iZipL X.K ta):=by
 intro jP s σ H R I h;refine Call_ (zCI I hg hm zEi (PyProof.Rows.callWith_type1 98 (by rw[hs,hs2]) (by rw[hs2];rfl)));obtain⟨l1,l2,xs,ys,e,h1,h2,q⟩:=q1;subst e;obtain⟨u,w',rfl,ru,rw'⟩:=vals2 r1;cases ru;cases rw';obtain⟨its,rv,t1,_⟩:=I1.list (SqL.of h1);obtain⟨its2,rv2,t2,_⟩:=I1.list (SqL.of h2);refine call_zip_2 t1.isList t2.isList λ h' a7 a8 a9 b1 b2 hz hk=>?_;refine wpAny_pyIter_zip a7 ⟨_,[s1.heap.objs.size+4,s1.heap.objs.size+2,s1.heap.objs.size+3,s1.heap.objs.size,s1.heap.objs.size+1],_,_,H1,rfl,I1.kept (t':=s1.toks) hk,zIQ l1 l2 _ _ _ _ _ ?_,⟨a7,a8,⟨_,_,a9⟩,b1,b2⟩,λ c hc=>?_,q⟩
 ·refine⟨?_,?_,?_,?_,?_,?_,?_,?_,?_,?_⟩<;>(intro e;have e' : @Eq Nat _ _:=e;lia)
 ·have ge:s1.heap.objs.size<=c:=by
   simp only[nM,mZ,or_false] at hc;rcases hc with rfl|rfl|rfl|rfl|rfl
   ·exact Nat.le_add_right _ _
   ·exact Nat.le_add_right _ _
   ·exact Nat.le_add_right _ _
   ·exact lS _
   ·exact Nat.le_add_right _ _
  exact I1.fpOk ge (I1.hok.fresh ge)
theorem zKo {K:W.Frag}{a b:Addr}{xs ys:List V}{g:TG}{tb:TS}{D:Ends}{σ:L2.St}{H:Hp}(Pv:Nat->L2.St->Hp->Prop) (h0:Pv 0 σ H) (hl:∀i σ H,i<=min xs.length ys.length->Pv i σ H->H a=some (.lst xs)/\H b=some (.lst ys))
  (hs:∀i x y T σ H,xs[i]?=some x->ys[i]?=some y->Pv i σ H->H T=none->g (.ref T) σ (upd H T (.tup [x,y])) λ σ2 H2=>tb { D with nx:=Pv (i+1),ct:=Pv (i+1),bk:=D.nx } σ2 H2) (hd:∀σ H,Pv (min xs.length ys.length) σ H->D.nx σ H) :
  ∃W:Nat->Nat->L2.St->Hp->Prop,(∃m,W 0 m σ H)/\∀i m σ H,W i m σ H ->
   ((Itzl K a b).stop i H/\D.nx σ H)\/((Itzl K a b).go i H/\∃N:L2.St->Hp->Prop,95/\∀x H',(Itzl K a b).yld i H x H'->g x σ H' λ σ2 H2=>tb { D with nx:=N,ct:=N,bk:=D.nx } σ2 H2):=by
 refine⟨λ i m σ H=>m=min xs.length ys.length - i/\i<=min xs.length ys.length/\Pv i σ H,⟨min xs.length ys.length,by simp,mB _,h0⟩,?_⟩;rintro i m σ H ⟨rfl,hi,p⟩;obtain⟨ha,hb⟩:=hl i σ H hi p
 by_cases hlt:i<min xs.length ys.length
 ·have hx:i<xs.length:=by lia
  have hy:i<ys.length:=by lia
  refine .inr ⟨⟨xs,ys,xs[i],ys[i],ha,hb,by simp[hx],by simp[hy]⟩,Pv (i+1),λ σ' H' p'=>⟨min xs.length ys.length - (i+1),by lia,rfl,hlt,p'⟩,λ x H' y=>?_⟩;obtain⟨T,u,v,hT,ex,eH,e1,e2⟩:=y;subst ex eH;exact hs i u v T σ H (e1 xs ha) (e2 ys hb) p hT
 ·have e:i=min xs.length ys.length:=by lia
  subst e;exact .inl ⟨⟨xs,ys,ha,hb,by lia⟩,hd σ H p⟩
theorem zJz {a b:Addr}{xs ys:List V}{acc:Addr}{g:TG}{tt:TT}{te:TE}{σ:L2.St}{H:Hp}{R:Hp->Prop}(Pv:Nat->Hp->Prop) (h0:Pv 0 (upd H acc (.lst []))) (hl:∀i H,i<=min xs.length ys.length->Pv i H->H a=some (.tup xs)/\H b=some (.tup ys))
  (hs:∀i x y T H,xs[i]?=some x->ys[i]?=some y->Pv i H->H T=none->g (.ref T) σ (upd H T (.tup [x,y])) λ σ2 H4=>Ext σ σ2/\tt σ2 H4 λ b H5 =>
   if b=true then te σ2 H5 λ y H6=>∃zs,H6 acc=some (.lst zs)/\zs.length<sizeLine/\Pv (i+1) (upd H6 acc (.lst (zs++[y]))) else Pv (i+1) H5) (hd:∀H,Pv (min xs.length ys.length) H->R H) :
  ∃W:Nat->Nat->Hp->Prop,(∃m,W 0 m (upd H acc (.lst [])))/\∀i m H2,W i m H2 ->
   ((Itz a b).stop i H2/\R H2)\/((Itz a b).go i H2/\∃N:Hp->Prop,(∀H',N H'->∃m',m'<m/\W (i+1) m' H')/\∀x H3,(Itz a b).yld i H2 x H3->g x σ H3 λ σ2 H4=>Ext σ σ2/\tt σ2 H4 λ b H5 =>
    if b=true then te σ2 H5 λ y H6=>∃zs,H6 acc=some (.lst zs)/\zs.length<sizeLine/\N (upd H6 acc (.lst (zs++[y])))
    else N H5):=by
 refine⟨λ i m H=>m=min xs.length ys.length - i/\i<=min xs.length ys.length/\Pv i H,⟨min xs.length ys.length,by simp,mB _,h0⟩,?_⟩;rintro i m H2 ⟨rfl,hi,p⟩;obtain⟨ha,hb⟩:=hl i H2 hi p
 by_cases hlt:i<min xs.length ys.length
 ·have hx:i<xs.length:=by lia
  have hy:i<ys.length:=by lia
  refine .inr ⟨⟨xs,ys,xs[i],ys[i],ha,hb,by simp[hx],by simp[hy]⟩,Pv (i+1),λ H' p'=>⟨min xs.length ys.length - (i+1),by lia,rfl,hlt,p'⟩,λ x H' y=>?_⟩;obtain⟨T,u,v,hT,ex,eH,e1,e2⟩:=y;subst ex eH;exact hs i u v T H2 (e1 xs ha) (e2 ys hb) p hT
 ·have e:i=min xs.length ys.length:=by lia
  subst e;exact .inl ⟨⟨xs,ys,ha,hb,by lia⟩,hd H2 p⟩
theorem zGQ {K:W.Frag}{a:Addr}{xs:List V}{acc:Addr}{g:TG}{tt:TT}{te:TE}{σ:L2.St}{H:Hp}{R:Hp->Prop}(Pv:Nat->Hp->Prop) (h0:Pv 0 (upd H acc (.lst []))) (hl:∀i H,i<=xs.length->Pv i H->SqT K H a xs)
  (hs:∀i x H,xs[i]?=some x->Pv i H->g x σ H λ σ2 H4=>Ext σ σ2/\tt σ2 H4 λ b H5 =>
   if b=true then te σ2 H5 λ y H6=>∃zs,H6 acc=some (.lst zs)/\zs.length<sizeLine/\Pv (i+1) (upd H6 acc (.lst (zs++[y]))) else Pv (i+1) H5) (hd:∀H,Pv xs.length H->R H) :
  ∃W:Nat->Nat->Hp->Prop,(∃m,W 0 m (upd H acc (.lst [])))/\∀i m H2,W i m H2 ->
   ((Itt K a).stop i H2/\R H2)\/((Itt K a).go i H2/\∃N:Hp->Prop,(∀H',N H'->∃m',m'<m/\W (i+1) m' H')/\∀x H3,(Itt K a).yld i H2 x H3->g x σ H3 λ σ2 H4=>Ext σ σ2/\tt σ2 H4 λ b H5 =>
    if b=true then te σ2 H5 λ y H6=>∃zs,H6 acc=some (.lst zs)/\zs.length<sizeLine/\N (upd H6 acc (.lst (zs++[y])))
    else N H5):=by
 refine⟨λ i m H=>m=xs.length - i/\i<=xs.length/\Pv i H,⟨xs.length,by simp,mB _,h0⟩,?_⟩;rintro i m H2 ⟨rfl,hi,p⟩;have q:=hl i H2 hi p
 by_cases hlt:i<xs.length
 ·refine .inr ⟨⟨xs,xs[i],q,by simp[hlt]⟩,Pv (i+1),λ H' p'=>⟨xs.length - (i+1),by lia,rfl,hlt,p'⟩,λ x H' y=>?_⟩
  obtain⟨e,y⟩:=y;subst e;exact hs i x _ (y xs q) p
 ·have e:i=xs.length:=by lia
  subst e;exact .inl ⟨⟨xs,q,lS _⟩,hd H2 p⟩
theorem zDR {α β:Type}{F:α->β->Prop}{as bs:List α}{us vs:List β}(h:Paired F as us) (k:Paired F bs vs):Paired F (as++bs) (us++vs):=by
 induction h with
 |nil=>exact k
 |cons r t ih=>exact .cons r ih
theorem zHc {α:Type}:∀{l:List α},l.Nodup->∀{i j:Nat}{a:α},l[i]?=some a->l[j]?=some a->i=j
 |[],_,i,j,a,h,_=>by simp at h
 |x::l,nd,0,0,a,_,_=>rfl
 |x::l,nd,0,j+1,a,h1,h2=>by
  rw[rA] at nd;have e:x=a:=by simpa using h1
  exact absurd (e▸lN (show l[j]?=some a by simpa using h2)) nd.1
 |x::l,nd,i+1,0,a,h1,h2=>by
  rw[rA] at nd;have e:x=a:=by simpa using h2
  exact absurd (e▸lN (show l[i]?=some a by simpa using h1)) nd.1
 |x::l,nd,i+1,j+1,a,h1,h2=>by
  rw[rA] at nd;rw[zHc nd.2 (i:=i) (j:=j) (a:=a) (by simpa using h1) (by simpa using h2)]
theorem zEQ {X:Cx}{K:W.Frag}{es:List Expr}{k:Nat}{t:TGs}{n:Nat}{pos:Pos}(hK:X.K=K) (hc:X.calm=true) (h:PGs X es t)
  (hn:(assignEach es X.env).length=n:=by rfl) (hst:(assignEach es X.env).findIdx? (·.1)=none:=by rfl):PG X (.Tuple es k pos) (gTup K n t):=hK▸zCG hc h hn hst
section
variable {X:Cx}
theorem zFG:∀{bs:List Bool}{us:List Value},Vals (bs.map V.bl) us->LSm.BoolsAre us bs
 |[],_,h=>by cases h;exact .nil
 |b::bs,_,h=>by
  cases h with
  |cons r t =>
   cases r;exact .cons b (zFG t)
theorem zJ3 (hc:X.calm=true):CallR X (.builtin "all") (λ xs H Q=>E2 λ(l:Addr) (bs:List Bool)=>A3 (xs=[.ref l]) (H l=some (.lst (bs.map V.bl))) (Q (.bl (bs.all id)) H)):=by
 intro jP s σ H xs us Q I r h;obtain⟨l,bs,rfl,hl,q⟩:=h;obtain⟨u,rfl,ru⟩:=vals1 r;cases ru;obtain⟨_,its,n,rv,le,e⟩:=I.lstM hl;have L1:s.heap.IsList l its.toArray:=⟨_,e,rfl,_,rfl⟩;have hb:=zFG rv;have hlt:l<s.heap.objs.size:=lJ e;refine call_all_walk (wpAny_pyIter_list L1 ?_)
 refine⟨s.heap.objs.size,[s.heap.objs.size,l],[s.heap.objs.size],its.toArray.size,_,_,λ i=>(bs[i]?).getD true,rfl,Walks.list (A:=X.A.in1) (I.ok.hd hc) _ l (lT hlt) its.toArray,
  ⟨⟨_,lI _ rfl,rfl,rfl⟩,L1.push _⟩,λ i v s' Q' E' hP hQ=>?_,λ h' tk hk=>?_⟩
 ·obtain⟨b,e,rfl⟩:=hb.get i v (by simpa using hP)
  simp only[e,Option.getD_some] at hQ;exact wpAny_truthy_bool hQ
 ·have e:((List.range its.toArray.size).all λ i=>(bs[i]?).getD true)=bs.all id:=by
   rw[mF,hb.length];exact LSm.range_all bs
  rw[e];exact⟨.bl (bs.all id),H,I.kept (LSm.kept_iter hk),rfl,q⟩
theorem zIx (hu:X.A.units+1<cLine):OpR X (compareOp .In) (λ x y H Q=>E2 λ(a:Addr) (o:Option V)=>A3 (y = .ref a) (DGet H a x o) (Q (.bl o.isSome) H)):=by
 intro jP s σ H x y v u Q I rx ry h;obtain⟨a,o,rfl,g,q⟩:=h;cases ry;exact d_in hu I g rx λ s' I'=>⟨.bl o.isSome,H,I',rfl,q⟩
theorem zLE (hu:X.A.units<cLine):OpR X (compareOp .Eq) (λ x y H Q=>E3 λ(a b:Addr) (xs:List V)=>A5 (x = .ref a) (y = .ref b) (H a=some (.tup xs)) (H b=some (.tup [])) (Q (.bl (xs.length == 0)) H)):=by
 intro jP s σ H x y v u Q I rx ry h;obtain⟨a,b,xs,rfl,rfl,ha,hb,q⟩:=h;cases rx;cases ry;obtain⟨its,rv,p,_⟩:=I.tuple (SqT.of ha);obtain⟨its2,rv2,p2,_⟩:=I.tuple (SqT.of hb);have l1:=rv.length;have l2:=rv2.length;have z2:its2.toArray.size=0:=by rw[mF];exact l2.symm
 refine SeqAt.eq_tupleAt (e:=λ Ω=>true) (show s.heap.IsTuple a its.toArray from p) (show s.heap.IsTuple b its2.toArray from p2) hu (λ j Ω h2=>absurd h2 61) ?_
 have e:((List.range (min its.toArray.size its2.toArray.size)).all (λ Ω=>true) && its.toArray.size == its2.toArray.size)=(xs.length == 0):=by
  rw[z2,mF,←l1];simp
 rw[e];exact⟨.bl (xs.length == 0),H,I,rfl,q⟩
theorem zIy (hu:X.A.units<cLine):OpR X (compareOp .Eq) (λ x y H Q=>E3 λ(a b:Addr) (xs:List V)=>A5 (x = .ref a) (y = .ref b) (H a=some (.lst xs)) (H b=some (.lst [])) (Q (.bl (xs.length == 0)) H)):=by
 intro jP s σ H x y v u Q I rx ry h;obtain⟨a,b,xs,rfl,rfl,ha,hb,q⟩:=h;cases rx;cases ry;obtain⟨_,its,n,r1,l1,e1⟩:=I.lstM ha;obtain⟨_,its2,n2,r2,l2,e2⟩:=I.lstM hb;have L1:s.heap.IsList a its.toArray:=⟨_,e1,rfl,_,rfl⟩;have L2:s.heap.IsList b its2.toArray:=⟨_,e2,rfl,_,rfl⟩;have z2:its2.toArray.size=0:=by rw[mF];exact l2.symm
 by_cases hl:xs.length=0
 ·refine SeqAt.eq_listAt (e:=λ Ω=>true) L1 L2 (by rw[z2,mF];lia) hu (λ j Ω h2=>absurd h2 61) ?_
  have e:(List.range its.toArray.size).all (λ Ω=>true)=(xs.length == 0):=by rw[hl];simp
  rw[e];exact⟨.bl (xs.length == 0),H,I,rfl,q⟩
 ·refine SeqAt.eq_list_lengthsAt L1 L2 (by rw[z2,mF,bne_iff_ne];lia) hu ⟨.bl false,H,I,rfl,?_⟩
  have e:(xs.length == 0)=false:=by simpa using hl
  rw[e] at q;exact q
end
structure Sd (p:Prop):Prop where
 un:p
section
variable {X:Cx}{st:Stmt}{rest:List Stmt}{t u:TS}{e a b:Expr}{es:List Expr}{te ta tb:TE}{tA:TA}{pos:Pos}
theorem zAI (h1:Sd (PS X st t)) (h2:Sd (PSs X rest u)):Sd (PSs X (st::rest) (tSeq t u)):=⟨zAF h1.un h2.un⟩
theorem zAi (h1:Sd (PS X st t)):Sd (PSs X [st] t):=⟨zAE h1.un⟩
theorem zBM {c:Expr}{x y:List Stmt}{tc:TT}(hc:Sd (PT X c tc)) (ha:Sd (PSs X x t)) (hb:Sd (PSs X y u)):Sd (PS X (.If c x y pos) (tIfS tc t u)):=⟨ps_if hc.un ha.un hb.un⟩
theorem zAn (he:Sd (PE X e te)):Sd (PS X (.Return (some e) pos) (tRet te)):=⟨zAU he.un⟩
theorem zLg {i:Nat}{x:Str}{pos':Pos}(hN:X.N.Nodup) (hi:X.N[i]?=some x) (hx:Loc X.env.scope x) (he:Sd (PE X e te)) (hs:swapsWith e (some (.Name x pos')) pos.line X.env=pure false:=by rfl) (hf:X.fn x=true\/X.env.scope.names.lookup x=some .local:=by first|exact .inl rfl|exact .inr rfl|assumption) :
  Sd (PS X (.Assign [.Name x pos'] e pos) (tAsg te (gName i))):=⟨zF0 hN hi hx he.un hs hf⟩
theorem pSS {i:Nat}{x:Str}{pos':Pos}(hN:X.N.Nodup)(he:Sd (PE X e te))(hi:X.N[i]?=some x:=by rfl)(hx:Loc X.env.scope x:=by exact Or.inl rfl)(hs:swapsWith e (some (.Name x pos')) pos.line X.env=pure false:=by rfl)(hf:X.fn x=true\/X.env.scope.names.lookup x=some .local:=by first|exact .inl rfl|exact .inr rfl|assumption):Sd (PS X (.Assign [.Name x pos'] e pos) (tAsg te (gName i))):=zLg hN hi hx he hs hf
theorem zDr {k:Nat}(h:Sd (PA X es tA)):Sd (PE X (.Tuple es k pos) (tTup tA)):=⟨zAZ h.un⟩
theorem zDQ (h:Sd (PA X es tA)):Sd (PE X (.List es pos) (tLst tA)):=⟨zA8 h.un⟩
theorem zAq (ha:Sd (PE X e te)) (hr:Sd (PA X es tA)) (hs:starEach (e::es) X.env=(false,eval e X.env)::starEach es X.env:=by rfl):Sd (PA X (e::es) (tCons te tA)):=⟨zAA ha.un hr.un hs⟩
theorem zC6 {r:R2}(hr:IxR X r) (ha:Sd (PE X a ta)) (hb:Sd (PE X b tb)) (hs:zJ9 b):Sd (PE X (.Subscript a b pos) (tOp r ta tb)):=⟨pe_ix hr ha.un hb.un hs⟩
end
section
variable {prog:Program}{w:World}{A:Around}{E:XQ}{s:Shared}
abbrev ZipF (h:Heap) (z TI TO:Addr) (f0:Value) (f1:Bool):Prop:=h.get? z=some { cls:=.type "zip", data:=.fields #[f0,.bool f1,.bool false,.ref TI,.ref TO] }
def ZipS (h:Heap) (z TI TO:Addr):Prop:=∃f0 f1,ZipF h z TI TO f0 f1/\(f0 = .none\/∃n:Nat,f0=rawInt n)
theorem zGd {M:Model}{a:Addr}{Q:Option Obj->Shared->Prop}(h:Q (s.heap.get? a) s):wpAny M A (loadIfAlive a) Q E s:=by
 intro Γ p hΓ;show Sem.wp M Γ (Sem.loadIfAlive a pure) _ _ p s;rw[Sem.wp_loadIfAlive];exact h
theorem zG8 {z TI TO:Addr}{f0:Value}{f1:Bool}{Q:Bool->Shared->Prop}(hz:ZipF s.heap z TI TO f0 f1) (hf:f0 = .none\/∃n:Nat,f0=rawInt n) (h1:Q true s)
  (h2:∀h',ZipF h' z TI TO f0 true->Heap.SameBut z s.heap h'->Q false { s with heap:=h' }):wpAny 90 A (Builtin.SmallTypes.ownedTupleIsFree (.ref z)) Q E s:=by
 unfold Builtin.SmallTypes.ownedTupleIsFree;refine lC (wpAny_field hz rfl (x:=f0) rfl ?_);rcases hf with rfl|⟨n,rfl⟩
 ·exact lD h1
 ·show wpAny _ _ (loadIfAlive ((n:Int)).toNat >>= _) _ _ _
  refine lC (zGd ?_);cases hg:s.heap.get? ((n:Int)).toNat with
  |none=>exact lD h1
  |some o =>
   show wpAny _ _ (field (.ref z) 1 >>= _) _ _ _;refine lC (wpAny_field hz rfl (x:=.bool f1) rfl ?_);cases f1 with
   |true=>exact lD (h2 s.heap hz ⟨rfl,λ Ω Ω=>rfl⟩)
   |false =>
    show wpAny _ _ (setField (.ref z) 1 (.bool true) >>= _) _ _ _;exact lC (wpAny_setField_rec hz 68 λ q hz1 hs1=>lD (h2 q hz1 hs1))
theorem zIN {z TI TO i1 i2 l1 l2:Addr}{k:Nat}{xs ys:Array Value}{x y a b:Value}{Q:XQ}(D:ZipApart z TI TO i1 i2 l1 l2)
  (hz:ZipS s.heap z TI TO) (hTI:IsPair s.heap TI (.ref i1) (.ref i2)) (hTO:IsPair s.heap TO a b) (h1:s.heap.IsTupleIter i1 l1 k) (h2:s.heap.IsTupleIter i2 l2 k)
  (hl1:s.heap.IsTuple l1 xs) (hl2:s.heap.IsTuple l2 ys) (hx:xs[k]?=some x) (hy:ys[k]?=some y)
  (hQ:∀h',ZipS h' z TI TO->(∃p q,IsPair h' TO p q)->h'.IsTupleIter i1 l1 (k+1)->h'.IsTupleIter i2 l2 (k+1)->IsPair h' s.heap.objs.size x y->h'.objs.size=s.heap.objs.size+1 ->
   (∀c o,c≠z->c≠TO->c≠i1->c≠i2->s.heap.get? c=some o->h'.get? c=some o)->Q (.ref s.heap.objs.size) { s with heap:=h' }):wpAny 90 A (Builtin.SmallTypes.nextOf (.ref z)) Q E s:=by
 obtain⟨f0,f1,hz,hf⟩:=hz;have hT:s.TypeIs (.ref z) "zip" := ⟨_,hz,rfl⟩;unfold Builtin.SmallTypes.nextOf;refine lC 92;show wpAny _ _ (field (.ref z) 2 >>= _) _ _ _;refine lC (wpAny_field hz rfl (x:=.bool false) rfl ?_);show wpAny _ _ (field (.ref z) 3 >>= _) _ _ _;refine lC (wpAny_field hz rfl (x:=.ref TI) rfl ?_);refine lC (wpAny_seqItems hTI rfl ?_);show wpAny _ _ (Builtin.SmallTypes.ownedTupleIsFree (.ref z) >>= _) _ _ _;refine lC (zG8 hz hf ?_ λ q1 hz1 hs1=>?_)
 ·simp only[if_true];refine lC (wpAny_rule ?_);refine lC (wpAny_field hz rfl (x:=.ref TO) rfl ?_)
  refine lC (wpAny_setField_rec hz 68 λ q1 hz1 hs1=>?_);replace hz1:ZipF q1 z TI TO .ellipsis f1:=hz1;refine lC ?_;simp only[List.zipIdx_cons,List.zipIdx_nil,List.forIn_cons,List.forIn_nil];refine lC (lC (wpAny_onRaise ?_));show wpAny _ _ (Builtin.SmallTypes.nextOf (.ref i1) >>= _) _ _ _;refine lC (zAm (itB h1 hs1 D.i1z) (tpB hl1 hs1 D.l1z) hx λ q2 j1 hs2=>lD ?_);have hTO2:IsPair q2 TO a b:=hs2.extBut _ _ D.TOi1 (hs1.extBut _ _ D.TOz hTO);refine lC (wpAny_seqItems hTO2 rfl ?_);refine lC (wpAny_updateSeq_pair hTO2 λ q3 hTO3 hs3=>?_);replace hTO3:IsPair q3 TO x b:=hTO3;refine lC (wpAny_letGo (lD ?_));refine lC (lC (wpAny_onRaise ?_));show wpAny _ _ (Builtin.SmallTypes.nextOf (.ref i2) >>= _) _ _ _;refine lC (zAm (itB (itB (itB h2 hs1 D.i2z) hs2 D.i12.symm) hs3 D.TOi2.symm) (tpB (tpB (tpB hl2 hs1 D.l2z) hs2 D.l2i1) hs3 D.l2TO) hy λ q4 j2 hs4=>lD ?_);have hTO4:IsPair q4 TO x b:=hs4.extBut _ _ D.TOi2 hTO3;refine lC (wpAny_seqItems hTO4 rfl ?_);refine lC (wpAny_updateSeq_pair hTO4 λ q5 hTO5 hs5=>?_);replace hTO5:IsPair q5 TO x y:=hTO5;refine lC (wpAny_letGo (lD (lD ?_)));refine lC (wpAny_seqItems hTO5 rfl ?_);refine lC (wpAny_newTuple ?_);have hsz:q5.objs.size=s.heap.objs.size:=by rw[hs5.1,hs4.1,hs3.1,hs2.1,hs1.1]
  have hz5:ZipF q5 z TI TO .ellipsis f1:=hs5.extBut _ _ D.TOz.symm (hs4.extBut _ _ D.i2z.symm (hs3.extBut _ _ D.TOz.symm (hs2.extBut _ _ D.i1z.symm hz1)));have hk5:∀c o,c≠z->c≠TO->c≠i1->c≠i2->s.heap.get? c=some o->q5.get? c=some o:=λ c o c1 c2 c3 c4 e=>hs5.extBut _ _ c2 (hs4.extBut _ _ c4 (hs3.extBut _ _ c2 (hs2.extBut _ _ c3 (hs1.extBut _ _ c1 e))));have j15:q5.IsTupleIter i1 l1 (k+1):=itB (itB (itB j1 hs3 D.TOi1.symm) hs4 D.i12) hs5 D.TOi1.symm;have j25:q5.IsTupleIter i2 l2 (k+1):=itB j2 hs5 D.TOi2.symm;have hzlt:z<q5.objs.size:=lJ hz5;show wpAny _ _ (Builtin.SmallTypes.ownedTupleHandOut (.ref z) (.ref q5.objs.size) >>= _) _ _ _;refine lC ?_;unfold Builtin.SmallTypes.ownedTupleHandOut;have hz6:ZipF (q5.push { cls:=.type "tuple", data:=.seq #[x,y] }) z TI TO .ellipsis f1:=lH _ hz5;refine lC (wpAny_setField_rec hz6 68 λ q7 hz7 hs7=>?_);replace hz7:ZipF q7 z TI TO (rawInt q5.objs.size) f1:=hz7;refine wpAny_setField_rec hz7 68 λ q8 hz8 hs8=>?_;replace hz8:ZipF q8 z TI TO (rawInt q5.objs.size) false:=hz8;have up:∀c o,c≠z->q5.get? c=some o->q8.get? c=some o:=λ c o c1 e=>hs8.extBut _ _ c1 (hs7.extBut _ _ c1 (lH _ e));have hT8:IsPair q8 q5.objs.size x y:=hs8.extBut _ _ (Nat.ne_of_gt hzlt) (hs7.extBut _ _ (Nat.ne_of_gt hzlt) (lI _ rfl));have hsz8:q8.objs.size=s.heap.objs.size+1:=by rw[hs8.1,hs7.1,Heap.size_push,hsz]
  rw[hsz] at hz8 hT8;refine lD ⟨_,rfl,lD ?_⟩;show Q (.ref q5.objs.size) _;rw[hsz];exact hQ q8 ⟨_,_,hz8,.inr 72⟩ ⟨_,_,up _ _ D.TOz hTO5⟩ (let ⟨o,e,r⟩:=j15;⟨o,up _ o D.i1z e,r⟩) (let ⟨o,e,r⟩:=j25;⟨o,up _ o D.i2z e,r⟩) hT8 hsz8 λ c o c1 c2 c3 c4 e=>up c o c1 (hk5 c o c1 c2 c3 c4 e)
 ·rw[if_neg Bool.false_ne_true]
  refine lC ?_;rw[←Array.forIn_toList];simp only[List.forIn_cons,List.forIn_nil];refine lC (lC (lG ?_));show wpAny _ _ (Builtin.SmallTypes.nextOf (.ref i1) >>= _) _ _ _;refine lC (zAm (itB h1 hs1 D.i1z) (tpB hl1 hs1 D.l1z) hx λ q2 j1 hs2=>lD (lD ?_));refine lC (lC (lG ?_));show wpAny _ _ (Builtin.SmallTypes.nextOf (.ref i2) >>= _) _ _ _;refine lC (zAm (itB (itB h2 hs1 D.i2z) hs2 D.i12.symm) (tpB (tpB hl2 hs1 D.l2z) hs2 D.l2i1) hy λ q4 j2 hs4=>lD (lD (lD ?_)));refine lC (wpAny_newTuple ?_ (by show 2<=sizeLine;decide));have hsz:q4.objs.size=s.heap.objs.size:=by rw[hs4.1,hs2.1,hs1.1]
  have hz4:ZipF q4 z TI TO f0 true:=hs4.extBut _ _ D.i2z.symm (hs2.extBut _ _ D.i1z.symm hz1);have up:∀c o,q4.get? c=some o->(q4.push { cls:=.type "tuple", data:=.seq #[x,y] }).get? c=some o:=λ c o e=>lH _ e;have hk4:∀c o,c≠z->c≠TO->c≠i1->c≠i2->s.heap.get? c=some o->q4.get? c=some o:=λ c o c1 c2 c3 c4 e=>hs4.extBut _ _ c4 (hs2.extBut _ _ c3 (hs1.extBut _ _ c1 e));have hT8:IsPair (q4.push { cls:=.type "tuple", data:=.seq #[x,y] }) q4.objs.size x y:=lI _ rfl;have hTO4:IsPair q4 TO a b:=hs4.extBut _ _ D.TOi2 (hs2.extBut _ _ D.TOi1 (hs1.extBut _ _ D.TOz hTO));have hsz8:(q4.push { cls:=.type "tuple", data:=.seq #[x,y] }).objs.size=s.heap.objs.size+1:=by rw[Heap.size_push,hsz]
  refine lD ⟨_,rfl,lD ?_⟩;show Q (.ref q4.objs.size) { s with heap:=q4.push { cls:=.type "tuple", data:=.seq #[x,y] } };rw[hsz] at hT8 ⊢;exact hQ _ ⟨_,_,up _ _ hz4,hf⟩ ⟨_,_,up _ _ hTO4⟩ (let ⟨o,e,r⟩:=itB j1 hs4 D.i12;⟨o,up _ o e,r⟩) (let ⟨o,e,r⟩:=j2;⟨o,up _ o e,r⟩) hT8 hsz8 λ c o c1 c2 c3 c4 e=>up c o (hk4 c o c1 c2 c3 c4 e)
theorem zKC {z TI TO i1 i2 l1 l2:Addr}{k:Nat}{xs ys:Array Value}{a b:Value}{Q:XQ}(hh:A.handled=none) (D:ZipApart z TI TO i1 i2 l1 l2)
  (hz:ZipS s.heap z TI TO) (hTI:IsPair s.heap TI (.ref i1) (.ref i2)) (hTO:IsPair s.heap TO a b) (h1:s.heap.IsTupleIter i1 l1 k) (h2:s.heap.IsTupleIter i2 l2 k)
  (hl1:s.heap.IsTuple l1 xs) (hl2:s.heap.IsTuple l2 ys) (hend:xs[k]?=none\/ys[k]?=none)
  (hE:∀h' e,(∀c o,c≠z->c≠TO->c≠i1->c≠i2->s.heap.get? c=some o->h'.get? c=some o)->(∃o,h'.get? e=some o/\o.cls = .type "StopIteration")->E (.ref e) { s with heap:=h' }):wpAny 90 A (Builtin.SmallTypes.nextOf (.ref z)) Q E s:=by
 obtain⟨f0,f1,hz,hf⟩:=hz;have hT:s.TypeIs (.ref z) "zip" := ⟨_,hz,rfl⟩;unfold Builtin.SmallTypes.nextOf;refine lC 92;show wpAny _ _ (field (.ref z) 2 >>= _) _ _ _;refine lC (wpAny_field hz rfl (x:=.bool false) rfl ?_);show wpAny _ _ (field (.ref z) 3 >>= _) _ _ _;refine lC (wpAny_field hz rfl (x:=.ref TI) rfl ?_);refine lC (wpAny_seqItems hTI rfl ?_);show wpAny _ _ (Builtin.SmallTypes.ownedTupleIsFree (.ref z) >>= _) _ _ _;refine lC (zG8 hz hf ?_ λ q1 hz1 hs1=>?_)
 ·simp only[if_true];refine lC (wpAny_rule ?_);refine lC (wpAny_field hz rfl (x:=.ref TO) rfl ?_)
  refine lC (wpAny_setField_rec hz 68 λ q1 hz1 hs1=>?_);replace hz1:ZipF q1 z TI TO .ellipsis f1:=hz1;refine lC ?_;simp only[List.zipIdx_cons,List.zipIdx_nil,List.forIn_cons,List.forIn_nil];refine lC (lC (wpAny_onRaise ?_));show wpAny _ _ (Builtin.SmallTypes.nextOf (.ref i1) >>= _) _ _ _;cases hx:xs[k]? with
  |none =>
   refine lC (zBA hh (itB h1 hs1 D.i1z) (tpB hl1 hs1 D.l1z) hx λ q2 e hs2 he=>?_);obtain⟨oe,hoe,hce⟩:=he;have hz2:ZipF q2 z TI TO .ellipsis f1:=hs2 _ _ D.i1z.symm hz1;have hez:e≠z:=λ x=>by subst x;rw[hz2] at hoe;cases hoe;simp at hce
   exact wpAny_setField_rec hz2 68 λ q3 Ω hs3=>hE q3 e (λ c o c1 Ω c3 Ω x=>hs3.extBut _ _ c1 (hs2 _ _ c3 (hs1.extBut _ _ c1 x))) ⟨oe,hs3.extBut _ _ hez hoe,hce⟩
  |some x =>
   have hy:ys[k]?=none:=by rcases hend with h|h;rw[hx] at h;cases h;exact h
   refine lC (zAm (itB h1 hs1 D.i1z) (tpB hl1 hs1 D.l1z) hx λ q2 j1 hs2=>lD ?_);have hTO2:IsPair q2 TO a b:=hs2.extBut _ _ D.TOi1 (hs1.extBut _ _ D.TOz hTO);refine lC (wpAny_seqItems hTO2 rfl ?_);refine lC (wpAny_updateSeq_pair hTO2 λ q3 hTO3 hs3=>?_);refine lC (wpAny_letGo (lD ?_));refine lC (lC (wpAny_onRaise ?_));show wpAny _ _ (Builtin.SmallTypes.nextOf (.ref i2) >>= _) _ _ _;refine lC (zBA hh (itB (itB (itB h2 hs1 D.i2z) hs2 D.i12.symm) hs3 D.TOi2.symm) (tpB (tpB (tpB hl2 hs1 D.l2z) hs2 D.l2i1) hs3 D.l2TO) hy λ q4 e hs4 he=>?_);obtain⟨oe,hoe,hce⟩:=he;have hz4:ZipF q4 z TI TO .ellipsis f1:=hs4 _ _ D.i2z.symm (hs3.extBut _ _ D.TOz.symm (hs2.extBut _ _ D.i1z.symm hz1));have hez:e≠z:=λ x=>by subst x;rw[hz4] at hoe;cases hoe;simp at hce
   exact wpAny_setField_rec hz4 68 λ q5 Ω hs5=>hE q5 e (λ c o c1 c2 c3 c4 x=>hs5.extBut _ _ c1 (hs4 _ _ c4 (hs3.extBut _ _ c2 (hs2.extBut _ _ c3 (hs1.extBut _ _ c1 x))))) ⟨oe,hs5.extBut _ _ hez hoe,hce⟩
 ·rw[if_neg Bool.false_ne_true]
  refine lC ?_;rw[←Array.forIn_toList];simp only[List.forIn_cons,List.forIn_nil];refine lC (lC (lG ?_));show wpAny _ _ (Builtin.SmallTypes.nextOf (.ref i1) >>= _) _ _ _;cases hx:xs[k]? with
  |none =>
   refine lC (zBA hh (itB h1 hs1 D.i1z) (tpB hl1 hs1 D.l1z) hx λ q2 e hs2 he=>?_);exact hE q2 e (λ c o c1 Ω c3 Ω x=>hs2 _ _ c3 (hs1.extBut _ _ c1 x)) he
  |some x =>
   have hy:ys[k]?=none:=by rcases hend with h|h;rw[hx] at h;cases h;exact h
   refine lC (zAm (itB h1 hs1 D.i1z) (tpB hl1 hs1 D.l1z) hx λ q2 j1 hs2=>lD (lD ?_));refine lC (lC (lG ?_));show wpAny _ _ (Builtin.SmallTypes.nextOf (.ref i2) >>= _) _ _ _;refine lC (zBA hh (itB (itB h2 hs1 D.i2z) hs2 D.i12.symm) (tpB (tpB hl2 hs1 D.l2z) hs2 D.l2i1) hy λ q4 e hs4 he=>?_);exact hE q4 e (λ c o c1 Ω c3 c4 x=>hs4 _ _ c4 (hs2.extBut _ _ c3 (hs1.extBut _ _ c1 x))) he
end
noncomputable def Itez (a b:Addr):It :=
 ⟨λ i H=>∃xs ys x y,H a=some (.tup xs)/\H b=some (.tup ys)/\xs[i]?=some x/\ys[i]?=some y,
 λ i H v H'=>∃T U x y,H U=none/\(upd H U (.tup [x,y])) T=none/\v = .ref T/\H'=upd (upd H U (.tup [x,y])) T (.tup [.int i,.ref U])/\(∀xs,H a=some (.tup xs)->xs[i]?=some x)/\∀ys,H b=some (.tup ys)->ys[i]?=some y,
 λ i H=>∃xs ys,H a=some (.tup xs)/\H b=some (.tup ys)/\(xs.length<=i\/ys.length<=i)⟩
abbrev EnZ (a b e z TI TO i1 i2:Addr) (i:Nat) (h:Heap):Prop:=(∃old,IsEnum h e z i old)/\ZipS h z TI TO/\IsPair h TI (.ref i1) (.ref i2)/\(∃p q,IsPair h TO p q)/\h.IsTupleIter i1 a i/\h.IsTupleIter i2 b i
theorem zLW {P:Program}{w:World}{K:W.Frag}{es:List Expr}{kk:Nat}{pos:Pos}(a b e z TI TO i1 i2:Addr)
  (ap:TI≠z/\TO≠z/\i1≠z/\i2≠z/\TI≠TO/\TI≠i1/\TI≠i2/\TO≠i1/\TO≠i2/\i1≠i2) (ae:e≠z/\e≠TI/\e≠TO/\e≠i1/\e≠i2) :
  Turn P w K (.Tuple es kk pos) (Itez a b) [e,z,TI,TO,i1,i2] e (EnZ a b e z TI TO i1 i2) where
 mem:=by simp
 obj:=λ i h st c hc=>by
  obtain⟨⟨old,he⟩,⟨f0,f1,hz,_⟩,hTI,⟨p,q,hTO⟩,⟨o1,e1,c1,d1⟩,o2,e2,c2,d2⟩:=st;simp only[nM,mZ,or_false] at hc;rcases hc with rfl|rfl|rfl|rfl|rfl|rfl
  ·exact⟨_,he,λ v z=>by have z':Data.fields _=Data.cell v:=z;cases z'⟩
  ·exact⟨_,hz,λ v z=>by have z':Data.fields _=Data.cell v:=z;cases z'⟩
  ·exact⟨_,hTI,λ v z=>by have z':Data.seq _ _=Data.cell v:=z;cases z'⟩
  ·exact⟨_,hTO,λ v z=>by have z':Data.seq _ _=Data.cell v:=z;cases z'⟩
  ·exact⟨o1,e1,λ v z=>by rw[d1] at z;cases z⟩
  ·exact⟨o2,e2,λ v z=>by rw[d2] at z;cases z⟩
 keep:=λ i h h' st k=>by
  obtain⟨⟨old,he⟩,⟨f0,f1,hz,hf⟩,hTI,⟨p,q,hTO⟩,⟨o1,e1,r1⟩,o2,e2,r2⟩:=st;exact⟨⟨old,k e 68 _ he⟩,⟨f0,f1,k z 68 _ hz,hf⟩,k TI 68 _ hTI,⟨p,q,k TO 68 _ hTO⟩,⟨o1,k i1 68 _ e1,r1⟩,o2,k i2 68 _ e2,r2⟩
 item:=by
  intro X hP hw hK hc i jP s σ H E I hf st hg;subst hP hw hK;obtain⟨xs,ys,x,y,ha,hb,hx,hy⟩:=hg;obtain⟨⟨old,he⟩,hz,hTI,⟨p,q,hTO⟩,h1,h2⟩:=st;obtain⟨its,rv,t1,_⟩:=I.tuple (SqT.of ha);obtain⟨its2,rv2,t2,_⟩:=I.tuple (SqT.of hb);obtain⟨u,hu,ru⟩:=rv.get hx;obtain⟨u2,hu2,ru2⟩:=rv2.get hy;obtain⟨n1,n2,n3,n4,n5,n6,n7,n8,n9,n10⟩:=ap;obtain⟨m1,m2,m3,m4,m5⟩:=ae;have ne:∀{c d:Addr}{o:HO},H c=some o->d∈[e,z,TI,TO,i1,i2]->c≠d:=λ e hd=>zAV e (hf _ hd).1;have D:ZipApart z TI TO i1 i2 a b:=88;have hT:s.TypeIs (.ref e) "enumerate" := ⟨_,he,rfl⟩
  have lts:∀c∈[e,z,TI,TO,i1,i2],c<s.heap.objs.size:=λ c hc=>by
   simp only[nM,mZ,or_false] at hc;rcases hc with rfl|rfl|rfl|rfl|rfl|rfl
   ·exact lJ (show s.heap.get? _=some _ from he)
   ·obtain⟨_,_,hz,_⟩:=hz;exact lJ (show s.heap.get? _=some _ from hz)
   ·exact lJ (show s.heap.get? _=some _ from hTI)
   ·exact lJ (show s.heap.get? _=some _ from hTO)
   ·obtain⟨_,e,_⟩:=h1;exact lJ e
   ·obtain⟨_,e,_⟩:=h2;exact lJ e
  unfold pyNext;refine lC 85;show wpAny _ _ (field (.ref e) 2 >>= _) _ _ _;refine lC (wpAny_field he rfl (x:=.ref z) rfl ?_);refine lC (zIN D hz hTI hTO h1 h2 (show s.heap.IsTuple a its.toArray from t1) (show s.heap.IsTuple b its2.toArray from t2) (by simpa using hu) (by simpa using hu2) λ q1 hz1 hTO1 j1 j2 hU hsz1 hk1=>?_);have he1:IsEnum q1 e z i old:=hk1 _ _ m1 m3 m4 m5 he;show wpAny _ _ (field (.ref e) 3 >>= _) _ _ _;refine lC (wpAny_field he1 rfl (x:=rawInt i) rfl ?_);show wpAny _ _ (field (.ref e) 4 >>= _) _ _ _;refine lC (wpAny_field he1 rfl (x:=.none) rfl ?_);show wpAny _ _ (mkInt (i:Int) >>= _) _ _ _;refine lC (wpAny_mkInt ?_);refine lC (wpAny_setField_rec he1 68 λ q2 he2 hs2=>?_);refine lC (wpAny_setField_rec he2 68 λ q3 he3 hs3=>?_);refine lC (wpAny_newTuple ?_ (by show 2<=sizeLine;decide));have hsz3:q3.objs.size=s.heap.objs.size+1:=by rw[hs3.1,hs2.1,hsz1]
  have he4:IsEnum (q3.push { cls:=.type "tuple", data:=.seq #[.int i s.toks,.ref s.heap.objs.size] }) e z ((i:Int)+1) old:=lH _ he3;show wpAny _ _ (Builtin.SmallTypes.ownedTupleIsFree (.ref e) >>= _) _ _ _;refine lC ?_;unfold Builtin.SmallTypes.ownedTupleIsFree;refine lC (wpAny_field he4 rfl (x:=.none) rfl (lD ?_));simp only[if_true];refine lC (wpAny_rule ?_);refine lC (wpAny_field he4 rfl (x:=old) rfl ?_);refine lC (wpAny_setField_rec he4 68 λ q5 he5 hs5=>?_);show wpAny _ _ (Builtin.SmallTypes.ownedTupleHandOut (.ref e) (.ref q3.objs.size) >>= _) _ _ _;refine lC ?_;unfold Builtin.SmallTypes.ownedTupleHandOut;refine lC (wpAny_setField_rec he5 68 λ q6 he6 hs6=>?_);refine wpAny_setField_rec he6 68 λ q7 he7 hs7=>?_;refine lC (wpAny_letGo ?_);refine lD ⟨_,rfl,lD ⟨_,rfl,?_⟩⟩;have hU7:∀c o,c≠e->q3.get? c=some o->q7.get? c=some o:=λ c o c1 h=>hs7.extBut _ _ c1 (hs6.extBut _ _ c1 (hs5.extBut _ _ c1 (lH _ h)));have h17:∀c o,c≠e->q1.get? c=some o->q7.get? c=some o:=λ c o c1 h=>hU7 c o c1 (hs3.extBut _ _ c1 (hs2.extBut _ _ c1 h));have eLt:=lts e 68
  have hT7:IsPair q7 q3.objs.size (.int i s.toks) (.ref s.heap.objs.size):=by
   have nE:q3.objs.size≠e:=by rw[hsz3];exact Nat.ne_of_gt (Nat.lt_succ_of_lt eLt)
   exact hs7.extBut _ _ nE (hs6.extBut _ _ nE (hs5.extBut _ _ nE (lI _ rfl)))
  have hout:IsEnumOut q7 e z ((i:Int)+1) (.ref s.heap.objs.size) q3.objs.size:=he7;have hn:H s.heap.objs.size=none:=I.fresh;have kAll:∀c o,c∉[e,z,TO,i1,i2]->s.heap.get? c=some o->q3.get? c=some o:=λ c o hc h=>hs3.extBut _ _ 89 (hs2.extBut _ _ 89 (hk1 c o 89 89 89 89 h));have hfE:∀c∈[e,z,TO,i1,i2],FpOk X jP H c:=λ c hc=>hf c (by simp at hc ⊢;rcases hc with r|r|r|r|r<;>simp[r]);have hU3:IsPair q3 s.heap.objs.size u u2:=hs3.extBut _ _ (Nat.ne_of_gt eLt) (hs2.extBut _ _ (Nat.ne_of_gt eLt) hU);have neT:∀c∈[e,z,TI,TO,i1,i2],c≠s.heap.objs.size:=λ c hc=>lT (lts c hc);have neT2:∀c∈[e,z,TI,TO,i1,i2],c≠q3.objs.size:=λ c hc=>by rw[hsz3];exact lT (Nat.lt_succ_of_lt (lts c hc))
  have I1:Inv X jP σ (upd H s.heap.objs.size (.tup [x,y])) { s with heap:=q3,toks:=s.toks+1 }:=I.turnedL (ch:=[e,z,TO,i1,i2]) kAll hfE (lS _) ⟨Nat.le_of_lt (zAR (show 2<=1000 by decide)),[u,u2],.cons ru (.cons ru2 .nil),_,hU3,rfl,_,rfl⟩;have hn2:(upd H s.heap.objs.size (.tup [x,y])) q3.objs.size=none:=I1.fresh
  have fpE:FpOk X jP (upd H s.heap.objs.size (.tup [x,y])) e:=by
   obtain⟨f0,f⟩:=hf e 68;exact⟨by rw[zAd (neT e 68)];exact f0,f⟩
  have I2:Inv X jP σ (upd (upd H s.heap.objs.size (.tup [x,y])) q3.objs.size (.tup [.int i,.ref s.heap.objs.size])) { s with heap:=q7,toks:=s.toks+1 }:=I1.turnedL (t':=s.toks+1) (ch:=[e]) (λ c o hc h=>hU7 c o 89 h) (λ c hc=>by rw[mQ.mp hc];exact fpE) (lS _)
   ⟨Nat.le_of_lt (zAR (show 2<=1000 by decide)),[.int i s.toks,.ref s.heap.objs.size],.cons 72 (.cons rfl .nil),_,hT7,rfl,_,rfl⟩
  refine wpAny_letOwnedTupleGo_enum (s:={ s with heap:=q7,toks:=s.toks+1 }) hout λ h2 he2 hs2'=>⟨.ref q3.objs.size,_,?_,rfl,⟨_,_,x,y,hn,hn2,rfl,rfl,λ ws e=>by rw[ha] at e;cases e;exact hx,λ ws e=>by rw[hb] at e;cases e;exact hy⟩,⟨⟨_,he2⟩,?_,?_,?_,?_,?_⟩,λ c hc=>?_⟩
  ·refine I2.turnedN (t':=s.toks+1) (ch:=[e]) (λ c o hc q=>(hs2'.2 c (λ z=>hc (by simp[z]))).trans q) λ c hc=>?_
   rw[mQ.mp hc];obtain⟨f0,f⟩:=fpE;exact⟨by rw[zAd (neT2 e 68)];exact f0,f⟩
  ·obtain⟨f0,f1,hz1,hff⟩:=hz1
   exact⟨f0,f1,hs2'.extBut _ _ m1.symm (h17 _ _ m1.symm hz1),hff⟩
  ·exact hs2'.extBut _ _ m2.symm (h17 _ _ m2.symm (hk1 _ _ n1 n5 n6 n7 hTI))
  ·obtain⟨p',q',hTO1⟩:=hTO1
   exact⟨p',q',hs2'.extBut _ _ m3.symm (h17 _ _ m3.symm hTO1)⟩
  ·obtain⟨o,q,r⟩:=j1
   exact⟨o,hs2'.extBut _ _ m4.symm (h17 _ _ m4.symm q),r⟩
  ·obtain⟨o,q,r⟩:=j2
   exact⟨o,hs2'.extBut _ _ m5.symm (h17 _ _ m5.symm q),r⟩
  ·rw[zAd (neT2 c hc),zAd (neT c hc)];exact(hf c hc).1
 done:=by
  intro X hP hw hK hc i jP s σ H E I hf st hg;subst hP hw hK;obtain⟨xs,ys,ha,hb,hend⟩:=hg;obtain⟨⟨old,he⟩,hz,hTI,⟨p,q,hTO⟩,h1,h2⟩:=st;obtain⟨its,rv,t1,_⟩:=I.tuple (SqT.of ha);obtain⟨its2,rv2,t2,_⟩:=I.tuple (SqT.of hb);have l1:=rv.length;have l2:=rv2.length;obtain⟨n1,n2,n3,n4,n5,n6,n7,n8,n9,n10⟩:=ap;have ne:∀{c d:Addr}{o:HO},H c=some o->d∈[e,z,TI,TO,i1,i2]->c≠d:=λ e hd=>zAV e (hf _ hd).1;have D:ZipApart z TI TO i1 i2 a b:=88;have hT:s.TypeIs (.ref e) "enumerate" := ⟨_,he,rfl⟩;unfold pyNext;refine lC 85;show wpAny _ _ (field (.ref e) 2 >>= _) _ _ _;refine lC (wpAny_field he rfl (x:=.ref z) rfl ?_);refine lC (zKC (I.ok.hd hc) D hz hTI hTO h1 h2 (show s.heap.IsTuple a its.toArray from t1) (show s.heap.IsTuple b its2.toArray from t2) ?_ λ h1 x hx1 ⟨o,ho,hc'⟩=>?_)
  ·rcases hend with h|h
   ·exact .inl (by simp;lia)
   ·exact .inr (by simp;lia)
  refine lC (wpAny_isInstance (T := "StopIteration") (b:=true) ⟨o,ho,hc'⟩ isSubtype_stop ?_);exact lD ⟨rfl,I.turnedN (t':=s.toks) (ch:=[z,TO,i1,i2]) (λ c o hc q=>hx1 c o (λ z=>hc (by simp[z])) (λ z=>hc (by simp[z])) (λ z=>hc (by simp[z])) (λ z=>hc (by simp[z])) q) λ c hc=>hf c (by simp at hc ⊢;rcases hc with r|r|r|r<;>simp[r])⟩
 self:=λ Ω Ω Ω Ω Ω st h=>let ⟨⟨_,he⟩,_⟩:=st;wpAny_pyIter_enum he h
set_option tactic.hygienic true in
theorem zEt (z TI TO:Addr) :
  Meets (Builtin.«enumerate.__new__» ⟨[.type "enumerate", .ref z],[]⟩) (λ Ω R s=>IsZip s.heap z TI TO .none /\
   R (.ok (.ret (.ref s.heap.objs.size))) { s with heap:=s.heap.push { cls:=.type "enumerate", data:=.fields #[.none,.bool false,.ref z,rawInt 0,.none,.none] } }) :=
 .of_wp λ prog w A R s h=>by
  obtain⟨hp,g,d,tk,os⟩:=s;obtain⟨hl,h⟩:=h;have hsub:=sub_enumerate;have hL:IsZip (Shared.heap ⟨hp,g,d,tk,os⟩) z TI TO .none:=hl
  wp_walk using AutoSeq1.wpAny_loadPart' hl
  refine wpAny_stack_any λ st=>lD ?_;split
  ·rename_i c _ _ _ _ _;cases (c == Value.type "enumerate")
   ·wp_walk using AutoSeq1.wpAny_loadPart' hl,wpAny_pyIter_zip hL;exact⟨_,rfl,h⟩
   ·wp_walk using AutoSeq1.wpAny_loadPart' hl,wpAny_pyIter_zip hL;exact⟨_,rfl,h⟩
  ·wp_walk using AutoSeq1.wpAny_loadPart' hl,wpAny_pyIter_zip hL;exact⟨_,rfl,h⟩
theorem zFg {prog:Program}{w:World}{A:Around}{E:XQ}{s:Shared}{z TI TO:Addr}{Q:XQ}(hz:IsZip s.heap z TI TO .none)
  (h:∀h',IsEnum h' s.heap.objs.size z 0 .none->(∀b o,s.heap.get? b=some o->h'.get? b=some o)->Q (.ref s.heap.objs.size) { s with heap:=h' }):wpAny 90 A (call (.type "enumerate") [.ref z]) Q E s:=by
 refine callType_new F.called_enumerate 69 (F.typeCall_enumerate_1 _) (F.newCall_enumerate_1 _) (λ obj=>F.args_object_init_2 obj _) F.entry_enumerate_new (zEt z TI TO) ⟨hz,?_⟩;exact⟨⟨_,lI _ rfl,rfl⟩,h _ (lI _ rfl) λ b o x=>lH _ x⟩
def zKl (ta:TA):TI:=λ σ H R=>ta σ H λ vs H1=>∃a b xs ys,vs=[.ref a,.ref b]/\H1 a=some (.tup xs)/\H1 b=some (.tup ys)/\R (Itez a b) H1
theorem zE5 {X:Cx}{es:List Expr}{k:Nat}{tpos:Pos}{a b:Expr}{ta:TA}{p p2 pos pos2:Pos}(hg:Gl X "enumerate") (hm:X.mg "enumerate" = none) (hg2:Gl X "zip") (hm2:X.mg "zip" = none) (ha:PA X [a,b] ta) (hs:starEach [a,b] X.env=[(false,eval a X.env),(false,eval b X.env)]:=by rfl) (hs2:starEach [b] X.env=[(false,eval b X.env)]:=by rfl)
  (hs3:starEach [Expr.Call (.Name "zip" p2) [a,b] [] pos2] X.env=[(false,eval (Expr.Call (.Name "zip" p2) [a,b] [] pos2) X.env)]:=by rfl) :
  PI X (.Tuple es k tpos) (.Call (.Name "enumerate" p) [.Call (.Name "zip" p2) [a,b] [] pos2] [] pos) (zKl ta):=by
 intro jP s σ H R I h;refine Call_ (zCI I hg hm boot_enumerate (PyProof.Rows.callWith_type1 ?_ hs3 rfl));rw[hs3];show wpAny _ _ (spliced [(false,eval (Expr.Call (.Name "zip" p2) [a,b] [] pos2) X.env)]) _ _ s;refine Calls.spliced_cons ?_;refine Call_ (zCI I hg2 hm2 zEi (PyProof.Rows.callWith_type1 (thn (ha pos2 jP s σ H _ I h) λ us s1 ⟨vs,H1,I1,r1,q1⟩=>?_) (by rw[hs,hs2]) (by rw[hs2];rfl)));obtain⟨l1,l2,xs,ys,e,h1,h2,q⟩:=q1;subst e;obtain⟨u,w',rfl,ru,rw'⟩:=vals2 r1;cases ru;cases rw';obtain⟨its,rv,t1,_⟩:=I1.tuple (SqT.of h1);obtain⟨its2,rv2,t2,_⟩:=I1.tuple (SqT.of h2);refine zGT (show s1.heap.IsTuple l1 its.toArray from t1) (show s1.heap.IsTuple l2 its2.toArray from t2) λ h' z TI TO i1 i2 a0 a1 a2 a3 a4 a5 a6 a7 a8 a9 b1 b2=>?_;refine Calls.spliced_nil ?_;refine zFg (s:={ s1 with heap:=h' }) a7 λ h2 he hk=>?_;have up:∀{c:Addr}{o:Obj},h'.get? c=some o->h2.get? c=some o:=λ e=>hk _ _ e;have lt:∀{c:Addr}{o:Obj},h'.get? c=some o->h'.objs.size≠c:=λ e=>Nat.ne_of_gt (lJ e);obtain⟨o1,e1,r1'⟩:=b1;obtain⟨o2,e2,r2'⟩:=b2
 refine wpAny_pyIter_enum he ⟨_,[h'.objs.size,z,TI,TO,i1,i2],_,_,H1,rfl,I1.kept (t':=s1.toks) (λ c o e=>hk c o (a0 c o e)),zLW l1 l2 h'.objs.size z TI TO i1 i2 a6 ⟨lt a7,lt a8,lt a9,lt e1,lt e2⟩,
  ⟨⟨_,he⟩,⟨_,_,up a7,.inl rfl⟩,up a8,⟨_,_,up a9⟩,⟨o1,up e1,r1'⟩,⟨o2,up e2,r2'⟩⟩,λ c hc=>?_,q⟩
 have ge:s1.heap.objs.size<=c:=by
  have l0:s1.heap.objs.size<=h'.objs.size:=Nat.le_of_lt (Nat.lt_of_le_of_lt a1 (lJ (show h'.get? z=some _ from a7)));simp only[nM,mZ,or_false] at hc;rcases hc with rfl|rfl|rfl|rfl|rfl|rfl<;>assumption
 exact I1.fpOk ge (I1.hok.fresh ge)
theorem zLM {a b:Addr}{xs ys:List V}{g:TG}{tb:TS}{D:Ends}{σ:L2.St}{H:Hp}(Pv:Nat->L2.St->Hp->Prop) (h0:Pv 0 σ H) (hl:∀i σ H,i<=min xs.length ys.length->Pv i σ H->H a=some (.tup xs)/\H b=some (.tup ys))
  (hs:∀i x y T U σ H,xs[i]?=some x->ys[i]?=some y->Pv i σ H->H U=none->(upd H U (.tup [x,y])) T=none->g (.ref T) σ (upd (upd H U (.tup [x,y])) T (.tup [.int i,.ref U])) λ σ2 H2=>tb { D with nx:=Pv (i+1),ct:=Pv (i+1),bk:=D.nx } σ2 H2) (hd:∀σ H,Pv (min xs.length ys.length) σ H->D.nx σ H) :
  ∃W:Nat->Nat->L2.St->Hp->Prop,(∃m,W 0 m σ H)/\∀i m σ H,W i m σ H ->
   ((Itez a b).stop i H/\D.nx σ H)\/((Itez a b).go i H/\∃N:L2.St->Hp->Prop,95/\∀x H',(Itez a b).yld i H x H'->g x σ H' λ σ2 H2=>tb { D with nx:=N,ct:=N,bk:=D.nx } σ2 H2):=by
 refine⟨λ i m σ H=>m=min xs.length ys.length - i/\i<=min xs.length ys.length/\Pv i σ H,⟨min xs.length ys.length,by simp,mB _,h0⟩,?_⟩;rintro i m σ H ⟨rfl,hi,p⟩;obtain⟨ha,hb⟩:=hl i σ H hi p
 by_cases hlt:i<min xs.length ys.length
 ·have hx:i<xs.length:=by lia
  have hy:i<ys.length:=by lia
  refine .inr ⟨⟨xs,ys,xs[i],ys[i],ha,hb,by simp[hx],by simp[hy]⟩,Pv (i+1),λ σ' H' p'=>⟨min xs.length ys.length - (i+1),by lia,rfl,hlt,p'⟩,λ x H' y=>?_⟩;obtain⟨T,U,u,v,hU,hT,ex,eH,e1,e2⟩:=y;subst ex eH;exact hs i u v T U σ H (e1 xs ha) (e2 ys hb) p hU hT
 ·have e:i=min xs.length ys.length:=by lia
  subst e;exact .inl ⟨⟨xs,ys,ha,hb,by lia⟩,hd σ H p⟩
section
variable {X:Cx}{o e:Expr}{es:List Expr}{te to:TE}{t:TA}{name x:Str}{apos cpos pos p:Pos}{T id:String}
theorem zHU (he:Sd (PE X e te)) (hs:swapsWith e none pos.line X.env=pure false:=by rfl):Sd (PS X (.Expr e pos) (tDrop te)):=⟨zDq he.un hs⟩
theorem zLB {r:V->List V->Hp->VK->Prop}(pa:PlainAttrs T) (slot:Slot T name id) (hty:typeOf (.builtin id)=pure (.type "method_descriptor")) (hm:MtR X id r) (ho:Sd (PE X o to)) (ha:Sd (PA X (e::es) t))
  (hbase:attributeBase o name X.env (eval o X.env)=eval o X.env:=by rfl)
  (hfew:((backTo cpos (starEach (e::es) X.env)).all (λ x=>!x.1) && (backToKw cpos (keywordEach [] X.env)).all (λ x=>x.1.isSome) && decide ((e::es).length+([]:List Keyword).length+(if ([]:List Keyword).isEmpty then 0 else 1)<30))=true:=by rfl)
  (hline:(apos.endLine == cpos.line)=true:=by rfl) (hs:starEach (e::es) X.env=(false,eval e X.env)::starEach es X.env:=by rfl) (hplain:(backTo cpos (starEach es X.env)).any (·.1)=false:=by rfl) :
  Sd (PE X (.Call (.Attribute o name apos) (e::es) [] cpos) (tBM X.K T r to t)):=⟨pe_bm pa slot hty hm ho.un ha.un hbase hfew hline hs hplain⟩
theorem zE8 {r:List V->Hp->VK->Prop}(hc:CallR X (.type T) r) (hg:Gl X x) (hm:X.mg x=none) (hv:bootBuiltins x=some (.type T)) (ha:Sd (PA X (e::es) t)) (hn:x ≠ "__name__" := by decide) (hdb:(x == ("__debug__" : Str))=false:=by decide)
  (he:starEach (e::es) X.env=(false,eval e X.env)::starEach es X.env:=by rfl) (hpl:(backTo pos (starEach es X.env)).any (·.1)=false:=by rfl):Sd (PE X (.Call (.Name x p) (e::es) [] pos) (tCB r t)):=⟨zBP hc hg hm hv ha.un hn hdb he hpl⟩
end
instance instDecDt:DecidableEq Dt:=λ a b=>decidable_of_iff (Dt.beq a b=true) Dt.beq_iff
noncomputable def lookB (x:Str):List Str->Option Nat
 |[]=>none
 |y::r=>if y=x then some 0 else (lookB x r).map (· + 1)
noncomputable def keyB (x:Str) (rs:List Str):Nat ⊕ Str:=match lookB x rs with
 |some k=>.inl k
 |none=>.inr x
noncomputable def keyD:Nat ⊕ Str->Dt
 |.inl k=>.tup [.str "bound", .int k]
 |.inr z=>.tup [.str "free", .str z]
theorem zHg {a b:Nat ⊕ Str}:keyD a=keyD b↔a=b:=by
 constructor
 ·intro h
  cases a with
  |inl k=>cases b with
   |inl m=>injection h with h;injection h with _ h;injection h with h _;injection h with h;rw[Int.ofNat.inj h]
   |inr m=>injection h with h;injection h with h _;injection h with h;exact absurd h (by right)
  |inr k=>cases b with
   |inl m=>injection h with h;injection h with h _;injection h with h;exact absurd h (by right)
   |inr m=>injection h with h;injection h with _ h;injection h with h _;injection h with h;rw[h]
 ·rintro rfl;rfl
noncomputable def bareN (x:Str) (bs:List Str):Dt:=keyD (keyB x bs.reverse)
noncomputable def zE0:Nat ⊕ Str->Nat ⊕ Str
 |.inl k=>.inl (k+1)
 |.inr z=>.inr z
theorem zH5 {a b:Nat ⊕ Str}:zE0 a=zE0 b↔a=b:=by
 cases a<;>cases b<;>simp[zE0]
set_option tactic.hygienic true in
theorem zGI (x y:Str) (r:List Str):keyB x (y::r)=if y=x then .inl 0 else zE0 (keyB x r):=by
 unfold keyB;rw[lookB];split
 ·rename_i h;split at h
  ·cases h;simp[*]
  ·rename_i h2
   rw[if_neg h2];cases e:lookB x r with
   |none=>rw[e] at h;cases h
   |some k=>rw[e] at h;simp at h;subst h;rfl
 ·rename_i h;split at h
  ·cases h
  ·rename_i h2
   rw[if_neg h2];cases e:lookB x r with
   |none=>rfl
   |some k=>rw[e] at h;cases h
noncomputable def sn (x y:Str):List (Str × Str)->Bool
 |[]=>decide (x=y)
 |p::r=>if p.1=x\/p.2=y then decide (p.1=x/\p.2=y) else sn x y r
theorem zK8 (x y:Str):∀rs:List (Str × Str),sn x y rs=decide (keyB x (rs.map Prod.fst)=keyB y (rs.map Prod.snd))
 |[]=>by simp[sn,keyB,lookB]
 |p::r=>by
  rw[sn,mL,mL,zGI,zGI,zK8 x y r]
  by_cases h1:p.1=x<;>by_cases h2:p.2=y
  ·simp[h1,h2]
  ·rw[if_pos (.inl h1),if_pos h1,if_neg h2]
   cases keyB y (r.map Prod.snd)<;>simp[h2,zE0]
  ·rw[if_pos (.inr h2),if_neg h1,if_pos h2]
   cases keyB x (r.map Prod.fst)<;>simp[h1,zE0]
  ·rw[if_neg (by simp[h1,h2]),if_neg h1,if_neg h2]
   simp[zH5]
theorem zLa (x y:Str) (ps:List (Str × Str)):sn x y ps.reverse=decide (bareN x (ps.map Prod.fst)=bareN y (ps.map Prod.snd)):=by
 rw[zK8];unfold bareN;simp only[zHg,List.map_reverse]
inductive Lf where
 |name (x:Str)|num (n:Int)|gap (g:Str)|ask (x:Str)|stop (x:Str)
noncomputable def dtL:Lf->List Dt
 |.name x=>[.str "name", .str x]|.num n=>[.str "num", .int n]|.gap g=>[.str "gap", .str g,.tup []]|.ask x=>[.str "ask", .str x]|.stop x=>[.str "stop", .str x]
noncomputable def Lf.isName:Lf->Bool
 |.name _=>true
 |_=>false
noncomputable def bareL (l:Lf) (bs:List Str):Dt:=match l with
 |.name x=>bareN x bs
 |l=>.tup (dtL l)
theorem zGb (x:Str) (bs:List Str):∃s r,bareN x bs = .tup (.str s::r)/\(s = "bound" \/ s = "free"):=by
 unfold bareN;cases keyB x bs.reverse with
 |inl k=>exact⟨_,_,rfl,.inl rfl⟩
 |inr k=>exact⟨_,_,rfl,.inr rfl⟩
theorem zKt {l m:Lf}{bs cs:List Str}(h:¬(l.isName=true/\m.isName=true)):Dt.beqs (dtL l) (dtL m)=decide (bareL l bs=bareL m cs):=by
  have ne:∀(x:Str) (bs:List Str) (s:Str) (r:List Dt),s ≠ "bound" -> s ≠ "free" -> bareN x bs ≠ .tup (.str s::r):=by
    intro x bs s r h1 h2 e;obtain⟨s',r',e',hs⟩:=zGb x bs;rw[e'] at e;injection e with e
    injection e with e _
    injection e with e
    subst e;rcases hs with z|z
    · exact h1 z
    · exact h2 z
  rw[Bool.eq_iff_iff,Dt.beqs_iff,decide_eq_true_iff]
  cases l<;>cases m<;>simp[dtL,bareL,Lf.isName] at h ⊢<;>first
    | (refine⟨λ q=>absurd q (by right),λ q=>absurd q (ne _ _ _ _ (by right) (by right))⟩)
    | (refine⟨λ q=>absurd q (by right),λ q=>absurd q.symm (ne _ _ _ _ (by right) (by right))⟩)
    | (refine⟨λ q=>absurd q.1 (by right),λ q=>absurd q (ne _ _ _ _ (by right) (by right))⟩)
    | (refine⟨λ q=>absurd q.1 (by right),λ q=>absurd q.symm (ne _ _ _ _ (by right) (by right))⟩)
    |exact ne _ _ _ _ (by right) (by right)
    |exact λ q=>ne _ _ _ _ (by right) (by right) q.symm
    |skip
def LfRep (H:Hp):Lf->V->Prop
 |.name x,v=>∃a,v = .ref a/\H a=some (.tup [.str "name", .str x])
 |.num n,v=>∃a,v = .ref a/\H a=some (.tup [.str "num", .int n])
 |.gap g,v=>∃a b,v = .ref a/\H a=some (.tup [.str "gap", .str g,.ref b])/\H b=some (.tup [])
 |.ask x,v=>∃a,v = .ref a/\H a=some (.tup [.str "ask", .str x])
 |.stop x,v=>∃a,v = .ref a/\H a=some (.tup [.str "stop", .str x])
theorem LfRep.dr {H:Hp}:∀{l:Lf}{v:V},LfRep H l v->DR H (.tup (dtL l)) v
 |.name _,_,⟨_,rfl,h⟩=>.tup h (.cons (.str _) (.cons (.str _) .nil))
 |.num _,_,⟨_,rfl,h⟩=>.tup h (.cons (.str _) (.cons (.int _) .nil))
 |.gap _,_,⟨_,_,rfl,h,h'⟩=>.tup h (.cons (.str _) (.cons (.str _) (.cons (.tup h' .nil) .nil)))
 |.ask _,_,⟨_,rfl,h⟩=>.tup h (.cons (.str _) (.cons (.str _) .nil))
 |.stop _,_,⟨_,rfl,h⟩=>.tup h (.cons (.str _) (.cons (.str _) .nil))
noncomputable def Atom.lf:Atom->Lf
 |.name x=>.name x|.num n=>.num n|.gap g=>.gap g
theorem AtRep.lf {H:Hp}:∀{a:Atom}{v:V},AtRep H a v->LfRep H a.lf v
 |.name _,_,h=>h
 |.num _,_,h=>h
 |.gap _,_,h=>h
noncomputable def bareA (bs:List Str) (a:Atom):Dt:=bareL a.lf bs
noncomputable def bare:Tr->List Str->Dt
 |.num n,_=>.tup [.str "num", .int n]
 |.name x,bs=>bareN x bs
 |.ask x,_=>.tup [.str "ask", .str x]
 |.stop x,_=>.tup [.str "stop", .str x]
 |.gap g as,bs=>.tup [.str "gap", .str g,.tup (as.map (bareA bs))]
 |.say a,bs=>.tup [.str "say", bare a bs]
 |.bin o a b,bs=>.tup [.str o.s,bare a bs,bare b bs]
 |.ite a b c,bs=>.tup [.str "if", bare a bs,bare b bs,bare c bs]
 |.lett x a b,bs=>.tup [.str "let", bare a bs,bare b (bs++[x])]
theorem zHu:∀(t:Tr) (bs:List Str),∃s r,bare t bs = .tup (.str s::r)/\((t.kd = .name/\(s = "bound" \/ s = "free"))\/(t.kd ≠ .name/\s=t.kd.s))
 |.num n,bs=>⟨_,_,rfl,.inr ⟨nofun,rfl⟩⟩
 |.name x,bs=>by
  obtain⟨s,r,e,h⟩:=zGb x bs;exact⟨s,r,e,.inl ⟨rfl,h⟩⟩
 |.ask n,bs=>⟨_,_,rfl,.inr ⟨nofun,rfl⟩⟩
 |.stop n,bs=>⟨_,_,rfl,.inr ⟨nofun,rfl⟩⟩
 |.gap n _,bs=>⟨_,_,rfl,.inr ⟨nofun,rfl⟩⟩
 |.say n,bs=>⟨_,_,rfl,.inr ⟨nofun,rfl⟩⟩
 |.bin o a b,bs=>⟨_,_,rfl,.inr ⟨by cases o<;>nofun,(Bin.kd_s o).symm⟩⟩
 |.ite _ _ _,bs=>⟨_,_,rfl,.inr ⟨nofun,rfl⟩⟩
 |.lett _ _ _,bs=>⟨_,_,rfl,.inr ⟨nofun,rfl⟩⟩
theorem zG3 {t u:Tr}{bs cs:List Str}(h:bare t bs=bare u cs):t.kd=u.kd:=by
 obtain⟨s,r,e,h1⟩:=zHu t bs;obtain⟨s',r',e',h2⟩:=zHu u cs;rw[e,e'] at h;injection h with h
 injection h with h _
 injection h with h
 subst h;have no:∀k:Kd,¬(k.s = "bound" \/ k.s = "free"):=by intro k;cases k<;>right
 rcases h1 with ⟨k1,z1⟩|⟨k1,z1⟩<;>rcases h2 with ⟨k2,z2⟩|⟨k2,z2⟩
 ·rw[k1,k2]
 ·rw[z2] at z1;exact absurd z1 (no _)
 ·rw[z1] at z2;exact absurd z2 (no _)
 ·exact Kd.inj (z1.symm.trans z2)
abbrev Trip:=Tr × Tr × List (Str × Str)
def Alk (q:Trip):Prop:=bare q.1 (q.2.2.map Prod.fst)=bare q.2.1 (q.2.2.map Prod.snd)
noncomputable def pIn (t u:Tr) (i:Int) (ps:List (Str × Str)):List (Str × Str):=match t,u with
 |.lett x _ _,.lett y _ _=>if i=1 then ps++[(x,y)] else ps
 |_,_=>ps
noncomputable def kids2:Tr->Tr->List (Str × Str)->List Trip
 |.say a,.say a',ps=>[(a,a',ps)]
 |.bin _ a b,.bin _ a' b',ps=>[(a,a',ps),(b,b',ps)]
 |.ite a b c,.ite a' b' c',ps=>[(a,a',ps),(b,b',ps),(c,c',ps)]
 |.lett x a b,.lett y a' b',ps=>[(a,a',ps),(b,b',ps++[(x,y)])]
 |_,_,_=>[]
noncomputable def hdG (t u:Tr) (ps:List (Str × Str)):Bool:=match t,u with
 |.gap g as,.gap g' bs=>decide (g=g') && decide (as.map (bareA (ps.map Prod.fst))=bs.map (bareA (ps.map Prod.snd)))
 |t,u=>if t.kd.leaf then decide (bare t (ps.map Prod.fst)=bare u (ps.map Prod.snd)) else true
noncomputable def hdA (t u:Tr) (ps:List (Str × Str)):Bool:=decide (t.kd=u.kd) && hdG t u ps
def KdS (u:Tr) (k:Kd):Prop:=Kd.casesOn (motive:=λ Ω=>Prop) k (∃m,u = .num m) (∃m,u = .name m) (∃m,u = .ask m) (∃m,u = .stop m) (∃g as,u = .gap g as) (∃a,u = .say a) (∃a b,u = .bin .add a b) (∃a b,u = .bin .sub a b) (∃a b,u = .bin .mul a b) (∃a b,u = .bin .thn a b) (∃a b c,u = .ite a b c) (∃x a b,u = .lett x a b)
theorem of_kd (u:Tr):KdS u u.kd:=by
 cases u with
 |gap g as=>exact⟨_,_,rfl⟩
 |bin o a b=>cases o<;>exact⟨_,_,rfl⟩
 |ite a b c=>exact⟨_,_,_,rfl⟩
 |lett x a b=>exact⟨_,_,_,rfl⟩
 |_=>exact⟨_,rfl⟩
theorem kdS {u:Tr}{k:Kd}(z:u.kd=k):KdS u k:=z▸of_kd u
theorem zCo {t u:Tr}(hk:t.kd=u.kd):(∃n m,t = .num n/\u = .num m)\/(∃n m,t = .name n/\u = .name m)\/(∃n m,t = .ask n/\u = .ask m)\/(∃n m,t = .stop n/\u = .stop m)\/(∃g as g' as',t = .gap g as/\u = .gap g' as') \/
  (∃a a',t = .say a/\u = .say a')\/(∃o a b a' b',t = .bin o a b/\u = .bin o a' b')\/(∃a b c a' b' c',t = .ite a b c/\u = .ite a' b' c')\/(∃x a b y a' b',t = .lett x a b/\u = .lett y a' b'):=by
 have h:=of_kd u;rw[←hk] at h;clear hk;cases t with
 |num n=>obtain⟨m,h⟩:=h;exact .inl ⟨_,_,rfl,h⟩
 |name n=>obtain⟨m,h⟩:=h;exact .inr (.inl ⟨_,_,rfl,h⟩)
 |ask n=>obtain⟨m,h⟩:=h;exact .inr (.inr (.inl ⟨_,_,rfl,h⟩))
 |stop n=>obtain⟨m,h⟩:=h;exact .inr (.inr (.inr (.inl ⟨_,_,rfl,h⟩)))
 |gap n as=>obtain⟨m,bs,h⟩:=h;exact .inr (.inr (.inr (.inr (.inl ⟨_,_,_,_,rfl,h⟩))))
 |say n=>obtain⟨m,h⟩:=h;exact .inr (.inr (.inr (.inr (.inr (.inl ⟨_,_,rfl,h⟩)))))
 |bin o a b =>
  have h:∃a' b',u = .bin o a' b':=by cases o<;>exact h
  obtain⟨a',b',h⟩:=h;exact .inr (.inr (.inr (.inr (.inr (.inr (.inl ⟨_,_,_,_,_,rfl,h⟩))))))
 |ite a b c=>obtain⟨a',b',c',h⟩:=h;exact .inr (.inr (.inr (.inr (.inr (.inr (.inr (.inl ⟨_,_,_,_,_,_,rfl,h⟩)))))))
 |lett x a b=>obtain⟨a',b',c',h⟩:=h;exact .inr (.inr (.inr (.inr (.inr (.inr (.inr (.inr ⟨_,_,_,_,_,_,rfl,h⟩)))))))
theorem zG5 (t u:Tr) (ps:List (Str × Str)):Alk (t,u,ps)↔hdA t u ps=true/\∀q∈kids2 t u ps,Alk q:=by
 by_cases hk:t.kd=u.kd
 ·unfold hdA
  rw[decide_eq_true hk,Bool.true_and];rcases zCo hk with ⟨n,m,rfl,rfl⟩|⟨n,m,rfl,rfl⟩|⟨n,m,rfl,rfl⟩|⟨n,m,rfl,rfl⟩|⟨g,as,g',as',rfl,rfl⟩|⟨a,a',rfl,rfl⟩|⟨o,a,b,a',b',rfl,rfl⟩|⟨a,b,c,a',b',c',rfl,rfl⟩|⟨x,a,b,y,a',b',rfl,rfl⟩
  ·simp[Alk,hdG,kids2,Tr.kd,Kd.leaf]
  ·simp[Alk,hdG,kids2,Tr.kd,Kd.leaf]
  ·simp[Alk,hdG,kids2,Tr.kd,Kd.leaf]
  ·simp[Alk,hdG,kids2,Tr.kd,Kd.leaf]
  ·simp[Alk,hdG,kids2,bare]
  ·simp[Alk,hdG,kids2,Tr.kd,Kd.leaf,bare]
  ·have hl:o.kd.leaf=false:=by cases o<;>rfl
   simp[Alk,hdG,kids2,Tr.kd,hl,bare]
  ·simp[Alk,hdG,kids2,Tr.kd,Kd.leaf,bare]
  ·simp[Alk,hdG,kids2,Tr.kd,Kd.leaf,bare]
 ·unfold hdA
  rw[decide_eq_false hk,Bool.false_and];exact⟨λ h=>absurd (zG3 h) hk,λ h=>absurd h.1 69⟩
theorem zJX {t u:Tr}{ps:List (Str × Str)}(hk:t.kd=u.kd) {j:Nat}{a b:Tr}(h1:t.parts[j]?=some a) (h2:u.parts[j]?=some b):(kids2 t u ps)[j]?=some (a,b,pIn t u j ps):=by
 rcases zCo hk with ⟨n,m,rfl,rfl⟩|⟨n,m,rfl,rfl⟩|⟨n,m,rfl,rfl⟩|⟨n,m,rfl,rfl⟩|⟨g,as,g',as',rfl,rfl⟩|⟨a,a',rfl,rfl⟩|⟨o,a,b,a',b',rfl,rfl⟩|⟨a,b,c,a',b',c',rfl,rfl⟩|⟨x,a,b,y,a',b',rfl,rfl⟩
 ·cases h1
 ·cases h1
 ·cases h1
 ·cases h1
 ·cases h1
 ·match j,h1,h2 with
  |0,h1,h2=>cases h1;cases h2;rfl
  |j+1,h1,h2=>cases h1
 ·match j,h1,h2 with
  |0,h1,h2=>cases h1;cases h2;rfl
  |1,h1,h2=>cases h1;cases h2;rfl
  |j+2,h1,h2=>cases h1
 ·match j,h1,h2 with
  |0,h1,h2=>cases h1;cases h2;rfl
  |1,h1,h2=>cases h1;cases h2;rfl
  |2,h1,h2=>cases h1;cases h2;rfl
  |j+3,h1,h2=>cases h1
 ·match j,h1,h2 with
  |0,h1,h2=>cases h1;cases h2;rfl
  |1,h1,h2=>cases h1;cases h2;rfl
  |j+2,h1,h2=>cases h1
theorem zJW {t u:Tr}{ps:List (Str × Str)}(hk:t.kd=u.kd):(kids2 t u ps).length=t.parts.length/\t.parts.length=u.parts.length:=by
 rcases zCo hk with ⟨n,m,rfl,rfl⟩|⟨n,m,rfl,rfl⟩|⟨n,m,rfl,rfl⟩|⟨n,m,rfl,rfl⟩|⟨g,as,g',as',rfl,rfl⟩|⟨a,a',rfl,rfl⟩|⟨o,a,b,a',b',rfl,rfl⟩|⟨a,b,c,a',b',c',rfl,rfl⟩|⟨x,a,b,y,a',b',rfl,rfl⟩<;>exact⟨rfl,rfl⟩
noncomputable def tot2 (l:List Trip):Nat:=(l.map λ q=>q.1.size).sum
theorem zC8 (a b:List Trip):tot2 (a++b)=tot2 a+tot2 b:=by simp[tot2]
theorem zEI (q:Trip) (l:List Trip):tot2 (q::l)=q.1.size+tot2 l:=by simp[tot2]
theorem zCe:∀t:Tr,1<=t.size:=by intro t;cases t<;>simp[Tr.size]
theorem zGH {t u:Tr}{ps:List (Str × Str)}(hk:t.kd=u.kd):tot2 (kids2 t u ps)+1=t.size:=by
 rcases zCo hk with ⟨n,m,rfl,rfl⟩|⟨n,m,rfl,rfl⟩|⟨n,m,rfl,rfl⟩|⟨n,m,rfl,rfl⟩|⟨g,as,g',as',rfl,rfl⟩|⟨a,a',rfl,rfl⟩|⟨o,a,b,a',b',rfl,rfl⟩|⟨a,b,c,a',b',c',rfl,rfl⟩|⟨x,a,b,y,a',b',rfl,rfl⟩ <;>
  simp only[kids2,tot2,Tr.size,mL,List.map_nil,List.sum_cons,List.sum_nil]<;>lia
theorem zIH {t u:Tr}{ps:List (Str × Str)}{n:Nat}(hk:t.kd=u.kd) (h:ps.length+t.size<=n):∀q∈kids2 t u ps,q.2.2.length+q.1.size<=n:=by
 intro q hq;rcases zCo hk with ⟨n,m,rfl,rfl⟩|⟨n,m,rfl,rfl⟩|⟨n,m,rfl,rfl⟩|⟨n,m,rfl,rfl⟩|⟨g,as,g',as',rfl,rfl⟩|⟨a,a',rfl,rfl⟩|⟨o,a,b,a',b',rfl,rfl⟩|⟨a,b,c,a',b',c',rfl,rfl⟩|⟨x,a,b,y,a',b',rfl,rfl⟩
 ·cases hq
 ·cases hq
 ·cases hq
 ·cases hq
 ·cases hq
 ·simp only[Tr.size] at h;simp[kids2] at hq;subst hq;dsimp only;lia
 ·have:=zCe a;have:=zCe b;simp only[Tr.size] at h;simp[kids2] at hq;rcases hq with rfl|rfl<;>dsimp only<;>lia
 ·simp only[Tr.size] at h;simp[kids2] at hq;rcases hq with rfl|rfl|rfl<;>dsimp only<;>lia
 ·have:=zCe a;simp only[Tr.size] at h;simp[kids2] at hq;rcases hq with rfl|rfl<;>simp<;>lia
noncomputable def zCE:List V:=[.str "num", .str "name", .str "ask", .str "stop", .str "gap"]
def zDj (K:W.Frag) (lv:Addr):Prop:=∃(o:Obj) (its:Array Value) (n:Nat),K.lookup lv=some o/\o.cls = .type "tuple" /\ o.data = .seq its n/\its.size<=sizeLine/\Vals zCE its.toList
theorem zEG (k:Kd):inV (.str k.s) zCE=k.leaf:=by cases k<;>right
theorem zKn (t:Tr):1<=t.head:=by cases t<;>simp[Tr.head]
theorem zAK {α:Type}{F:α->V->Prop}{as bs:List α}{us vs:List V}(h:Paired F as us) (k:Paired F bs vs):Paired F (as++bs) (us++vs):=by
 induction h with
 |nil=>exact k
 |cons r t ih=>exact .cons r ih
def PrRep (H:Hp) (p:Str × Str) (v:V):Prop:=∃c,v = .ref c/\H c=some (.tup [.str p.1,.str p.2])
def PsRep (H:Hp) (ps:List (Str × Str)) (b:Addr):Prop:=∃us,H b=some (.tup us)/\Paired (PrRep H) ps us
theorem PrRep.mono {H H':Hp}(k:Tk H H') {p:Str × Str}{v:V}:PrRep H p v->PrRep H' p v
 |⟨c,e,h⟩=>⟨c,e,k _ _ h⟩
theorem PsRep.mono {H H':Hp}(k:Tk H H') {ps:List (Str × Str)}{b:Addr}:PsRep H ps b->PsRep H' ps b
 |⟨us,h,p⟩=>⟨us,k _ _ h,Paired.mapP p λ Ω Ω z=>z.mono k⟩
def zD0 (H:Hp) (q:Trip) (v:V):Prop:=∃a u w b,v = .ref a/\H a=some (.tup [u,w,.ref b])/\Rep H q.1 u/\Rep H q.2.1 w/\PsRep H q.2.2 b
theorem zD0.mono {H H':Hp}(k:Tk H H') {q:Trip}{v:V}:zD0 H q v->zD0 H' q v
 |⟨a,u,w,b,e,h,r,s,z⟩=>⟨a,u,w,b,e,k _ _ h,r.mono k,s.mono k,z.mono k⟩
noncomputable def Lf.sg:Lf->Str
 |.name _ => "name" |.num _ => "num" |.gap _ => "gap" |.ask _ => "ask" |.stop _ => "stop"
theorem zIf {l:Lf}(h:decide (V.str l.sg=V.str "name")=true):∃x,l = .name x:=by
 have h':l.sg = "name" := V.str.inj (lU h);cases l with
 |name x=>exact⟨x,rfl⟩
 |num n=>exact absurd (show (("num" : Str)) = "name" from h') (by right)
 |gap n=>exact absurd (show (("gap" : Str)) = "name" from h') (by right)
 |ask n=>exact absurd (show (("ask" : Str)) = "name" from h') (by right)
 |stop n=>exact absurd (show (("stop" : Str)) = "name" from h') (by right)
theorem zGM {l:Lf}(h:l.isName=true):decide (V.str l.sg=V.str "name")=true:=by
 cases l with
 |name x=>exact lW rfl
 |_=>cases h
theorem zJ8 {α β γ:Type} [DecidableEq γ] (f:α->γ) (g:β->γ):∀(as:List α) (bs:List β),as.length=bs.length->((as.zip bs).map λ p=>decide (f p.1=g p.2)).all id=decide (as.map f=bs.map g)
 |[],[],_=>rfl
 |a::as,b::bs,h=>by
  have ih:=zJ8 f g as bs (by simpa using h);rw[List.zip_cons_cons,mL,List.all_cons,ih];simp
 |[],_::_,h=>by simp at h
 |_::_,[],h=>by simp at h
theorem LfRep.all {H:Hp}:∀{l:Lf}{v:V},LfRep H l v->∃a r,v = .ref a/\H a=some (.tup (.str l.sg::r))
 |.name _,_,⟨a,e,h⟩=>⟨a,_,e,h⟩
 |.num _,_,⟨a,e,h⟩=>⟨a,_,e,h⟩
 |.gap _,_,⟨a,b,e,h,h'⟩=>⟨a,_,e,h⟩
 |.ask _,_,⟨a,e,h⟩=>⟨a,_,e,h⟩
 |.stop _,_,⟨a,e,h⟩=>⟨a,_,e,h⟩
theorem zGj (x y:Str):∀(rs:List (Str × Str)) (i:Nat),(∀p∈rs.take i,p.1≠x/\p.2≠y)->sn x y rs=sn x y (rs.drop i)
 |rs,0,_=>rfl
 |[],i+1,_=>rfl
 |p::r,i+1,h=>by
  have h1:=h p 68;rw[sn,if_neg (by simp[h1.1,h1.2]),List.drop_succ_cons];exact zGj x y r i λ q hq=>h q (by simp[hq])
section
variable {X:Cx}
def rInD (X:Cx) (neg:Bool):R2:=λ x y H Q=>E4 λ(p:Addr) (xs:List V) (ds:List Dt) (dx:Dt)=>A6 (y = .ref p) (SqT X.K H p xs) (DRs H ds xs) (DR H dx x) (Dt.deeps ds<=100) (Q (.bl (if neg then !ds.any (λ d=>Dt.beq d dx) else ds.any (λ d=>Dt.beq d dx))) H)
theorem zKI {x y:V}{u:Value}{H:Hp}{d e:Dt}(rx:RelV x u) (ry:RelV y u) (hx:DR H d x) (hy:DR H e y):d=e:=by
 have:x=y:=by
  cases hx with
  |int i=>obtain⟨t,rfl⟩:=rx;cases hy with
   |int j=>obtain⟨t',h⟩:=ry;cases h;rfl
   |str j=>obtain⟨t',h⟩:=ry;cases h
   |tup h _=>cases ry
  |str i=>obtain⟨t,rfl⟩:=rx;cases hy with
   |int j=>obtain⟨t',h⟩:=ry;cases h
   |str j=>obtain⟨t',h⟩:=ry;cases h;rfl
   |tup h _=>cases ry
  |tup h r=>cases rx;cases hy with
   |int j=>obtain⟨t',h⟩:=ry;cases h
   |str j=>obtain⟨t',h⟩:=ry;cases h
   |tup h' _=>cases ry;rfl
 subst this;exact DR.inj hx hy
open Classical in
noncomputable def eqW (H:Hp) (dx:Dt) (w:Value):Bool:=decide (∃x d,RelV x w/\DR H d x/\Dt.beq d dx=true)
theorem zLQ {H:Hp}{dx d:Dt}{x:V}{w:Value}(r:RelV x w) (h:DR H d x):eqW H dx w=Dt.beq d dx:=by
 unfold eqW;rw[Bool.eq_iff_iff,@decide_eq_true_iff _ (Classical.propDecidable _)];constructor
 ·rintro⟨y,e,ry,he,hb⟩
  rw[zKI r ry h he];exact hb
 ·intro hb
  exact⟨x,d,r,h,hb⟩
theorem zJ7 {H:Hp}{dx:Dt}{ds:List Dt}{xs:List V}{us:List Value}(z:DRs H ds xs) (y:Vals xs us):us.any (eqW H dx)=ds.any λ d=>Dt.beq d dx:=by
 induction y generalizing ds with
 |nil=>cases z;rfl
 |cons r rs ih =>
  cases z with|cons h t=>rw[List.any_cons,List.any_cons,zLQ r h,ih t]
theorem zJL {jP:List 86}{σ:L2.St}{H:Hp}{s:Shared}{A:Around}{dx:Dt}{x:V}{v:Value}(I:Inv X jP σ H s) (rx:RelV x v) (hx:DR H dx x) (hu:A.units+100<cLine){ds:List Dt}{xs:List V}{us:List Value}(z:DRs H ds xs) (y:Vals xs us):Dt.deeps ds<=100->∀u∈us,SeqAt.EqAt A s u v (eqW H dx u):=by
 induction y generalizing ds with
 |nil=>exact λ U u hu=>nomatch hu
 |cons r rs ih =>
  cases z with|cons h t =>
  intro hd u' hu';simp only[Dt.deeps] at hd;rcases nM.mp hu' with rfl|hu'
  ·rw[zLQ r h]
   exact zGz I 100 A (by omega) h hx r rx hu
  ·exact ih t (by omega) u' hu'
theorem zH7 (hu:X.A.units+150<cLine):OpR X (compareOp .NotIn) (rInD X true):=by
 intro jP s σ H x y v u Q I rx ry h;obtain⟨p,xs,ds,dx,rfl,hp,hds,hx,hd,q⟩:=h;cases ry;obtain⟨its,r,pl,hz⟩:=I.tuple hp;refine SeqAt.notIn_tupleAt (eqW H dx) pl (λ w hw=>zJL I rx hx (by first|(show X.A.in1.units+100<cLine;rw[show X.A.in1.units=X.A.units+1 from rfl];lia)|(show X.A.in1.in1.units+100<cLine;rw[show X.A.in1.in1.units=X.A.units+2 from rfl];lia)|lia) hds r hd w (by simpa using hw)) ⟨.bl _,H,I,rfl,?_⟩;rw[show its.toArray.any (eqW H dx)=its.any (eqW H dx) by simp,zJ7 hds r];exact q
end
end L2
namespace PySem
open Sem (wp)
namespace F
theorem dul_entry:entryFor table "dict.update.loop" = some Builtin.«dict.update.loop»:=entryFor_of_tree (by kernel_rfl)
theorem dul_plain:plainId "dict.update.loop" = true:=by right
theorem tuple_no_keys:typeLookup (.type "tuple") "keys" = pure none:=am_miss_of_fast (by right)
end F
theorem zDi {prog:Program}{w:World}{A:Around}{E:XQ}{s:Shared}{a:Addr}{o:Obj}{xs:Array Value}{k:Nat}{name:Str}{Q:Option Value->Shared->Prop}
  (hx:s.heap.get? a=some o) (hc:o.cls = .type "tuple") (hdat:o.data = .seq xs k) (hd:o.dict=none) (hmiss:typeLookup (.type "tuple") name=pure none)
  (hname:(["__module__", "__name__", "__qualname__", "__doc__", "__annotations__"]:List Str).contains name=false) (hA:A.handled=none) (hsz:name.length+100<=sizeLine)
  (h:∀h' tk,(∀b ob,s.heap.get? b=some ob->h'.get? b=some ob)->Q none { s with heap:=h',toks:=tk }):wpAny 90 A (getAttr? (.ref a) name) Q E s:=by
 obtain⟨c,dct,dat,sl⟩:=o;simp only at hc hdat hd;subst hc hdat hd;obtain⟨hp,g,d,tk,os⟩:=s;have hT:∀tk',(⟨hp,g,d,tk',os⟩:Shared).TypeIs (.ref a) "tuple" := λ Ω=>⟨_,hx,rfl⟩;have f1:=sub_AttributeError;have f3:=F.slot_tuple_getattribute.lookup;have f4:=F.slot_tuple_getattribute.bind (.ref a);have f5:=am_tuple_getattr_none;unfold getAttr? getAttrBy? getAttrBy
 repeat (any_goals (first|assumption|exact hT _|((with_reducible show wpAny _ _ (call (Value.builtin "tuple.__getattribute__") _ _) _ _ _);refine call_meets F.slot_tuple_getattribute (hT _) am_entry_tuple_getattribute (F.args_tuple_getattribute_2 _ _) (meets_getattribute_miss_tuple a xs k sl name _ hmiss hname hsz) ⟨hx,hA,λ h' tk' e hx'=>?_⟩)|wp_step))
 obtain⟨t',u',he⟩:=hx'.there;show wpAny _ _ (getattributeRaised _ _ _ _ _ _ _) _ _ _;unfold getattributeRaised
 repeat (any_goals (first|assumption|wp_step))
 all_goals first
  |exact h _ _ hx'.keeps
  |skip
section
variable {prog:Program}{w:World}{K:Type} [DecidableEq K] {knd:KeyKind prog w K}{A:Around}{R:Result->Shared->Prop}{E:XQ}
def zG6 (knd:KeyKind prog w K) (h:Heap) (its:List Value) (prs:List (K × Value)):Prop :=
 its.length=prs.length/\∀(i:Nat) (x:Value),its[i]?=some x->∃(pa:Addr) (key:Value) (kv:K × Value),x=Value.ref pa/\prs[i]?=some kv/\h.IsTuple pa #[key,kv.2]/\knd.is kv.1 key=true
theorem Heap.IsTuple.kept {h h':Heap}{a:Addr}{xs:Array Value}(x:h.IsTuple a xs) (k:∀b o,h.get? b=some o->h'.get? b=some o):h'.IsTuple a xs :=
 let ⟨o,ho,r⟩:=x;⟨o,k a o ho,r⟩
theorem zKp {h0:Heap}{d it t:Addr}{items:Array Value}{prs:List (K × Value)}(hA:A.handled=none) (hld:h0.objs.size<=d) (hli:h0.objs.size<=it) (hne:d≠it)
  (ht:h0.IsTuple t items) (hp:zG6 knd h0 items.toList prs) (hsz:prs.length<=sizeLine) :
  ∀(n i:Nat) (s:Shared),items.size - i=n->i<=items.size->(∀b o,h0.get? b=some o->s.heap.get? b=some o)->s.heap.IsTupleIter it t i->s.heap.DictOf knd d (merged [] (prs.take i)) ->
   (∀h' tk,(∀b o,h0.get? b=some o->h'.get? b=some o)->h'.DictOf knd d (merged [] prs)->R (.ok (.ret .none)) { s with heap:=h',toks:=tk }) ->
   codeAny 90 A (.builtin "dict.update.loop" ⟨[.ref d,.ref it,.int (i:Int) 0,.none],[]⟩) R s:=by
 have hlen:items.size=prs.length:=by rw[←hp.1];simp
 intro n
 induction n with
 |zero =>
  intro i s hn hi kp hit hd hR;have e:i=items.size:=by lia
  subst e;refine codeAny_builtin F.dul_entry ?_;rw[Around.under_plainId F.dul_plain _];refine lC (wpAny_pyNext_tuple_end (show A.in1.handled=none from hA) hit (ht.kept kp) 68 λ h' he=>?_);show wpAny _ _ (Builtin.Dict.addKeywords d [] >>= _) _ _ _;refine lC (lD (lD (hR h' s.toks (λ b o hb=>he b o (lT (mC (lJ hb) hli)) (kp b o hb)) ?_)));rw[hlen,mO] at hd;obtain⟨o,es,ep,ho,rest⟩:=hd;exact⟨o,es,ep,he d o hne ho,rest⟩
 |succ n ih =>
  intro i s hn hi kp hit hd hR;have hlt:i<items.size:=by lia
  obtain⟨pa,key,kv,ex,ekv,htp,hkey⟩:=hp.2 i items[i] (by simp[hlt]);refine codeAny_builtin F.dul_entry ?_;rw[Around.under_plainId F.dul_plain _];refine lC (wpAny_pyNext_tuple_item hit (ht.kept kp) (x:=items[i]) (by simp[hlt]) λ h1 hit1 hs1=>?_);have kp1:∀b o,h0.get? b=some o->h1.get? b=some o:=λ b o hb=>hs1.extBut b o (lT (mC (lJ hb) hli)) (kp b o hb);rw[ex];have htp1:=htp.kept kp1;refine lC (lG (lC (wpAny_tryCatch ?_)));unfold Builtin.Dict.pairItems;refine lC (wpAny_typeOf (s:={ s with heap:=h1 }) (v:=.ref pa) (T := "tuple") htp1.typeIs ?_);rw[if_pos 69];obtain⟨o2,ho2,hc2,n2,hd2⟩:=htp1;refine lC (wpAny_seqItems ho2 hd2 (lD ?_))
  have hd1:h1.DictOf knd d (merged [] (prs.take i)):=by
   obtain⟨o,es,ep,ho,rest⟩:=hd;exact⟨o,es,ep,hs1.extBut d o hne ho,rest⟩
  have hml:(merged [] (prs.take i)).length<=sizeLine:=by
   have e1:=merged_length_le ([]:List (K × Value)) (prs.take i);rw[List.length_nil,mN] at e1
   lia
  show wpAny _ _ (holding [key,kv.2] (dictSet d key kv.2)) _ _ _;refine lG (wpAny_dictSet_pairs (hsz:=hml) hkey hd1 λ h2 hd2 hs2=>?_);refine lD ⟨plainId_quiet F.dul_plain _,?_⟩;refine ih (i+1) _ 61 hlt (λ b o hb=>hs2.extBut b o (lT (mC (lJ hb) hld)) (kp1 b o hb)) (hit1.extBut hs2.extBut (Ne.symm hne)) ?_ λ h' tk k' d'=>hR h' tk k' d';rw[merged_take_succ [] prs i kv ekv];exact hd2
theorem zEh {s:Shared}{t:Addr}{o:Obj}{items:Array Value}{n:Nat}{prs:List (K × Value)}{Q:XQ}(hA:A.handled=none) (hx:s.heap.get? t=some o) (hc:o.cls = .type "tuple") (hdat:o.data = .seq items n) (hdn:o.dict=none)
  (hp:zG6 knd s.heap items.toList prs) (hsz:prs.length<=sizeLine)
  (h:∀h' tk,(∀b o,s.heap.get? b=some o->h'.get? b=some o)->h'.DictOf knd s.heap.objs.size (merged [] prs)->Q (.ref s.heap.objs.size) { s with heap:=h',toks:=tk }) :
  wpAny 90 A (call (.type "dict") [.ref t]) Q E s:=by
 refine callType_codes (Q₁:=λ obj s₁=>obj = .ref s.heap.objs.size/\s₁={ s with heap:=s.heap.push { cls:=.type "dict", data:=.dict #[] } }) F.kt_called_dict (F.kt_typeCall_dict_1 _) F.entry_dict_init (kt_code_dict_new _ ⟨rfl,rfl⟩) ?_;rintro obj s₁ ⟨rfl,rfl⟩;have hnew:(s.heap.push { cls:=.type "dict", data:=.dict #[] }).DictOf knd s.heap.objs.size []:=Heap.DictOf.new s.heap;have kp0:∀b o,s.heap.get? b=some o->(s.heap.push { cls:=.type "dict", data:=.dict #[] }).get? b=some o:=λ b o hb=>lH _ hb;have ht0:s.heap.IsTuple t items:=⟨o,hx,hc,n,hdat⟩;refine⟨hnew.typeIs,F.args_dict_init_2 _ _,?_⟩;unfold Builtin.«dict.__init__»;refine lC ?_;unfold Builtin.Dict.selfAndRest;refine lC (wpAny_notOrdered_dict hnew.typeIs ?_);show wpAny _ _ (pure (s.heap.objs.size,[Value.ref t])) _ _ _;refine lD ?_;show wpAny _ _ (Builtin.Dict.updateFrom "dict.__init__" s.heap.objs.size (.ref t) [] .none) _ _ _;unfold Builtin.Dict.updateFrom;refine lC (wpAny_typeOf (v:=.ref t) (T := "tuple") (ht0.kept kp0).typeIs ?_);rw[if_pos 69];refine lC (zDi (kp0 _ _ hx) hc hdat hdn F.tuple_no_keys (by right) hA (by size_fits) λ h1 tk kp1=>?_);rw[if_pos (show (Option.none:Option Value).isNone=true from rfl)];have kp01:∀b o,s.heap.get? b=some o->h1.get? b=some o:=λ b o hb=>kp1 b o (kp0 b o hb);refine lC (wpAny_rule ?_);refine lC (wpAny_pyIter_tuple (ht0.kept kp01) ?_)
 have hd1:h1.DictOf knd s.heap.objs.size []:=by
  obtain⟨o,es,ep,ho,rest⟩:=hnew;exact⟨o,es,ep,kp1 _ _ ho,rest⟩
 have hsd:s.heap.objs.size<h1.objs.size:=let ⟨_,_,_,ho,_⟩:=hd1;lJ ho;refine lD ⟨plainId_quiet F.dul_plain _,?_⟩;refine zKp (h0:=s.heap) (knd:=knd) (A:=A.in1) hA (lS _) (Nat.le_of_lt hsd) (lT hsd) ht0 hp hsz items.size 0 _ 61 (mB _) (λ b o hb=>lH _ (kp01 b o hb)) ⟨_,lI _ rfl,rfl,rfl⟩ (hd1.push _) λ h' tk' k' d'=>?_;exact⟨rfl,h h' tk' k' d'⟩
end
end PySem
namespace L2
open PySem PySem.Spec PyProof.Rows
section
variable {X:Cx}
theorem zIw (hu:X.A.units<cLine):OpR X (compareOp .NotEq) (λ x y H Q=>E3 λ(a b:Addr) (xs:List V)=>A5 (x = .ref a) (y = .ref b) (H a=some (.lst xs)) (H b=some (.lst [])) (Q (.bl (!(xs.length == 0))) H)):=by
 intro jP s σ H x y v u Q I rx ry h;obtain⟨a,b,xs,rfl,rfl,ha,hb,q⟩:=h;cases rx;cases ry;obtain⟨_,its,n,r1,l1,e1⟩:=I.lstM ha;obtain⟨_,its2,n2,r2,l2,e2⟩:=I.lstM hb;have L1:s.heap.IsList a its.toArray:=⟨_,e1,rfl,_,rfl⟩;have L2:s.heap.IsList b its2.toArray:=⟨_,e2,rfl,_,rfl⟩;have z2:its2.toArray.size=0:=by rw[mF];exact l2.symm
 by_cases hl:xs.length=0
 ·have e0:its.toArray.size=0:=by rw[mF];lia
  refine SeqAt.RcNeAt.lists (e:=λ Ω=>true) L1 L2 61 hu (λ j Ω h2=>absurd h2 61) _ _ _ _ ?_;rw[e0];rw[hl] at q;exact⟨.bl false,H,I,rfl,q⟩
 ·have e:(xs.length == 0)=false:=by simpa using hl
  rw[e] at q;exact SeqAt.RcNeAt.lists_lengths L1 L2 (by rw[z2,mF,bne_iff_ne];lia) hu _ _ _ _ ⟨.bl true,H,I,rfl,q⟩
def rDUpd:V->List V->Hp->VK->Prop:=λ x vs H Q=>E4 λ(a b:Addr) (ka kb:List (Key × V))=>A7 (x = .ref a) (vs=[.ref b]) (a≠b) (H a=some (.dK ka)) (H b=some (.dK kb)) (ka.length+kb.length<=sizeLine) (Q .non (upd H a (.dK (zAt ka kb))))
theorem zIA:MtM X "dict.update" rDUpd:=by
 intro jP s σ H x vs v us Q I rx rv h;obtain⟨a,b,ka,kb,rfl,rfl,hne,ha,hb,hz,q⟩:=h;cases rx;obtain⟨u,rfl,ru⟩:=rv.one;cases ru;obtain⟨z1,sa,va,ra,da⟩:=dk_of I.hok ha;obtain⟨z2,sb,vb,rb,db⟩:=dk_of I.hok hb;have hl:va.length+vb.length<=sizeLine:=by rw[←ra.length,←rb.length];exact hz
 refine call_meetsIn PySem.F.slot_dict_update da.typeIs PySem.F.entry_dict_update (PySem.F.args_dict_update_2 _ _) (meets_dict_update (zAo X.prog X.w) a b hne sb) ⟨va,vb,da,db,hl,λ h' d1 d2 hs=>?_⟩;have he:∃q,h'.get? a=some q:=let ⟨q,_,_,hq,_⟩:=d1;⟨q,hq⟩;have hm:(zAt ka kb).length<=sizeLine:=by have:=zBY kb ka;lia
 exact⟨.non,_,zFd (t':=s.toks) I (by rw[ha];exact True.intro) hs he (zHn hm sa (rb.merge ra) d1),rfl,q⟩
theorem zG2:CallR X (.type "tuple") (λ xs H Q=>E2 λ p ys=>A3 (xs=[.ref p]) (SqL X.K H p ys) (∀(l:Addr) (o:Obj),H l=none->o.dict=none->Q (.ref l) (upd H l (.frz o (.tup ys))))):=by
 intro jP s σ H xs us Q I r h;obtain⟨p,ys,rfl,hq,q⟩:=h;obtain⟨u,rfl,rx⟩:=vals1 r;cases rx;obtain⟨its,r',pl,hz⟩:=I.list hq;have hlen:=r'.length;refine call_tuple_list pl.isList (λ h' kp=>?_) (by simp only[mF]<;>lia);have I1:Inv X jP σ H { s with heap:=h' }:=I.kept (t':=s.toks) kp;have I2:=I1.laid (o:=.frz { cls:=.type "tuple", data:=.seq its.toArray } (.tup ys)) (t':=s.toks) (h':=h'.push { cls:=.type "tuple", data:=.seq its.toArray }) (λ b o e=>lH _ e) (lS h'.objs.size) ⟨lI _ rfl,hz,its,r',IsTup.new _ _⟩;exact⟨.ref h'.objs.size,_,I2,rfl,q _ _ (I1.hok.fresh (lS _)) rfl⟩
def PrV (H:Hp) (y:V) (kv:Key × V):Prop:=∃b,y = .ref b/\H b=some (.tup [kV kv.1,kv.2])
set_option tactic.hygienic true in
theorem zK9 {P:Program}{w:World}{H:Hp}{h:Heap}(ok:HOk P w H h):∀{ys:List V}{kvs:List (Key × V)},Paired (PrV H) ys kvs->∀{its:List Value},Vals ys its->∃prs,zG6 (zAo P w) h its prs/\KV kvs prs
 |_,_,.nil,its,r=>by
  cases r;exact⟨[],⟨rfl,λ i x hx=>by simp at hx⟩,.nil⟩
 |_,_,.cons (b:=kv) hy hr,its,r=>by
  cases r with
  |cons r1 r2 =>
   obtain⟨prs,⟨pl,pp⟩,k⟩:=zK9 ok hr r2;obtain⟨b,rfl,hb⟩:=hy;cases r1;obtain⟨_,its2,rv,tp⟩:=(show ObjOk P w H h b (.tup [kV kv.1,kv.2]) from ok b _ hb);cases rv with
   |cons q1 rv=>cases rv with
    |cons q2 rv =>
     cases rv;rename_i key val;refine⟨(kv.1,val)::prs,⟨by simp[pl],λ i x hx=>?_⟩,.cons ⟨rfl,q2⟩ k⟩;cases i with
     |zero =>
      simp at hx;exact⟨b,key,(kv.1,val),hx.symm,rfl,tp,kV_is q1⟩
     |succ i =>
      simp at hx;obtain⟨pa,key',kv',h1,h2,h3,h4⟩:=pp i x hx;exact⟨pa,key',kv',h1,by simpa using h2,h3,h4⟩
def zMU:List V->Hp->VK->Prop:=λ xs H Q=>E4 λ(a:Addr) (o:Obj) (ys:List V) (kvs:List (Key × V))=>A6 (xs=[.ref a]) (H a=some (.frz o (.tup ys))) (o.dict=none) (Paired (PrV H) ys kvs) (kvs.length<=1000) (∀p,H p=none->Q (.ref p) (upd H p (.dK (zAt [] kvs))))
theorem zDz (hc:X.calm=true):CallR X (.type "dict") zMU:=by
 intro jP s σ H xs us Q I r h;obtain⟨a,o,ys,kvs,rfl,ha,hdn,hp,hl,q⟩:=h;obtain⟨u,rfl,ru⟩:=vals1 r;cases ru;obtain⟨hx,hz,its,rv,o',ho',hcl,n,hdat⟩:=(show ObjOk X.prog X.w H s.heap a (.frz o (.tup ys)) from I.hok a _ ha);rw[hx] at ho';cases ho';obtain⟨prs,hpi,k⟩:=zK9 I.hok hp rv;have hkl:prs.length<=sizeLine:=by rw[←k.length];exact zAf hl
 have hm:(zAt [] kvs).length<=sizeLine:=by
  have:=zBY kvs [];rw[List.length_nil] at this;exact zAf 61
 refine zEh (knd:=zAo X.prog X.w) (I.ok.hd hc) hx hcl hdat hdn (by simpa using hpi) hkl λ h' tk kp d'=>?_;have hn:=I.hok.fresh (lS s.heap.objs.size);refine⟨.ref s.heap.objs.size,_,I.laid (a:=s.heap.objs.size) (o:=.dK (zAt [] kvs)) (t':=tk) kp (lS _) (zHn hm (beq_eq_false_iff_ne.mpr (Ne.symm (lT I.big))) (k.merge .nil) d'),rfl,q _ hn⟩
end
open PySem.W
section
variable {n:Nat}{r:Nat->Nat->Bool}
abbrev lt (r:Nat->Nat->Bool) (p:Array Nat) (i j:Nat):Bool:=r (p.getD i 0) (p.getD j 0)
end
noncomputable def lexB:List Int->List Int->Bool
 |_,[]=>false
 |[],_::_=>true
 |a::as,b::bs=>if a=b then lexB as bs else decide (a<b)
theorem zGC:∀as:List Int,lexB as as=false
 |[]=>rfl
 |a::as=>by rw[lexB,if_pos rfl];exact zGC as
theorem zEF:∀{as bs:List Int},as≠bs->lexB as bs=false->lexB bs as=true
 |[],[],h,_=>absurd rfl h
 |[],_::_,_,h=>by cases h
 |_::_,[],_,_=>rfl
 |a::as,b::bs,h,k=>by
  rw[lexB] at k ⊢
  by_cases e:a=b
  ·subst e
   rw[if_pos rfl] at k ⊢;exact zEF (λ z=>h (by rw[z])) k
  ·rw[if_neg e] at k
   rw[if_neg (Ne.symm e)];have:=of_decide_eq_false k;exact lW 61
theorem zDf:∀{as bs:List Int},lexB as bs=true->lexB bs as=false
 |[],[],h=>by cases h
 |[],_::_,_=>rfl
 |_::_,[],h=>by cases h
 |a::as,b::bs,k=>by
  rw[lexB] at k ⊢
  by_cases e:a=b
  ·subst e
   rw[if_pos rfl] at k ⊢;exact zDf k
  ·rw[if_neg e] at k
   rw[if_neg (Ne.symm e)];have:=lU k;exact decide_eq_false 61
theorem zFB:∀{as bs cs:List Int},lexB as bs=true->lexB bs cs=true->lexB as cs=true
 |_,_,[],_,h=>by cases ‹List Int›<;>cases h
 |[],_,_::_,_,_=>rfl
 |_::_,[],_::_,h,_=>by cases h
 |a::as,b::bs,c::cs,h,k=>by
  rw[lexB] at h k ⊢
  by_cases e1:a=b
  ·subst e1
   rw[if_pos rfl] at h
   by_cases e2:a=c
   ·subst e2
    rw[if_pos rfl] at k ⊢;exact zFB h k
   ·rw[if_neg e2] at k ⊢
    exact k
  ·rw[if_neg e1] at h
   have h':=lU h
   by_cases e2:b=c
   ·subst e2
    rw[if_neg e1];exact h
   ·rw[if_neg e2] at k
    have k':=lU k;rw[if_neg 61];exact lW 61
end L2
namespace PySem
open PySem.Calls PyProof.Rows PySem.W L2
open AutoSeq1 (wpAny_loadPart')
theorem zFX {vs:List Value}{ns:List Int}(h:IntsAre vs ns):vs.length=ns.length:=by
 induction h with
 |nil=>rfl
 |cons n t _ ih=>simp[ih]
theorem zKi {ns ms:List Int}{i:Nat}(h:i=min ns.length ms.length):lexB (ns.drop i) (ms.drop i)=decide (ns.length<ms.length):=by
 by_cases c:ns.length<ms.length
 ·have e1:ns.drop i=[]:=List.drop_of_length_le 61
  have e2:i<ms.length:=by lia
  rw[e1,List.drop_eq_getElem_cons e2,decide_eq_true c];rfl
 ·have e1:ms.drop i=[]:=List.drop_of_length_le 61
  rw[e1,decide_eq_false c];cases ns.drop i<;>rfl
theorem zH3 (l b:Addr) (items items2:Array Value) (n n2:Nat) (dd dd2:Option Addr) (sl sl2:Array (Option Value)) (ns ms:List Int) (hi1:IntsAre items.toList ns) (hi2:IntsAre items2.toList ms) :
  Meets (Builtin.«tuple.__lt__» ⟨[.ref l,.ref b],[]⟩)
   (λ A R s=>s.heap.get? l=some { cls:=.type "tuple", dict:=dd,data:=.seq items n,slots:=sl }/\s.heap.get? b=some { cls:=.type "tuple", dict:=dd2,data:=.seq items2 n2,slots:=sl2 } /\
    R (.ok (.ret (.bool (lexB ns ms)))) s) :=
 .of_wp λ prog w A R s h=>by
  obtain⟨hp,g,d,tk,os⟩:=s;obtain⟨hl,hb,h⟩:=h;have f2:=AutoSeq1.sub_tuple_tuple;have l1:items.size=ns.length:=by have:=zFX hi1;simpa using this
  have l2:items2.size=ms.length:=by have:=zFX hi2;simpa using this
  have hZ:(items.toList.zip items2.toList).length=min items.size items2.size:=by simp
  wp_walk using wpAny_loadPart' hl,wpAny_loadPart' hb,wpAny_forIn_list _ (λ rest b s'=>b.1=none/\s'=⟨hp,g,d,tk,os⟩/\∃i,rest=(items.toList.zip items2.toList).drop i/\i<=min items.size items2.size /\
   R (.ok (.ret (.bool (lexB (ns.drop i) (ms.drop i))))) ⟨hp,g,d,tk,os⟩) _
  case turn =>
   rintro⟨y,x⟩ rest b s' ⟨hb',rfl,i,hz,him,hR⟩
   have hlt:i<(items.toList.zip items2.toList).length:=by
    rcases Nat.lt_or_ge i (items.toList.zip items2.toList).length with h'|h'
    ·exact h'
    ·rw[List.drop_of_length_le h'] at hz;cases hz
   have hm:i<min items.size items2.size:=hZ▸hlt;have h1:i<items.size:=mC hm (Nat.min_le_left _ _);have h2:i<items2.size:=mC hm (Nat.min_le_right _ _);rw[List.drop_eq_getElem_cons hlt] at hz;injection hz with hyx hrest
   have hy:y=items[i]:=by have:=congrArg Prod.fst hyx;simpa using this
   have hx:x=items2[i]:=by have:=congrArg Prod.snd hyx;simpa using this
   subst hy hx;obtain⟨t1,e1⟩:=hi1.int_at i items[i] (by simp[h1]);obtain⟨t2,e2⟩:=hi2.int_at i items2[i] (by simp[h2]);rw[e1,e2]
   have d1:ns.drop i=ns.getD i 0::ns.drop (i+1):=by
    rw[List.drop_eq_getElem_cons 61];congr 1;simp[show i<ns.length by lia]
   have d2:ms.drop i=ms.getD i 0::ms.drop (i+1):=by
    rw[List.drop_eq_getElem_cons 61];congr 1;simp[show i<ms.length by lia]
   rw[d1,d2,lexB] at hR;refine lC (SeqAt.EqAt.int_int _ t1 _ t2 prog w _ _ ?_);cases hy:(ns.getD i 0 == ms.getD i 0) with
   |true =>
    rw[if_pos (by simpa using hy)] at hR
    wp_walk
    exact⟨rfl,rfl,i+1,hrest,by lia,hR⟩
   |false =>
    rw[if_neg (by simpa using hy)] at hR;rw[if_pos 102];refine lC (wpAny_rule (lC (PyProof.Rows.lt_int ?_)))
    wp_walk
    exact⟨_,rfl,hR⟩
  case fin =>
   rintro⟨b1,b2⟩ s' ⟨hb',rfl,i,hz,him,hR⟩;simp only at hb';subst hb'
   have hge:min items.size items2.size<=i:=by
    rcases Nat.lt_or_ge i (items.toList.zip items2.toList).length with h'|h'
    ·rw[List.drop_eq_getElem_cons h'] at hz;cases hz
    ·exact hZ▸h'
   rw[zKi 61] at hR
   wp_walk
   exact⟨_,rfl,by simpa[Builtin.Tuple.tupleCompareSizes,l1,l2] using hR⟩
  case h =>
   exact⟨rfl,rfl,0,rfl,mB _,by simpa using h⟩
section
variable {prog:Program}{w:World}{A:Around}{E:XQ}{s:Shared}
theorem zKN {l b:Addr}{items items2:Array Value}{ns ms:List Int}{Q:XQ}(hl:s.heap.IsTuple l items) (hb:s.heap.IsTuple b items2) (h1:IntsAre items.toList ns) (h2:IntsAre items2.toList ms) (hu:A.units<cLine)
  (h:Q (.bool (lexB ns ms)) s):wpAny 90 A (compareOp .Lt (.ref l) (.ref b)) Q E s:=by
 obtain⟨⟨cls,dd,data,sl⟩,ho,hc,n,hd⟩:=id hl;obtain⟨⟨cls2,dd2,data2,sl2⟩,ho2,hc2,n2,hd2⟩:=id hb;simp only at hc hd hc2 hd2;subst hc hd hc2 hd2
 exact richCompare_meets_room (op:=.Lt) ⟨_,ho,rfl⟩ ⟨_,ho2,rfl⟩ F.slot_tuple_lt F.entry_tuple_lt (F.args_tuple_lt_2 _ _) (zH3 l b items items2 n n2 dd dd2 sl sl2 ns ms h1 h2)
  ⟨ho,ho2,show Value.bool (lexB ns ms)≠Value.notImplemented/\Q (.bool (lexB ns ms)) s from⟨(λ x=>nomatch x),h⟩⟩ hu
theorem zKu:∀{ns ms:List Int},((List.range (min ns.length ms.length)).all (λ j=>ns.getD j 0 == ms.getD j 0) && ns.length == ms.length)=true->ns=ms:=by
 intro ns ms h;rw[Bool.and_eq_true,List.all_eq_true] at h;have hl:ns.length=ms.length:=by simpa using h.2
 refine List.ext_getElem hl λ i h1 h2=>?_;have:=h.1 i (List.mem_range.mpr 61);simpa[h1,h2] using this
theorem zKM {l b:Addr}{items items2:Array Value}{ns ms:List Int}(hl:s.heap.IsTuple l items) (hb:s.heap.IsTuple b items2) (h1:IntsAre items.toList ns) (h2:IntsAre items2.toList ms) (hu:A.units<cLine) (hne:ns≠ms):SeqAt.EqAt A s (.ref l) (.ref b) false:=by
 have e1:items.size=ns.length:=by have:=zFX h1;simpa using this
 have e2:items2.size=ms.length:=by have:=zFX h2;simpa using this
 have hne':l≠b:=λ z=>by
  subst z;obtain⟨o,ho,hc,n,hd⟩:=hl;obtain⟨o',ho',hc',n',hd'⟩:=hb;rw[ho] at ho';cases ho';rw[hd] at hd';cases hd';refine hne ?_;have:=h1.nums;rw[h2.nums] at this;exact this.symm
 have key:=SeqAt.RcAt.tuples (A:=A) (e:=λ j=>ns.getD j 0 == ms.getD j 0) hl hb hu λ j j1 j2=>by
  obtain⟨t1,q1⟩:=h1.int_at j items[j] (by simp[j1]);obtain⟨t2,q2⟩:=h2.int_at j items2[j] (by simp[j2]);rw[q1,q2];exact SeqAt.EqAt.int_int _ _ _ _
 rw[e1,e2] at key
 have:((List.range (min ns.length ms.length)).all (λ j=>ns.getD j 0 == ms.getD j 0) && ns.length == ms.length)=false:=by
  cases h:((List.range (min ns.length ms.length)).all (λ j=>ns.getD j 0 == ms.getD j 0) && ns.length == ms.length) with
  |false=>rfl
  |true=>exact absurd (zKu h) hne
 rw[this] at key;exact SeqAt.EqAt.of_refs hne' key
def PlcAt (h:Heap) (v:Value) (ns:List Int):Prop:=∃(a c:Addr) (u:Value) (its:Array Value),v = .ref a/\h.IsTuple a #[.ref c,u]/\h.IsTuple c its/\IntsAre its.toList ns
theorem PlcAt.kept {h h':Heap}{v:Value}{ns:List Int}(k:∀b o,o.cls = .type "tuple" -> h.get? b=some o->h'.get? b=some o):PlcAt h v ns->PlcAt h' v ns
 |⟨a,c,u,its,e,⟨o,ho,hc,r⟩,⟨o',ho',hc',r'⟩,i⟩=>⟨a,c,u,its,e,⟨o,k _ _ hc ho,hc,r⟩,⟨o',k _ _ hc' ho',hc',r'⟩,i⟩
theorem zF3 {h h':Heap}(k:∀b o,o.cls = .type "tuple" -> h.get? b=some o->h'.get? b=some o){vs:List Value}{ps:List (List Int)}(z:Paired (PlcAt h) vs ps):Paired (PlcAt h') vs ps:=by
 induction z with
 |nil=>exact .nil
 |cons r q ih=>exact .cons (r.kept k) ih
theorem zIo {h:Heap}{vs:List Value}{ps:List (List Int)}(z:Paired (PlcAt h) vs ps):∀{i:Nat},i<vs.length->PlcAt h (vs.getD i Value.none) (ps.getD i []):=by
 induction z with
 |nil=>exact λ h=>absurd h (Nat.not_lt_zero _)
 |cons r q ih =>
  intro i hi;cases i with
  |zero=>exact r
  |succ i=>have:=ih (i:=i) (by simpa using hi);simpa using this
theorem zMX {x y:Value}{ns ms:List Int}{Q:Bool->Shared->Prop}(hx:PlcAt s.heap x ns) (hy:PlcAt s.heap y ms) (hne:ns≠ms) (hu:A.units<cLine) (h:Q (lexB ns ms) s):wpAny 90 A (keyLt' (tuples' false) x y) Q E s:=by
 obtain⟨a,c,u,its,rfl,⟨o,ho,hc,n,hd⟩,hp,hi⟩:=hx;obtain⟨a',c',u',its',rfl,⟨o',ho',hc',n',hd'⟩,hp',hi'⟩:=hy;refine kat_lt ho hd ho' hd' ?_;show KatLex prog w A false _ Q [(.ref c,.ref c'),(u,u')] 0 s;refine kat_cons (zKM hp hp' hi hi' hu hne prog w _ _ (kat_no ?_));refine kat_one _ _ (zKN hp hp' hi hi' hu ?_);exact h
theorem zHX:∀{vs:List Value}{ps:List (List Int)}{h:Heap},Paired (PlcAt h) vs ps->∃fs,KatTups h vs fs/\fs.length=vs.length/\∀v∈fs,Looks 90 h (typeOf v) (.type "tuple")
 |_,_,_,.nil=>⟨[],trivial,rfl,λ v hv=>nomatch hv⟩
 |_,_,h,.cons r q=>by
  obtain⟨fs,h1,h2,h3⟩:=zHX q;obtain⟨a,c,u,its,rfl,⟨o,ho,hc,n,hd⟩,⟨o',ho',hc',r'⟩,hi⟩:=r;refine⟨.ref c::fs,KatTups.cons ho hc hd rfl h1,by simp[h2],λ v hv=>?_⟩;rcases lO.mp hv with rfl|hv
  ·have:=(show Looks 90 h (typeOf (.ref c)) o'.cls from(Looks.ld ho').andThen .now)
   rw[hc'] at this;exact this
  ·exact h3 v hv
theorem zKF:∀{vs:List Value},vs.length<2->(vs.toArray.zip vs.toArray).map (·.2)=List.toArray ((List.toArray (List.range vs.length)).toList.map λ i=>vs.getD i Value.none)
 |[],_=>by simp
 |[x],_=>by simp[List.range_succ]
 |_::_::_,h=>by simp at h;lia
end
end PySem
namespace L2
open PySem PySem.Spec PyProof.Rows PySem.W
def PlV (H:Hp) (p:List Int × V) (v:V):Prop:=∃(b c:Addr),v = .ref b/\H b=some (.tup [.ref c,p.2])/\H c=some (.tup (p.1.map V.int))
theorem PlV.mono {H H':Hp}(k:Tk H H') {p:List Int × V}{v:V}:PlV H p v->PlV H' p v
 |⟨b,c,e,h1,h2⟩=>⟨b,c,e,k _ _ h1,k _ _ h2⟩
theorem zJh:∀{ns:List Int}{us:List Value},Vals (ns.map V.int) us->IntsAre us ns
 |[],_,h=>by
  cases h;exact .nil
 |n::ns,_,h=>by
  rw[mL] at h;cases h with
  |cons r q =>
   obtain⟨t,rfl⟩:=r;exact .cons n t (zJh q)
theorem zHY {P:Program}{w:World}{H:Hp}{h:Heap}(ok:HOk P w H h) {p:List Int × V}{v:V}{u:Value}(hp:PlV H p v) (r:RelV v u):PlcAt h u p.1:=by
 obtain⟨b,c,rfl,h1,h2⟩:=hp;cases r;obtain⟨_,its,rv,tp⟩:=(show ObjOk P w H h b (.tup [.ref c,p.2]) from ok b _ h1);obtain⟨_,its2,rv2,tp2⟩:=(show ObjOk P w H h c (.tup (p.1.map V.int)) from ok c _ h2);cases rv with
 |cons q1 rv=>cases rv with
  |cons q2 rv =>
   cases rv;cases q1;exact⟨b,c,_,its2.toArray,rfl,tp,tp2,by simpa using zJh rv2⟩
theorem zIn {P:Program}{w:World}{H:Hp}{h:Heap}(ok:HOk P w H h){ps:List (List Int × V)}{vs:List V}{us:List Value}(z:Paired (PlV H) ps vs):Vals vs us->Paired (PlcAt h) us (ps.map (·.1)):=by
 induction z generalizing us with
 |nil=>intro r;cases r;exact .nil
 |cons hp q ih =>
  intro r;cases r with
  |cons r1 r2=>exact .cons (zHY ok hp r1) (ih r2)
end L2
namespace PySem
open AutoSeq1
set_option maxRecDepth 8000 in
theorem zFb (l:Addr) (items:Array Value) (n:Nat) (b:Addr) (items2:Array Value) (n2:Nat) (dd:Option Addr) (sl:Array (Option Value)) (hs0:¬(!items.isEmpty && Builtin.List.listTooLong (items.size+items2.size))=true) (hs1:items.size<=sizeLine) (hs2:items.size+items2.size<=sizeLine+1) :
  Meets (Builtin.«list.extend» ⟨[.ref l,.ref b],[]⟩) (λ Ω R s=>s.heap.get? l=some { cls:=.type "list", dict:=none,data:=.seq items n,slots:=#[] }/\s.heap.get? b=some { cls:=.type "tuple", dict:=dd,data:=.seq items2 n2,slots:=sl }/\R (.ok (.ret Value.none)) { s with heap:=s.heap.update l (Obj.mapSeq λ x=>x++items2),toks:=s.toks }) :=
 .of_wp λ prog w A R s h=>by
  obtain⟨hp,g,d,tk,os⟩:=s;obtain⟨hl,hb,h⟩:=h;have f1:=idx_int;have f2:=sub_tuple_tuple;have f3:=sub_list_list;have f4:=sub_tuple_list;have f5:=sub_list_tuple;have hz':(items++items2).size<=sizeLine+1:=by rw[Array.size_append];exact hs2
  wp_walk using (wpAny_updateSeq hl rfl (hz:=hs1) (_hz':=hz')),wpAny_loadPart' hl,wpAny_loadPart' hb
  exact⟨_,rfl,h⟩
end PySem
namespace L2
open PySem PySem.Spec PyProof.Rows
section
variable {X:Cx}
def zKJ (K:W.Frag):V->List V->Hp->VK->Prop:=λ x vs H Q=>E4 λ l b xs zs=>A6 (x = .ref l) (vs=[.ref b]) (H l=some (.lst xs)) (SqT K H b zs) (xs.length+zs.length<=sizeLine) (Q .non (upd H l (.lst (xs++zs))))
theorem zH9:MtM X "list.extend" (zKJ X.K):=by
 intro jP s σ H x vs v us Q I rx rv h;obtain⟨l,b,xs,zs,rfl,rfl,hH,hB,hz,q⟩:=h;cases rx;obtain⟨u,rfl,ru⟩:=rv.one;cases ru;obtain⟨z,its,n,r,hl,e⟩:=I.lstM hH;obtain⟨its2,r2,p2,z2⟩:=I.tuple hB;obtain⟨⟨cls,dd,data,sl⟩,e2,hc,n2,hd⟩:=id p2;simp only at hc hd;subst hc hd;have hl2:=r2.length;have hsz:its.toArray.size+its2.toArray.size<=sizeLine:=by rw[mF,mF];lia
 have hlong:¬(!its.toArray.isEmpty && Builtin.List.listTooLong (its.toArray.size+its2.toArray.size))=true:=by
  rw[zHa hsz,Bool.and_false];exact lZ
 refine call_meets F.slot_list_extend ⟨_,e,rfl⟩ F.entry_list_extend (F.args_list_extend_2 _ _)
  (zFb l its.toArray n b its2.toArray n2 dd sl hlong (by rw[mF];lia) 61) ⟨e,e2,?_⟩
 refine⟨.non,_,I.lset (its':=its++its2) hH e 68 (r.append r2) ?_,rfl,q⟩;rw[mK]
 lia
def tTupF (t:TA):TE:=λ σ H Q=>t σ H λ xs H1=>xs.length<=sizeLine/\∀(p:Addr) (o:Obj),H1 p=none->o.dict=none->Q (.ref p) (upd H1 p (.frz o (.tup xs)))
theorem zFS {es:List Expr}{t:TA}{x1} {pos:Pos}(h:PA X es t):PE X (.Tuple es x1 pos) (tTupF t):=by
 intro jP s σ H Q I hq;refine wpAny_Tuple_spliced (thn (h pos jP s σ H _ I hq) λ us s1 ⟨xs,H1,I1,r,z,q⟩=>⟨by rw[←r.length];exact z,?_⟩);have hf:H1 s1.heap.objs.size=none:=I1.hok.fresh (lS _);refine⟨.ref s1.heap.objs.size,_,I1.laid (o:=.frz { cls:=.type "tuple", data:=.seq us.toArray } (.tup xs)) (t':=s1.toks) (λ b u e=>lH _ e) (lS _) ?_,rfl,q _ _ hf rfl⟩;exact⟨lI _ rfl,z,us,r,⟨_,lI _ rfl,rfl,_,rfl⟩⟩
theorem zIu (hu:X.A.units+1<cLine):OpR X (compareOp .NotIn) (λ x y H Q=>E2 λ(a:Addr) (o:Option V)=>A3 (y = .ref a) (DGet H a x o) (Q (.bl (!o.isSome)) H)):=by
 intro jP s σ H x y v u Q I rx ry h;obtain⟨a,o,rfl,g,q⟩:=h;cases ry;exact zMC hu I g rx λ s' I'=>⟨.bl (!o.isSome),H,I',rfl,q⟩
end
open PySem.W
instance:DecidableEq Dt:=λ d e=>decidable_of_iff (Dt.beq d e=true) Dt.beq_iff
mutual
inductive DA (h:Heap):Dt->Value->Prop
 |int (i:Int) (t:Tok):DA h (.int i) (.int i t)
 |str (x:Str) (t:Tok):DA h (.str x) (.str x t)
 |tup {a:Addr}{items:Array Value}{ds:List Dt}:h.IsTuple a items->DAs h ds items.toList->DA h (.tup ds) (.ref a)
inductive DAs (h:Heap):List Dt->List Value->Prop
 |nil:DAs h [] []
 |cons {d:Dt}{u:Value}{ds:List Dt}{us:List Value}:DA h d u->DAs h ds us->DAs h (d::ds) (u::us)
end
theorem zGL {h:Heap}{a:Addr}{x y:Array Value}(hx:h.IsTuple a x) (hy:h.IsTuple a y):x=y:=by
 obtain⟨o,ho,_,n,hd⟩:=hx;obtain⟨o',ho',_,n',hd'⟩:=hy;rw[ho] at ho';cases ho';rw[hd] at hd';cases hd';rfl
theorem zII {h h':Heap}(k:∀b o,o.cls = .type "tuple" -> h.get? b=some o->h'.get? b=some o) {a:Addr}{x:Array Value}:h.IsTuple a x->h'.IsTuple a x
 |⟨o,ho,hc,r⟩=>⟨o,k _ _ hc ho,hc,r⟩
mutual
noncomputable def Dt.hsh (w:World):Dt->Int
 |.int i=>hashInt i
 |.str x=>hashStr w x
 |.tup ds=>reduceHash (Builtin.Tuple.tupleHashOf (Dt.hshs w ds))
noncomputable def Dt.hshs (w:World):List Dt->List Int
 |[]=>[]
 |d::ds=>Dt.hsh w d::Dt.hshs w ds
end
mutual
noncomputable def Dt.draws:Dt->Nat
 |.int _=>1
 |.str _=>1
 |.tup ds=>Dt.drawss ds+1
noncomputable def Dt.drawss:List Dt->Nat
 |[]=>0
 |d::ds=>Dt.draws d+Dt.drawss ds
end
noncomputable def strLt (x y:Str):Bool:=decide (x.cps.toList<y.cps.toList)
mutual
noncomputable def Dt.lt:Dt->Dt->Bool
 |.int i,.int j=>decide (i<j)
 |.str x,.str y=>strLt x y
 |.tup ds,.tup es=>Dt.lts ds es
 |.int _,.str _=>true
 |.int _,.tup _=>true
 |.str _,.tup _=>true
 |.str _,.int _=>false
 |.tup _,.int _=>false
 |.tup _,.str _=>false
noncomputable def Dt.lts:List Dt->List Dt->Bool
 |[],[]=>false
 |[],_::_=>true
 |_::_,[]=>false
 |d::ds,e::es=>if Dt.beq d e=true then Dt.lts ds es else Dt.lt d e
end
inductive Ty where
 |int|str|many (t:Ty)|two (a b:Ty)
mutual
noncomputable def Dt.has:Ty->Dt->Bool
 |.int,.int _=>true
 |.str,.str _=>true
 |.many t,.tup ds=>Dt.hass t ds
 |.two a b,.tup ds=>Dt.hasp a b ds
 |_,_=>false
noncomputable def Dt.hass:Ty->List Dt->Bool
 |_,[]=>true
 |t,d::ds=>Dt.has t d && Dt.hass t ds
noncomputable def Dt.hasp:Ty->Ty->List Dt->Bool
 |a,b,d::es=>Dt.has a d && Dt.hasq b es
 |_,_,_=>false
noncomputable def Dt.hasq:Ty->List Dt->Bool
 |b,e::es=>Dt.has b e && (es.length == 0)
 |_,_=>false
end
mutual
noncomputable def Dt.cmp:Dt->Dt->Bool
 |.int _,.int _=>true
 |.str _,.str _=>true
 |.tup ds,.tup es=>Dt.cmps ds es
 |_,_=>false
noncomputable def Dt.cmps:List Dt->List Dt->Bool
 |[],_=>true
 |_::_,[]=>true
 |d::ds,e::es=>if Dt.beq d e=true then Dt.cmps ds es else Dt.cmp d e
end
open PySem.Calls
open AutoSeq1 (wpAny_loadPart')
noncomputable def zL7:Bool->Keyed->Array Keyed->Nat->Nat->Nat->StateT SortSt Sem (Option Nat):=sortPriv% PySem.Builtin.gallop
noncomputable def zKe:Array Keyed->Array Keyed->StateT SortSt Sem (Array Keyed):=sortPriv% PySem.Builtin.mergeLo
noncomputable def zKf:Array Keyed->Array Keyed->StateT SortSt Sem (Array Keyed):=sortPriv% PySem.Builtin.mergeHi
structure LtE (M:Model) (A:Around) (E:XQ) (s:Shared) (κ:SortKind) (G:Keyed->Prop) (R:Keyed->Keyed->Bool):Prop where
 lt:∀x y,G x->G y->∀(st:SortSt) (Q:Option Bool->SortSt->Prop),kindOf st=κ->Q (some (R x y)) st->wpS M A E s (lt' x y) Q st
 asym:∀x y,G x->G y->R x y=true->R y x=false
 tr:∀x y z,G x->G y->G z->R x y=false->R y z=false->R x z=false
theorem all2 {A0 A1:Type}{P:A0 × A1->Prop}(h:∀a0 a1,P (a0,a1)):∀x,P x:=λ⟨a0,a1⟩=>h a0 a1
theorem all3 {A0 A1 A2:Type}{P:A0 × A1 × A2->Prop}(h:∀a0 a1 a2,P (a0,a1,a2)):∀x,P x:=λ⟨a0,a1,a2⟩=>h a0 a1 a2
theorem all5 {A0 A1 A2 A3 A4:Type}{P:A0 × A1 × A2 × A3 × A4->Prop}(h:∀a0 a1 a2 a3 a4,P (a0,a1,a2,a3,a4)):∀x,P x:=λ⟨a0,a1,a2,a3,a4⟩=>h a0 a1 a2 a3 a4
theorem all6 {A0 A1 A2 A3 A4 A5:Type}{P:A0 × A1 × A2 × A3 × A4 × A5->Prop}(h:∀a0 a1 a2 a3 a4 a5,P (a0,a1,a2,a3,a4,a5)):∀x,P x:=λ⟨a0,a1,a2,a3,a4,a5⟩=>h a0 a1 a2 a3 a4 a5
theorem all7 {A0 A1 A2 A3 A4 A5 A6:Type}{P:A0 × A1 × A2 × A3 × A4 × A5 × A6->Prop}(h:∀a0 a1 a2 a3 a4 a5 a6,P (a0,a1,a2,a3,a4,a5,a6)):∀x,P x:=λ⟨a0,a1,a2,a3,a4,a5,a6⟩=>h a0 a1 a2 a3 a4 a5 a6
theorem an3 {a0 a1 a2 G:Prop}(h:a0/\a1/\a2) (k:a0->a1->a2->G):G:=k h.1 h.2.1 h.2.2
theorem an4 {a0 a1 a2 a3 G:Prop}(h:a0/\a1/\a2/\a3) (k:a0->a1->a2->a3->G):G:=k h.1 h.2.1 h.2.2.1 h.2.2.2
theorem an5 {a0 a1 a2 a3 a4 G:Prop}(h:a0/\a1/\a2/\a3/\a4) (k:a0->a1->a2->a3->a4->G):G:=k h.1 h.2.1 h.2.2.1 h.2.2.2.1 h.2.2.2.2
theorem an6 {a0 a1 a2 a3 a4 a5 G:Prop}(h:a0/\a1/\a2/\a3/\a4/\a5) (k:a0->a1->a2->a3->a4->a5->G):G:=k h.1 h.2.1 h.2.2.1 h.2.2.2.1 h.2.2.2.2.1 h.2.2.2.2.2
theorem an7 {a0 a1 a2 a3 a4 a5 a6 G:Prop}(h:a0/\a1/\a2/\a3/\a4/\a5/\a6) (k:a0->a1->a2->a3->a4->a5->a6->G):G:=k h.1 h.2.1 h.2.2.1 h.2.2.2.1 h.2.2.2.2.1 h.2.2.2.2.2.1 h.2.2.2.2.2.2
theorem an8 {a0 a1 a2 a3 a4 a5 a6 a7 G:Prop}(h:a0/\a1/\a2/\a3/\a4/\a5/\a6/\a7) (k:a0->a1->a2->a3->a4->a5->a6->a7->G):G:=k h.1 h.2.1 h.2.2.1 h.2.2.2.1 h.2.2.2.2.1 h.2.2.2.2.2.1 h.2.2.2.2.2.2.1 h.2.2.2.2.2.2.2
section
variable {M:Model}{A:Around}{E:XQ}{s:Shared}{κ:SortKind}{G:Keyed->Prop}{R:Keyed->Keyed->Bool}
theorem zAO {α:Type}{c:Prop} [Decidable c] {x y:StateT SortSt Sem α}{Q:α->SortSt->Prop}{st:SortSt}(h1:c->wpS M A E s x Q st) (h2:¬c->wpS M A E s y Q st):wpS M A E s (if c then x else y) Q st:=by
 by_cases h:c
 ·rw[if_pos h];exact h1 h
 ·rw[if_neg h];exact h2 h
theorem zCJ {n:String}{Q:Unit->SortSt->Prop}{st:SortSt}(h:Q () st):wpS M A E s (liftM (rule n):StateT SortSt Sem Unit) Q st:=wpS_lift (wpAny_rule ⟨rfl,h⟩)
theorem zAT {arr:Array Keyed}{i:Nat}{x:Keyed}{Q:Keyed->SortSt->Prop}{st:SortSt}(e:arr[i]?=some x) (h:Q x st):wpS M A E s (elem' arr i) Q st:=by
 rw[elem'_eq,e];exact wpS_pure h
noncomputable def byd (R:Keyed->Keyed->Bool) (left:Bool) (key x:Keyed):Bool:=if left=true then R x key else !R key x
theorem bey (L:LtE M A E s κ G R) {left:Bool}{key:Keyed}{arr:Array Keyed}{base n i:Nat}{f:Nat->Keyed}{st:SortSt}{Q:Option Bool->SortSt->Prop}(hk:kindOf st=κ) (gk:G key) (hf:∀i,i<n->arr[base+i]?=some (f i)) (gf:∀i,i<n->G (f i)) (hi:i<n) (h:Q (some (byd R left key (f i))) st) :
    wpS M A E s ((do let x ← elem' arr (base+i);if left=true then lt' x key else do let r ← lt' key x;pure (r.map (!·))):StateT SortSt Sem (Option Bool)) Q st:=by
  refine wpS_bind (zAT (hf i hi) ?_);unfold byd at h
  by_cases c:left=true
  · rw[if_pos c] at h ⊢
    exact L.lt _ _ (gf i hi) gk st Q hk h
  · rw[if_neg c] at h ⊢
    exact wpS_bind (L.lt _ _ gk (gf i hi) st _ hk (wpS_pure h))
theorem zAw (L:LtE M A E s κ G R) {left:Bool}{key:Keyed}{arr:Array Keyed}{base n hint:Nat}{f:Nat->Keyed}{st:SortSt}{Q:Option Nat->SortSt->Prop}(hk:kindOf st=κ) (gk:G key) (hf:∀i,i<n->arr[base+i]?=some (f i)) (gf:∀i,i<n->G (f i)) (hh:hint<n)
  (hmono:∀i j,i<=j->j<n->byd R left key (f j)=true->byd R left key (f i)=true)
  (h:∀k,k<=n->(∀i,i<k->byd R left key (f i)=true)->(∀i,k<=i->i<n->byd R left key (f i)=false)->Q (some k) st):wpS M A E s (zL7 left key arr base n hint) Q st:=by
 refine wpS_bind (bey L hk gk hf gf hh ?_);dsimp only;cases hc:byd R left key (f hint) with
 |true =>
  rw[if_pos rfl];refine wpS_bind (wpS_mono (wpS_forRange (I:=λ i (c:Option (Option Nat) × Nat × Nat) st'=>st=st'/\c.1=none/\i+1<=c.2.2/\c.2.1<c.2.2/\hint+c.2.1<n/\byd R left key (f (hint+c.2.1))=true) (Q:=λ c st'=>st=st'/\c.1=none/\hint+c.2.1<n/\c.2.1<c.2.2/\byd R left key (f (hint+c.2.1))=true/\(n - hint<=c.2.2\/(hint+c.2.2<n/\byd R left key (f (hint+c.2.2))=false))) ?_ ?_ ⟨rfl,rfl,lS _,Nat.zero_lt_one,hh,hc⟩) ?_)
  ·refine λ i=>all3 λ r la o st' Ω hin hI=>an6 hI λ hE0 hE1 h1 h2 h3 h4=>?_
   obtain rfl:=hE0;obtain rfl:=hE1;dsimp only at h1 h2 h3 h4 ⊢;refine zAO 77 77
   ·exact wpS_pure ⟨rfl,rfl,h3,h2,h4,.inl c⟩
   ·refine wpS_bind (bey L hk gk hf gf (i:=hint+o) 61 ?_)
    dsimp only;cases hm:byd R left key (f (hint+o)) with
    |true=>exact wpS_pure ⟨rfl,rfl,65,65,65,hm⟩
    |false=>exact wpS_pure ⟨rfl,rfl,h3,h2,h4,.inr ⟨by dsimp only;lia,hm⟩⟩
  ·refine all3 λ r la o st' hI=>an6 hI λ hE0 hE1 h1 h2 h3 h4=>?_
   obtain rfl:=hE0;obtain rfl:=hE1;dsimp only at h1 h2 h3 h4 ⊢;exact⟨rfl,rfl,h3,h2,h4,.inl 61⟩
  refine all3 λ r la o st' hI=>an6 hI λ hE0 hE1 h1 h2 h3 h4=>?_;obtain rfl:=hE0;obtain rfl:=hE1;dsimp only at h1 h2 h3 h4 ⊢
  refine wpS_bind (wpS_forRange (I:=λ i (c:Option (Option Nat) × Nat × Nat) st'=>st=st'/\c.1=none/\c.2.1<=c.2.2/\c.2.2<=n/\c.2.2 - c.2.1<=n - i/\(∀j,j<c.2.1->byd R left key (f j)=true)/\(∀j,c.2.2<=j->j<n->byd R left key (f j)=false)) ?_ ?_ ⟨rfl,rfl,65,65,65,(λ j hj=>hmono j _ (by dsimp only at hj;lia) h1 h3),(λ j hj hjn=>by
   dsimp only at hj;rcases h4 with h4|⟨h5,h6⟩
   ·lia
   ·cases z:byd R left key (f j) with
    |false=>rfl
    |true=>rw[hmono _ j 61 hjn z] at h6;cases h6)⟩)
  ·refine λ i=>all3 λ r lo hi st' Ω hin hI=>an7 hI λ hE0 hE1 hlh hhn hfu hlo hhi=>?_
   obtain rfl:=hE0;obtain rfl:=hE1;dsimp only at hlh hhn hfu hlo hhi ⊢;refine zAO 77 77
   ·refine wpS_pure ?_
    have:lo=hi:=by lia
    subst this;exact wpS_pure (h lo hhn hlo hhi)
   ·refine wpS_bind (bey L hk gk hf gf (i:=lo+(hi - lo) / 2) 61 ?_)
    dsimp only;cases hm:byd R left key (f (lo+(hi - lo) / 2)) with
    |true=>exact wpS_pure ⟨rfl,rfl,65,hhn,65,λ j hj=>hmono j _ (by dsimp only at hj;lia) 61 hm,hhi⟩
    |false=>exact wpS_pure ⟨rfl,rfl,65,65,65,hlo,λ j hj hjn=>by
      cases z:byd R left key (f j) with
      |false=>rfl
      |true=>rw[hmono _ j hj hjn z] at hm;cases hm⟩
  ·refine all3 λ r lo hi st' hI=>an7 hI λ hE0 hE1 hlh hhn hfu hlo hhi=>?_
   obtain rfl:=hE0;obtain rfl:=hE1;dsimp only at hlh hhn hfu hlo hhi ⊢;have:lo=hi:=by lia
   subst this;exact wpS_pure (h lo hhn hlo hhi)
 |false =>
  rw[if_neg 68];refine wpS_bind (wpS_mono (wpS_forRange (I:=λ i (c:Option (Option Nat) × Nat × Nat) st'=>st=st'/\c.1=none/\i+1<=c.2.2/\c.2.1<c.2.2/\c.2.1<=hint/\byd R left key (f (hint - c.2.1))=false) (Q:=λ c st'=>st=st'/\c.1=none/\c.2.1<=hint/\c.2.1<c.2.2/\byd R left key (f (hint - c.2.1))=false/\(hint+1<=c.2.2\/(c.2.2<=hint/\byd R left key (f (hint - c.2.2))=true))) ?_ ?_ ⟨rfl,rfl,lS _,Nat.zero_lt_one,mB _,hc⟩) ?_)
  ·refine λ i=>all3 λ r la o st' Ω hin hI=>an6 hI λ hE0 hE1 h1 h2 h3 h4=>?_
   obtain rfl:=hE0;obtain rfl:=hE1;dsimp only at h1 h2 h3 h4 ⊢;refine zAO 77 77
   ·exact wpS_pure ⟨rfl,rfl,h3,h2,h4,.inl c⟩
   ·refine wpS_bind (bey L hk gk hf gf (i:=hint - o) 61 ?_)
    dsimp only;cases hm:byd R left key (f (hint - o)) with
    |false=>exact wpS_pure ⟨rfl,rfl,65,65,65,hm⟩
    |true=>exact wpS_pure ⟨rfl,rfl,h3,h2,h4,.inr ⟨by dsimp only;lia,hm⟩⟩
  ·refine all3 λ r la o st' hI=>an6 hI λ hE0 hE1 h1 h2 h3 h4=>?_
   obtain rfl:=hE0;obtain rfl:=hE1;dsimp only at h1 h2 h3 h4 ⊢;exact⟨rfl,rfl,h3,h2,h4,.inl 61⟩
  refine all3 λ r la o st' hI=>an6 hI λ hE0 hE1 h1 h2 h3 h4=>?_;obtain rfl:=hE0;obtain rfl:=hE1;dsimp only at h1 h2 h3 h4 ⊢
  refine wpS_bind (wpS_forRange (I:=λ i (c:Option (Option Nat) × Nat × Nat) st'=>st=st'/\c.1=none/\c.2.1<=c.2.2/\c.2.2<=n/\c.2.2 - c.2.1<=n - i/\(∀j,j<c.2.1->byd R left key (f j)=true)/\(∀j,c.2.2<=j->j<n->byd R left key (f j)=false)) ?_ ?_ ⟨rfl,rfl,65,65,65,(λ j hj=>by
   dsimp only at hj;rcases h4 with h4|⟨h5,h6⟩
   ·lia
   ·exact hmono j _ 61 61 h6),(λ j hj hjn=>by
   dsimp only at hj
   cases z:byd R left key (f j) with
    |false=>rfl
    |true=>rw[hmono _ j 61 hjn z] at h3;cases h3)⟩)
  ·refine λ i=>all3 λ r lo hi st' Ω hin hI=>an7 hI λ hE0 hE1 hlh hhn hfu hlo hhi=>?_
   obtain rfl:=hE0;obtain rfl:=hE1;dsimp only at hlh hhn hfu hlo hhi ⊢;refine zAO 77 77
   ·refine wpS_pure ?_
    have:lo=hi:=by lia
    subst this;exact wpS_pure (h lo hhn hlo hhi)
   ·refine wpS_bind (bey L hk gk hf gf (i:=lo+(hi - lo) / 2) 61 ?_)
    dsimp only;cases hm:byd R left key (f (lo+(hi - lo) / 2)) with
    |true=>exact wpS_pure ⟨rfl,rfl,65,hhn,65,λ j hj=>hmono j _ (by dsimp only at hj;lia) 61 hm,hhi⟩
    |false=>exact wpS_pure ⟨rfl,rfl,65,65,65,hlo,λ j hj hjn=>by
      cases z:byd R left key (f j) with
      |false=>rfl
      |true=>rw[hmono _ j hj hjn z] at hm;cases hm⟩
  ·refine all3 λ r lo hi st' hI=>an7 hI λ hE0 hE1 hlh hhn hfu hlo hhi=>?_
   obtain rfl:=hE0;obtain rfl:=hE1;dsimp only at hlh hhn hfu hlo hhi ⊢;have:lo=hi:=by lia
   subst this;exact wpS_pure (h lo hhn hlo hhi)
end
def OL (R:Keyed->Keyed->Bool) (l:List Keyed):Prop:=l.Pairwise λ x y=>R y x=false
structure MI (R:Keyed->Keyed->Bool) (A B o as bs:List Keyed):Prop where
 ord:OL R o
 le:∀x∈o,∀y,y∈as\/y∈bs->R y x=false
 perm:(o++(as++bs)).Perm (A++B)
 sa:OL R as
 sb:OL R bs
section
variable {R:Keyed->Keyed->Bool}{A B o as bs p:List Keyed}
theorem MI.a (h:MI R A B o (p++as) bs) (hp:∀x∈p,∀y∈bs,R y x=false):MI R A B (o++p) as bs:=by
 obtain⟨s1,s2,s3⟩:=List.pairwise_append.mp h.sa;refine⟨List.pairwise_append.mpr ⟨h.ord,s1,λ x hx y hy=>h.le x hx y (.inl (mH _ hy))⟩,λ x hx y hy=>?_,?_,s2,h.sb⟩
 ·rcases lM.mp hx with hx|hx
  ·exact h.le x hx y (hy.imp (mD _) id)
  ·rcases hy with hy|hy
   ·exact s3 x hx y hy
   ·exact hp x hx y hy
 ·have e:o++p++(as++bs)=o++(p++as++bs):=by simp[mX]
  rw[e];exact h.perm
theorem MI.b (h:MI R A B o as (p++bs)) (hp:∀x∈p,∀y∈as,R y x=false):MI R A B (o++p) as bs:=by
 obtain⟨s1,s2,s3⟩:=List.pairwise_append.mp h.sb;refine⟨List.pairwise_append.mpr ⟨h.ord,s1,λ x hx y hy=>h.le x hx y (.inr (mH _ hy))⟩,λ x hx y hy=>?_,?_,h.sa,s2⟩
 ·rcases lM.mp hx with hx|hx
  ·exact h.le x hx y (hy.imp id (mD _))
  ·rcases hy with hy|hy
   ·exact hp x hx y hy
   ·exact s3 x hx y hy
 ·refine List.Perm.trans ?_ h.perm
  rw[mX];refine List.Perm.append_left _ ?_;rw[←mX,←mX];exact List.Perm.append_right _ List.perm_append_comm
theorem MI.fin (h:MI R A B o as bs) (hp:∀x∈as,∀y∈bs,R y x=false):OL R (o++as++bs)/\(o++as++bs).Perm (A++B):=by
 rw[mX];refine⟨List.pairwise_append.mpr ⟨h.ord,List.pairwise_append.mpr ⟨h.sa,h.sb,hp⟩,λ x hx y hy=>h.le x hx y (lM.mp hy)⟩,h.perm⟩
theorem MI.fin2 (h:MI R A B o as bs) (hp:∀x∈bs,∀y∈as,R y x=false):OL R (o++bs++as)/\(o++bs++as).Perm (A++B):=by
 rw[mX];refine⟨List.pairwise_append.mpr ⟨h.ord,List.pairwise_append.mpr ⟨h.sb,h.sa,hp⟩,λ x hx y hy=>h.le x hx y (lM.mp hy).symm⟩,?_⟩;exact(List.Perm.append_left _ List.perm_append_comm).trans h.perm
end
abbrev setG (st:SortSt) (g:Nat):SortSt:=SortSt.mk' (kindOf st) (arrOf st) (pendingOf st) g (failedOf st)
section
variable {M:Model}{A:Around}{E:XQ}{s:Shared}{κ:SortKind}{G:Keyed->Prop}{R:Keyed->Keyed->Bool}
abbrev d0:Keyed:=(.none,.none)
theorem zHl (a:Array Keyed) (i:Nat):(a.extract i).toList=a.toList.drop i:=by
 rw[Array.toList_extract,List.extract_eq_take_drop];exact mU 68
theorem ex_k (a:Array Keyed) (i k:Nat):(a.extract i (i+k)).toList=(a.toList.drop i).take k:=by
 rw[Array.toList_extract,List.extract_eq_take_drop,Nat.add_sub_cancel_left]
theorem zJt {a:Array Keyed}{i:Nat}(h:i<a.size):a.toList.drop i=a.getD i d0::a.toList.drop (i+1):=by
 rw[List.drop_eq_getElem_cons (by simpa using h)];congr 1;simp[Array.getD,h]
theorem zAX {a:Array Keyed}{i:Nat}(h:i<a.size):a[i]?=some (a.getD i d0):=by simp[Array.getD,h]
theorem zAg {a:Array Keyed}{i:Nat}(h:i<a.size):a.getD i d0∈a.toList:=by
 have:a.getD i d0=a[i]:=by simp[Array.getD,h]
 rw[this];simp
theorem zBh {a:Array Keyed}{i:Nat}{x:Keyed}(h:x∈a.toList.drop i):∃j,i<=j/\j<a.size/\x=a.getD j d0:=by
 obtain⟨j,hj,e⟩:=List.getElem_of_mem h;rw[mV] at hj;have hj':i+j<a.size:=by simp at hj;lia
 refine⟨i+j,by lia,hj',?_⟩;rw[←e,List.getElem_drop];simp[Array.getD,hj']
theorem zHd {a:Array Keyed}{i k:Nat}{x:Keyed}(h:x∈(a.toList.drop i).take k):∃j,j<k/\i+j<a.size/\x=a.getD (i+j) d0:=by
 obtain⟨j,hj,e⟩:=List.getElem_of_mem h;rw[mN,mV] at hj;have hj':i+j<a.size:=by simp at hj;lia
 refine⟨j,by lia,hj',?_⟩;rw[←e,List.getElem_take,List.getElem_drop];simp[Array.getD,hj']
theorem ol_at {a:Array Keyed}(h:OL R a.toList) {i j:Nat}(hij:i<j) (hj:j<a.size):R (a.getD j d0) (a.getD i d0)=false:=by
 have:=List.pairwise_iff_getElem.mp h i j (by simp;lia) (by simpa using hj) hij;simpa[Array.getD,hj,show i<a.size by lia] using this
theorem zGA (L:LtE M A E s κ G R) {key:Keyed}{f:Nat->Keyed}{n:Nat}(gk:G key) (gf:∀i,i<n->G (f i)) (sg:∀i j,i<j->j<n->R (f j) (f i)=false):∀i j,i<=j->j<n->byd R false key (f j)=true->byd R false key (f i)=true:=λ i j hij hj h=>by
 by_cases e:i=j
 ·rw[e];exact h
 ·simp[byd] at h ⊢
  exact L.tr _ _ _ gk (gf j hj) (gf i 61) h (sg i j 61 hj)
theorem zDc (L:LtE M A E s κ G R) {key:Keyed}{f:Nat->Keyed}{n:Nat}(gk:G key) (gf:∀i,i<n->G (f i)) (sg:∀i j,i<j->j<n->R (f j) (f i)=false):∀i j,i<=j->j<n->byd R true key (f j)=true->byd R true key (f i)=true:=λ i j hij hj h=>by
 by_cases e:i=j
 ·rw[e];exact h
 ·simp[byd] at h ⊢
  cases z:R (f i) key with
  |true=>rfl
  |false=>rw[L.tr _ _ _ (gf j hj) (gf i 61) gk (sg i j 61 hj) z] at h;cases h
structure ML (R:Keyed->Keyed->Bool) (G:Keyed->Prop) (a b:Array Keyed):Prop where
 ga:∀x∈a.toList,G x
 gb:∀x∈b.toList,G x
 oa:OL R a.toList
 ob:OL R b.toList
section
variable {a b o:Array Keyed}{ia ib k:Nat}
abbrev MA (R:Keyed->Keyed->Bool) (a b o:Array Keyed) (ia ib:Nat):Prop:=MI R a.toList b.toList o.toList (a.toList.drop ia) (b.toList.drop ib)
theorem ML.ga_at (m:ML R G a b) {i:Nat}(h:i<a.size):G (a.getD i d0):=m.ga _ (zAg h)
theorem ML.gb_at (m:ML R G a b) {i:Nat}(h:i<b.size):G (b.getD i d0):=m.gb _ (zAg h)
theorem ML.a_le (L:LtE M A E s κ G R) (m:ML R G a b) {i j:Nat}(hij:i<=j) (hj:j<a.size):R (a.getD j d0) (a.getD i d0)=false:=by
 by_cases e:i=j
 ·subst e
  cases z:R (a.getD i d0) (a.getD i d0) with
  |false=>rfl
  |true=>have:=L.asym _ _ (m.ga_at hj) (m.ga_at hj) z;rw[z] at this;cases this
 ·exact ol_at m.oa 61 hj
theorem ML.b_le (L:LtE M A E s κ G R) (m:ML R G a b) {i j:Nat}(hij:i<=j) (hj:j<b.size):R (b.getD j d0) (b.getD i d0)=false:=by
 by_cases e:i=j
 ·subst e
  cases z:R (b.getD i d0) (b.getD i d0) with
  |false=>rfl
  |true=>have:=L.asym _ _ (m.gb_at hj) (m.gb_at hj) z;rw[z] at this;cases this
 ·exact ol_at m.ob 61 hj
theorem MA.pb (h:MA R a b o ia ib) (hb:ib<b.size) (hp:∀j,ia<=j->j<a.size->R (a.getD j d0) (b.getD ib d0)=false):MA R a b (o.push (b.getD ib d0)) ia (ib+1):=by
 unfold MA at h ⊢;rw[zJt hb] at h;rw[Array.toList_push];refine MI.b (p:=[b.getD ib d0]) h λ x hx y hy=>?_;rw[mQ] at hx;subst hx;obtain⟨j,h1,h2,rfl⟩:=zBh hy;exact hp j h1 h2
theorem MA.pa (h:MA R a b o ia ib) (ha:ia<a.size) (hp:∀j,ib<=j->j<b.size->R (b.getD j d0) (a.getD ia d0)=false):MA R a b (o.push (a.getD ia d0)) (ia+1) ib:=by
 unfold MA at h ⊢;rw[zJt ha] at h;rw[Array.toList_push];refine MI.a (p:=[a.getD ia d0]) h λ x hx y hy=>?_;rw[mQ] at hx;subst hx;obtain⟨j,h1,h2,rfl⟩:=zBh hy;exact hp j h1 h2
theorem MA.ka (h:MA R a b o ia ib) (hp:∀i,i<k->ia+i<a.size->∀j,ib<=j->j<b.size->R (b.getD j d0) (a.getD (ia+i) d0)=false):MA R a b (o++a.extract ia (ia+k)) (ia+k) ib:=by
 unfold MA at h ⊢;rw[Array.toList_append,ex_k];refine MI.a (p:=(a.toList.drop ia).take k) (by rw[←List.drop_drop,List.take_append_drop];exact h) λ x hx y hy=>?_;obtain⟨i,i1,i2,rfl⟩:=zHd hx;obtain⟨j,h1,h2,rfl⟩:=zBh hy;exact hp i i1 i2 j h1 h2
theorem MA.kb (h:MA R a b o ia ib) (hp:∀i,i<k->ib+i<b.size->∀j,ia<=j->j<a.size->R (a.getD j d0) (b.getD (ib+i) d0)=false):MA R a b (o++b.extract ib (ib+k)) ia (ib+k):=by
 unfold MA at h ⊢;rw[Array.toList_append,ex_k];refine MI.b (p:=(b.toList.drop ib).take k) (by rw[←List.drop_drop,List.take_append_drop];exact h) λ x hx y hy=>?_;obtain⟨i,i1,i2,rfl⟩:=zHd hx;obtain⟨j,h1,h2,rfl⟩:=zBh hy;exact hp i i1 i2 j h1 h2
abbrev Mgd (R:Keyed->Keyed->Bool) (a b x:Array Keyed):Prop:=OL R x.toList/\x.toList.Perm (a.toList++b.toList)
theorem MA.done (h:MA R a b o ia ib) (hd:a.size<=ia\/b.size<=ib):Mgd R a b (o++a.extract ia++b.extract ib):=by
 unfold Mgd;rw[Array.toList_append,Array.toList_append,zHl,zHl];refine MI.fin h λ x hx y hy=>?_;obtain⟨i,i1,i2,_⟩:=zBh hx;obtain⟨j,j1,j2,_⟩:=zBh hy
 lia
theorem MA.last (h:MA R a b o ia ib) (hl:∀j,ib<=j->j<b.size->∀i,ia<=i->i<a.size->R (a.getD i d0) (b.getD j d0)=false):Mgd R a b (o++b.extract ib++a.extract ia):=by
 unfold Mgd;rw[Array.toList_append,Array.toList_append,zHl,zHl];refine MI.fin2 h λ x hx y hy=>?_;obtain⟨j,j1,j2,rfl⟩:=zBh hx;obtain⟨i,i1,i2,rfl⟩:=zBh hy;exact hl j j1 j2 i i1 i2
end
end
noncomputable def zLb:Nat->StateT SortSt Sem Unit:=sortPriv% PySem.Builtin.setMinGallop
section
variable {M:Model}{A:Around}{E:XQ}{s:Shared}{κ:SortKind}{G:Keyed->Prop}{R:Keyed->Keyed->Bool}
theorem zBx {g:Nat}{Q:Unit->SortSt->Prop}{st:SortSt}(h:Q () (setG st g)):wpS M A E s (zLb g) Q st:=wpS_modify h
theorem zIB (L:LtE M A E s κ G R) {a b:Array Keyed}{st:SortSt}{Q:Array Keyed->SortSt->Prop}(hk:kindOf st=κ) (m:ML R G a b) (ha:0<a.size) (hb:0<b.size)
  (h0:∀i,i<a.size->R (a.getD i d0) (b.getD 0 d0)=false) (hl:∀j,j<b.size->R (a.getD (a.size - 1) d0) (b.getD j d0)=false)
  (h:∀out g,Mgd R a b out->Q out (setG st g)):wpS M A E s (zKe a b) Q st:=by
 have start:MA R a b #[b.getD 0 d0] 0 1:=by
  have z:MA R a b #[] 0 0:=⟨List.Pairwise.nil,(λ x hx=>nomatch hx),by simp,by simpa using m.oa,by simpa using m.ob⟩
  have:=z.pb hb λ j Ω hj=>h0 j hj;simpa using this
 have hlast:∀{o:Array Keyed}{ia ib:Nat},MA R a b o ia ib->ia+1=a.size->Mgd R a b (o++b.extract ib++a.extract ia):=λ{o ia ib} h e=>h.last λ j Ω hj i hi1 hi2=>by
  have:i=a.size - 1:=by lia
  rw[this];exact hl j hj
 refine wpS_bind (zCJ ?_);refine wpS_bind (zAT (zAX hb) ?_);dsimp only;refine zAO (λ c1=>?_) (λ c1=>?_)
 ·exact wpS_pure (h _ (gallopOf st) (start.done (.inr (by have:=eq_of_beq c1;lia))))
 ·have c1':1<b.size:=by
   have:¬1=b.size:=by simpa using c1
   lia
  refine zAO (λ c2=>?_) (λ c2=>?_)
  ·exact wpS_pure (h _ (gallopOf st) (hlast start (by simpa using c2)))
  ·have c2':1<a.size:=by
    have:¬1=a.size:=by simpa using c2
    lia
   refine wpS_bind (wpS_get ?_)
   refine wpS_bind (wpS_mono (wpS_forRange (I:=λ i (c:Option (Array Keyed) × Array Keyed × Nat × Nat × Nat) st'=>(∃g,st'=setG st g)/\c.1=none/\MA R a b c.2.1 c.2.2.1 c.2.2.2.1/\c.2.2.1+1<a.size/\c.2.2.2.1<b.size/\i+1<=c.2.2.1+c.2.2.2.1)
    (Q:=λ c st'=>(∃g,st'=setG st g)/\∃X,c.1=some X/\Mgd R a b X) ?_ ?_ ⟨⟨gallopOf st,rfl⟩,rfl,start,c2',c1',lS _⟩) ?_)
   ·refine λ i=>all5 λ r o ia ib mg st1 Ω hin hI=>an6 hI λ hE0 hE1 hm hia hib hcnt=>?_
    obtain⟨g,rfl⟩:=hE0;obtain rfl:=hE1;dsimp only at hm hia hib hcnt ⊢
    refine wpS_bind (wpS_mono (wpS_forRange (I:=λ i (d:Option (Array Keyed) × Array Keyed × Nat × Nat × Nat × Nat) st'=>(∃g,st'=setG st g)/\d.1=none/\MA R a b d.2.1 d.2.2.1 d.2.2.2.1/\d.2.2.1+1<a.size/\d.2.2.2.1<b.size/\ia+ib+i<=d.2.2.1+d.2.2.2.1)
     (Q:=λ d st'=>(∃g,st'=setG st g)/\((∃X,d.1=some X/\Mgd R a b X)\/(d.1=none/\MA R a b d.2.1 d.2.2.1 d.2.2.2.1/\d.2.2.1+1<a.size/\d.2.2.2.1<b.size/\ia+ib+1<=d.2.2.1+d.2.2.2.1))) ?_ ?_ ⟨⟨g,rfl⟩,rfl,hm,hia,hib,lS _⟩) ?_)
    ·refine λ i2=>all6 λ r o ja jb ac bc st2 Ω hin2 hI=>an6 hI λ hE0 hE1 hm hja hjb hcn=>?_
     obtain⟨g,rfl⟩:=hE0;obtain rfl:=hE1;dsimp only at hm hja hjb hcn ⊢;refine wpS_bind (zAT (zAX hjb) (wpS_bind (zAT (zAX (show ja<a.size by lia)) ?_)));refine wpS_bind (L.lt _ _ (m.gb_at hjb) (m.ga_at 61) _ _ hk ?_);dsimp only;refine zAO 77 77
     ·refine wpS_bind (zAT (zAX hjb) ?_)
      have hm2:=hm.pb hjb λ j h1 h2=>L.tr _ _ _ (m.ga_at h2) (m.ga_at 61) (m.gb_at hjb) (m.a_le L h1 h2) (L.asym _ _ (m.gb_at hjb) (m.ga_at 61) c);refine zAO (λ e=>?_) (λ e=>?_)
      ·exact wpS_pure ⟨⟨g,rfl⟩,.inl ⟨_,rfl,hm2.done (.inr (by have:=eq_of_beq e;lia))⟩⟩
      ·have e':jb+1<b.size:=by
        have:¬jb+1=b.size:=by simpa using e
        lia
       refine zAO (λ f=>?_) (λ f=>?_)
       ·exact wpS_pure ⟨⟨g,rfl⟩,.inr ⟨rfl,hm2,hja,e',by dsimp only;lia⟩⟩
       ·exact wpS_pure ⟨⟨g,rfl⟩,rfl,hm2,hja,e',by dsimp only;lia⟩
     ·have c':R (b.getD jb d0) (a.getD ja d0)=false:=by simpa using c
      refine wpS_bind (zAT (zAX (show ja<a.size by lia)) ?_);have hm2:=hm.pa (show ja<a.size by lia) λ j h1 h2=>L.tr _ _ _ (m.gb_at h2) (m.gb_at hjb) (m.ga_at 61) (m.b_le L h1 h2) c';refine zAO (λ e=>?_) (λ e=>?_)
      ·exact wpS_pure ⟨⟨g,rfl⟩,.inl ⟨_,rfl,hlast hm2 (eq_of_beq e)⟩⟩
      ·have e':ja+1+1<a.size:=by
        have:¬ja+1+1=a.size:=by simpa using e
        lia
       refine zAO (λ f=>?_) (λ f=>?_)
       ·exact wpS_pure ⟨⟨g,rfl⟩,.inr ⟨rfl,hm2,e',hjb,by dsimp only;lia⟩⟩
       ·exact wpS_pure ⟨⟨g,rfl⟩,rfl,hm2,e',hjb,by dsimp only;lia⟩
    ·refine all6 λ r o ja jb ac bc st2 hI=>an6 hI λ hE0 hE1 hm hja hjb hcn=>?_
     obtain⟨g,rfl⟩:=hE0;obtain rfl:=hE1;dsimp only at hm hja hjb hcn;exfalso
     lia
    refine all6 λ r o ja jb ac bc st2 hI=>?_;obtain⟨⟨g,rfl⟩,hres⟩:=hI;rcases hres with ⟨X,hX,hM⟩|⟨hX,hm,hja,hjb,hcn⟩
    ·dsimp only at hX
     subst hX;exact wpS_pure ⟨⟨g,rfl⟩,X,rfl,hM⟩
    ·dsimp only at hX hm hja hjb hcn ⊢
     subst hX;dsimp only;refine wpS_bind (zCJ ?_)
     refine wpS_bind (wpS_mono (wpS_forRange (I:=λ i (d:Option (Array Keyed) × Array Keyed × Nat × Nat × Nat × Nat × Nat) st'=>(∃g,st'=setG st g)/\d.1=none/\MA R a b d.2.1 d.2.2.1 d.2.2.2.1/\d.2.2.1+1<a.size/\d.2.2.2.1<b.size/\ja+jb+i<=d.2.2.1+d.2.2.2.1)
      (Q:=λ d st'=>(∃g,st'=setG st g)/\((∃X,d.1=some X/\Mgd R a b X)\/(d.1=none/\MA R a b d.2.1 d.2.2.1 d.2.2.2.1/\d.2.2.1+1<a.size/\d.2.2.2.1<b.size/\ja+jb<=d.2.2.1+d.2.2.2.1))) ?_ ?_ ⟨⟨g,rfl⟩,rfl,hm,hja,hjb,lS _⟩) ?_)
     ·refine λ i2=>all7 λ r o ka kb mg2 ac2 bc2 st3 Ω hin2 hI=>an6 hI λ hE0 hE1 hm hka hkb hcn2=>?_
      obtain⟨g,rfl⟩:=hE0;obtain rfl:=hE1;dsimp only at hm hka hkb hcn2 ⊢;refine zAO (λ cg=>?_) (λ cg=>?_)
      ·refine wpS_bind (zBx ?_)
       refine wpS_bind (zAT (zAX hkb) ?_);refine wpS_bind (zAw L (left:=false) (f:=λ i=>a.getD (ka+i) d0) hk (m.gb_at hkb) (λ i hi=>zAX 61) (λ i hi=>m.ga_at 61) 61 (zGA L (m.gb_at hkb) (λ i hi=>m.ga_at 61) (λ i j hij hj=>m.a_le L 61 61)) λ k hkn hk1 hk2=>?_);dsimp only;have le1:∀i,i<k->∀j,kb<=j->j<b.size->R (b.getD j d0) (a.getD (ka+i) d0)=false:=λ i hi j h1 h2=>L.tr _ _ _ (m.gb_at h2) (m.gb_at hkb) (m.ga_at 61) (m.b_le L h1 h2) (by have:=hk1 i hi;simpa[byd] using this);have gt1:∀j,ka+k<=j->j<a.size->R (a.getD j d0) (b.getD kb d0)=false:=λ j h1 h2=>L.asym _ _ (m.gb_at hkb) (m.ga_at h2) (by have:=hk2 (j - ka) 61 61;simpa[byd,show ka+(j - ka)=j by lia] using this);refine zAO (λ ck=>?_) (λ ck=>?_)
       ·have hm1:=hm.ka (k:=k) λ i hi Ω j h1 h2=>le1 i hi j h1 h2
        refine zAO (λ e=>?_) (λ e=>?_)
        ·exact wpS_pure ⟨72,.inl ⟨_,rfl,hlast hm1 (eq_of_beq e)⟩⟩
        ·have e':¬ka+k+1=a.size:=by simpa using e
         refine zAO (λ e2=>?_) (λ e2=>?_)
         ·exact wpS_pure ⟨72,.inl ⟨_,rfl,hm1.done (.inl (by have:=eq_of_beq e2;lia))⟩⟩
         ·have e2':¬ka+k=a.size:=by simpa using e2
          refine wpS_bind (zAT (zAX hkb) ?_);have hm3:=hm1.pb hkb λ j h1 h2=>gt1 j 61 h2;refine zAO (λ e3=>?_) (λ e3=>?_)
          ·exact wpS_pure ⟨72,.inl ⟨_,rfl,hm3.done (.inr (by have:=eq_of_beq e3;lia))⟩⟩
          ·have e3':¬kb+1=b.size:=by simpa using e3
           refine wpS_bind (zAT (zAX (show ka+k<a.size by lia)) ?_);refine wpS_bind 78;dsimp only;have le2:∀i,i<k1->kb+1+i<b.size->∀j,ka+k<=j->j<a.size->R (a.getD j d0) (b.getD (kb+1+i) d0)=false:=λ i hi hib j h1 h2=>L.tr _ _ _ (m.ga_at h2) (m.ga_at 61) (m.gb_at hib) (m.a_le L h1 h2) (L.asym _ _ (m.gb_at hib) (m.ga_at 61) (by have:=hk11 i hi;simpa[byd] using this));have gt2:∀j,kb+1+k1<=j->j<b.size->R (b.getD j d0) (a.getD (ka+k) d0)=false:=λ j h1 h2=>by have:=hk12 (j - (kb+1)) 61 61;simpa[byd,show kb+1+(j - (kb+1))=j by lia] using this
           refine zAO (λ ck1=>?_) (λ ck1=>?_)
           ·have hm4:=hm3.kb (k:=k1) λ i hi hib j h1 h2=>le2 i hi hib j h1 h2
            refine zAO (λ e4=>?_) (λ e4=>?_)
            ·exact wpS_pure ⟨72,.inl ⟨_,rfl,hm4.done (.inr (by have:=eq_of_beq e4;lia))⟩⟩
            ·have e4':¬kb+1+k1=b.size:=by simpa using e4
             refine wpS_bind (zAT (zAX (show ka+k<a.size by lia)) ?_);have hm5:=hm4.pa (show ka+k<a.size by lia) λ j h1 h2=>gt2 j 61 h2;refine zAO (λ e5=>?_) (λ e5=>?_)
             ·exact wpS_pure ⟨72,.inl ⟨_,rfl,hlast hm5 (eq_of_beq e5)⟩⟩
             ·have e5':¬ka+k+1+1=a.size:=by simpa using e5
              refine zAO (λ f=>?_) (λ f=>?_)
              ·exact wpS_pure ⟨72,.inr ⟨rfl,hm5,65,65,by dsimp only;lia⟩⟩
              ·exact wpS_pure ⟨72,rfl,hm5,65,65,by dsimp only;lia⟩
           ·have:k1=0:=by lia
            subst this;refine wpS_bind (zAT (zAX (show ka+k<a.size by lia)) ?_);have hm5:=hm3.pa (show ka+k<a.size by lia) λ j h1 h2=>gt2 j 61 h2;refine zAO (λ e5=>?_) (λ e5=>?_)
            ·exact wpS_pure ⟨72,.inl ⟨_,rfl,hlast hm5 (eq_of_beq e5)⟩⟩
            ·have e5':¬ka+k+1+1=a.size:=by simpa using e5
             refine zAO (λ f=>?_) (λ f=>?_)
             ·exact wpS_pure ⟨72,.inr ⟨rfl,hm5,65,65,by dsimp only;lia⟩⟩
             ·exact wpS_pure ⟨72,rfl,hm5,65,65,by dsimp only;lia⟩
       ·have:k=0:=by lia
        subst this;have hm1:=hm;refine wpS_bind (zAT (zAX hkb) ?_);have hm3:=hm1.pb hkb λ j h1 h2=>gt1 j 61 h2;refine zAO (λ e3=>?_) (λ e3=>?_)
        ·exact wpS_pure ⟨72,.inl ⟨_,rfl,hm3.done (.inr (by have:=eq_of_beq e3;lia))⟩⟩
        ·have e3':¬kb+1=b.size:=by simpa using e3
         refine wpS_bind (zAT (zAX (show ka<a.size by lia)) ?_);refine wpS_bind 78;dsimp only;have le2:∀i,i<k1->kb+1+i<b.size->∀j,ka<=j->j<a.size->R (a.getD j d0) (b.getD (kb+1+i) d0)=false:=λ i hi hib j h1 h2=>L.tr _ _ _ (m.ga_at h2) (m.ga_at 61) (m.gb_at hib) (m.a_le L h1 h2) (L.asym _ _ (m.gb_at hib) (m.ga_at 61) (by have:=hk11 i hi;simpa[byd] using this));have gt2:∀j,kb+1+k1<=j->j<b.size->R (b.getD j d0) (a.getD (ka) d0)=false:=λ j h1 h2=>by have:=hk12 (j - (kb+1)) 61 61;simpa[byd,show kb+1+(j - (kb+1))=j by lia] using this
         refine zAO (λ ck1=>?_) (λ ck1=>?_)
         ·have hm4:=hm3.kb (k:=k1) λ i hi hib j h1 h2=>le2 i hi hib j h1 h2
          refine zAO (λ e4=>?_) (λ e4=>?_)
          ·exact wpS_pure ⟨72,.inl ⟨_,rfl,hm4.done (.inr (by have:=eq_of_beq e4;lia))⟩⟩
          ·have e4':¬kb+1+k1=b.size:=by simpa using e4
           refine wpS_bind (zAT (zAX (show ka<a.size by lia)) ?_);have hm5:=hm4.pa (show ka<a.size by lia) λ j h1 h2=>gt2 j 61 h2;refine zAO (λ e5=>?_) (λ e5=>?_)
           ·exact wpS_pure ⟨72,.inl ⟨_,rfl,hlast hm5 (eq_of_beq e5)⟩⟩
           ·have e5':¬ka+1+1=a.size:=by simpa using e5
            refine zAO (λ f=>?_) (λ f=>?_)
            ·exact wpS_pure ⟨72,.inr ⟨rfl,hm5,65,65,by dsimp only;lia⟩⟩
            ·exact wpS_pure ⟨72,rfl,hm5,65,65,by dsimp only;lia⟩
         ·have:k1=0:=by lia
          subst this;refine wpS_bind (zAT (zAX (show ka<a.size by lia)) ?_);have hm5:=hm3.pa (show ka<a.size by lia) λ j h1 h2=>gt2 j 61 h2;refine zAO (λ e5=>?_) (λ e5=>?_)
          ·exact wpS_pure ⟨72,.inl ⟨_,rfl,hlast hm5 (eq_of_beq e5)⟩⟩
          ·have e5':¬ka+1+1=a.size:=by simpa using e5
           refine zAO (λ f=>?_) (λ f=>?_)
           ·exact wpS_pure ⟨72,.inr ⟨rfl,hm5,65,65,by dsimp only;lia⟩⟩
           ·exact wpS_pure ⟨72,rfl,hm5,65,65,by dsimp only;lia⟩
      ·refine wpS_bind (zBx ?_)
       refine wpS_bind (zAT (zAX hkb) ?_);refine wpS_bind (zAw L (left:=false) (f:=λ i=>a.getD (ka+i) d0) hk (m.gb_at hkb) (λ i hi=>zAX 61) (λ i hi=>m.ga_at 61) 61 (zGA L (m.gb_at hkb) (λ i hi=>m.ga_at 61) (λ i j hij hj=>m.a_le L 61 61)) λ k hkn hk1 hk2=>?_);dsimp only;have le1:∀i,i<k->∀j,kb<=j->j<b.size->R (b.getD j d0) (a.getD (ka+i) d0)=false:=λ i hi j h1 h2=>L.tr _ _ _ (m.gb_at h2) (m.gb_at hkb) (m.ga_at 61) (m.b_le L h1 h2) (by have:=hk1 i hi;simpa[byd] using this);have gt1:∀j,ka+k<=j->j<a.size->R (a.getD j d0) (b.getD kb d0)=false:=λ j h1 h2=>L.asym _ _ (m.gb_at hkb) (m.ga_at h2) (by have:=hk2 (j - ka) 61 61;simpa[byd,show ka+(j - ka)=j by lia] using this);refine zAO (λ ck=>?_) (λ ck=>?_)
       ·have hm1:=hm.ka (k:=k) λ i hi Ω j h1 h2=>le1 i hi j h1 h2
        refine zAO (λ e=>?_) (λ e=>?_)
        ·exact wpS_pure ⟨72,.inl ⟨_,rfl,hlast hm1 (eq_of_beq e)⟩⟩
        ·have e':¬ka+k+1=a.size:=by simpa using e
         refine zAO (λ e2=>?_) (λ e2=>?_)
         ·exact wpS_pure ⟨72,.inl ⟨_,rfl,hm1.done (.inl (by have:=eq_of_beq e2;lia))⟩⟩
         ·have e2':¬ka+k=a.size:=by simpa using e2
          refine wpS_bind (zAT (zAX hkb) ?_);have hm3:=hm1.pb hkb λ j h1 h2=>gt1 j 61 h2;refine zAO (λ e3=>?_) (λ e3=>?_)
          ·exact wpS_pure ⟨72,.inl ⟨_,rfl,hm3.done (.inr (by have:=eq_of_beq e3;lia))⟩⟩
          ·have e3':¬kb+1=b.size:=by simpa using e3
           refine wpS_bind (zAT (zAX (show ka+k<a.size by lia)) ?_);refine wpS_bind 78;dsimp only;have le2:∀i,i<k1->kb+1+i<b.size->∀j,ka+k<=j->j<a.size->R (a.getD j d0) (b.getD (kb+1+i) d0)=false:=λ i hi hib j h1 h2=>L.tr _ _ _ (m.ga_at h2) (m.ga_at 61) (m.gb_at hib) (m.a_le L h1 h2) (L.asym _ _ (m.gb_at hib) (m.ga_at 61) (by have:=hk11 i hi;simpa[byd] using this));have gt2:∀j,kb+1+k1<=j->j<b.size->R (b.getD j d0) (a.getD (ka+k) d0)=false:=λ j h1 h2=>by have:=hk12 (j - (kb+1)) 61 61;simpa[byd,show kb+1+(j - (kb+1))=j by lia] using this
           refine zAO (λ ck1=>?_) (λ ck1=>?_)
           ·have hm4:=hm3.kb (k:=k1) λ i hi hib j h1 h2=>le2 i hi hib j h1 h2
            refine zAO (λ e4=>?_) (λ e4=>?_)
            ·exact wpS_pure ⟨72,.inl ⟨_,rfl,hm4.done (.inr (by have:=eq_of_beq e4;lia))⟩⟩
            ·have e4':¬kb+1+k1=b.size:=by simpa using e4
             refine wpS_bind (zAT (zAX (show ka+k<a.size by lia)) ?_);have hm5:=hm4.pa (show ka+k<a.size by lia) λ j h1 h2=>gt2 j 61 h2;refine zAO (λ e5=>?_) (λ e5=>?_)
             ·exact wpS_pure ⟨72,.inl ⟨_,rfl,hlast hm5 (eq_of_beq e5)⟩⟩
             ·have e5':¬ka+k+1+1=a.size:=by simpa using e5
              refine zAO (λ f=>?_) (λ f=>?_)
              ·exact wpS_pure ⟨72,.inr ⟨rfl,hm5,65,65,by dsimp only;lia⟩⟩
              ·exact wpS_pure ⟨72,rfl,hm5,65,65,by dsimp only;lia⟩
           ·have:k1=0:=by lia
            subst this;refine wpS_bind (zAT (zAX (show ka+k<a.size by lia)) ?_);have hm5:=hm3.pa (show ka+k<a.size by lia) λ j h1 h2=>gt2 j 61 h2;refine zAO (λ e5=>?_) (λ e5=>?_)
            ·exact wpS_pure ⟨72,.inl ⟨_,rfl,hlast hm5 (eq_of_beq e5)⟩⟩
            ·have e5':¬ka+k+1+1=a.size:=by simpa using e5
             refine zAO (λ f=>?_) (λ f=>?_)
             ·exact wpS_pure ⟨72,.inr ⟨rfl,hm5,65,65,by dsimp only;lia⟩⟩
             ·exact wpS_pure ⟨72,rfl,hm5,65,65,by dsimp only;lia⟩
       ·have:k=0:=by lia
        subst this;have hm1:=hm;refine wpS_bind (zAT (zAX hkb) ?_);have hm3:=hm1.pb hkb λ j h1 h2=>gt1 j 61 h2;refine zAO (λ e3=>?_) (λ e3=>?_)
        ·exact wpS_pure ⟨72,.inl ⟨_,rfl,hm3.done (.inr (by have:=eq_of_beq e3;lia))⟩⟩
        ·have e3':¬kb+1=b.size:=by simpa using e3
         refine wpS_bind (zAT (zAX (show ka<a.size by lia)) ?_);refine wpS_bind 78;dsimp only;have le2:∀i,i<k1->kb+1+i<b.size->∀j,ka<=j->j<a.size->R (a.getD j d0) (b.getD (kb+1+i) d0)=false:=λ i hi hib j h1 h2=>L.tr _ _ _ (m.ga_at h2) (m.ga_at 61) (m.gb_at hib) (m.a_le L h1 h2) (L.asym _ _ (m.gb_at hib) (m.ga_at 61) (by have:=hk11 i hi;simpa[byd] using this));have gt2:∀j,kb+1+k1<=j->j<b.size->R (b.getD j d0) (a.getD (ka) d0)=false:=λ j h1 h2=>by have:=hk12 (j - (kb+1)) 61 61;simpa[byd,show kb+1+(j - (kb+1))=j by lia] using this
         refine zAO (λ ck1=>?_) (λ ck1=>?_)
         ·have hm4:=hm3.kb (k:=k1) λ i hi hib j h1 h2=>le2 i hi hib j h1 h2
          refine zAO (λ e4=>?_) (λ e4=>?_)
          ·exact wpS_pure ⟨72,.inl ⟨_,rfl,hm4.done (.inr (by have:=eq_of_beq e4;lia))⟩⟩
          ·have e4':¬kb+1+k1=b.size:=by simpa using e4
           refine wpS_bind (zAT (zAX (show ka<a.size by lia)) ?_);have hm5:=hm4.pa (show ka<a.size by lia) λ j h1 h2=>gt2 j 61 h2;refine zAO (λ e5=>?_) (λ e5=>?_)
           ·exact wpS_pure ⟨72,.inl ⟨_,rfl,hlast hm5 (eq_of_beq e5)⟩⟩
           ·have e5':¬ka+1+1=a.size:=by simpa using e5
            refine zAO (λ f=>?_) (λ f=>?_)
            ·exact wpS_pure ⟨72,.inr ⟨rfl,hm5,65,65,by dsimp only;lia⟩⟩
            ·exact wpS_pure ⟨72,rfl,hm5,65,65,by dsimp only;lia⟩
         ·have:k1=0:=by lia
          subst this;refine wpS_bind (zAT (zAX (show ka<a.size by lia)) ?_);have hm5:=hm3.pa (show ka<a.size by lia) λ j h1 h2=>gt2 j 61 h2;refine zAO (λ e5=>?_) (λ e5=>?_)
          ·exact wpS_pure ⟨72,.inl ⟨_,rfl,hlast hm5 (eq_of_beq e5)⟩⟩
          ·have e5':¬ka+1+1=a.size:=by simpa using e5
           refine zAO (λ f=>?_) (λ f=>?_)
           ·exact wpS_pure ⟨72,.inr ⟨rfl,hm5,65,65,by dsimp only;lia⟩⟩
           ·exact wpS_pure ⟨72,rfl,hm5,65,65,by dsimp only;lia⟩
     ·refine all7 λ r o ka kb mg2 ac2 bc2 st3 hI=>an6 hI λ hE0 hE1 hm hka hkb hcn2=>?_
      obtain⟨g,rfl⟩:=hE0;obtain rfl:=hE1;dsimp only at hm hka hkb hcn2;exfalso
      lia
     refine all7 λ r o ka kb mg2 ac2 bc2 st3 hI=>?_;obtain⟨⟨g,rfl⟩,hres⟩:=hI;rcases hres with ⟨X,hX,hM⟩|⟨hX,hm,hka,hkb,hcn2⟩
     ·dsimp only at hX
      subst hX;exact wpS_pure ⟨⟨g,rfl⟩,X,rfl,hM⟩
     ·dsimp only at hX hm hka hkb hcn2 ⊢
      subst hX;dsimp only;refine wpS_bind (zBx (wpS_pure ⟨72,rfl,hm,hka,hkb,?_⟩));dsimp only
      lia
   ·refine all5 λ r o ia ib mg st1 hI=>an6 hI λ hE0 hE1 hm hia hib hcnt=>?_
    obtain⟨g,rfl⟩:=hE0;obtain rfl:=hE1;dsimp only at hm hia hib hcnt;exfalso
    lia
   refine all5 λ r o ia ib mg st1 hI=>?_;obtain⟨⟨g,rfl⟩,X,hX,hM⟩:=hI;dsimp only at hX ⊢;subst hX;exact wpS_pure (h X g hM)
end
section
variable {M:Model}{A:Around}{E:XQ}{s:Shared}{κ:SortKind}{G:Keyed->Prop}{R:Keyed->Keyed->Bool}
abbrev flR (R:Keyed->Keyed->Bool):Keyed->Keyed->Bool:=λ x y=>R y x
theorem zIz {l:List Keyed}:OL (flR R) l.reverse↔OL R l:=by
 unfold OL;rw[List.pairwise_reverse]
section
variable {a b o:Array Keyed}{na nb k:Nat}
abbrev MB (R:Keyed->Keyed->Bool) (a b o:Array Keyed) (na nb:Nat):Prop:=MI (flR R) a.toList.reverse b.toList.reverse o.toList (a.toList.take na).reverse (b.toList.take nb).reverse
theorem zIU {a:Array Keyed}{i:Nat}(h0:0<i) (h:i<=a.size):(a.toList.take i).reverse=a.getD (i - 1) d0::(a.toList.take (i - 1)).reverse:=by
 obtain⟨j,rfl⟩:∃j,i=j+1:=⟨i - 1,by lia⟩;rw[List.take_succ_eq_append_getElem (by simp;lia),nV];have:a.getD j d0=a[j]'(by lia):=by simp[Array.getD,show j<a.size by lia]
 rw[Nat.add_sub_cancel,this];rfl
theorem zBn {a:Array Keyed}{i:Nat}{x:Keyed}(h:x∈(a.toList.take i).reverse):∃j,j<i/\j<a.size/\x=a.getD j d0:=by
 rw[List.mem_reverse] at h;obtain⟨j,hj,e⟩:=List.getElem_of_mem h;rw[mN] at hj;have hj':j<a.size:=by simp at hj;lia
 refine⟨j,by lia,hj',?_⟩;rw[←e,List.getElem_take];simp[Array.getD,hj']
theorem MB.pb (h:MB R a b o na nb) (h1:0<nb) (hb:nb<=b.size) (hp:∀j,j<na->j<a.size->R (b.getD (nb - 1) d0) (a.getD j d0)=false):MB R a b (o.push (b.getD (nb - 1) d0)) na (nb - 1):=by
 unfold MB at h ⊢;rw[zIU h1 hb] at h;rw[Array.toList_push];refine MI.b (p:=[b.getD (nb - 1) d0]) h λ x hx y hy=>?_;rw[mQ] at hx;subst hx;obtain⟨j,j1,j2,rfl⟩:=zBn hy;exact hp j j1 j2
theorem MB.pa (h:MB R a b o na nb) (h1:0<na) (ha:na<=a.size) (hp:∀j,j<nb->j<b.size->R (a.getD (na - 1) d0) (b.getD j d0)=false):MB R a b (o.push (a.getD (na - 1) d0)) (na - 1) nb:=by
 unfold MB at h ⊢;rw[zIU h1 ha] at h;rw[Array.toList_push];refine MI.a (p:=[a.getD (na - 1) d0]) h λ x hx y hy=>?_;rw[mQ] at hx;subst hx;obtain⟨j,j1,j2,rfl⟩:=zBn hy;exact hp j j1 j2
theorem zLO (a:Array Keyed) (i n:Nat):(a.extract i n).reverse.toList=((a.toList.take n).drop i).reverse:=by
 rw[Array.toList_reverse,Array.toList_extract,List.extract_eq_take_drop,List.drop_take]
theorem zEw (l:List Keyed) {i n:Nat}(h:i<=n):(l.take n).reverse=((l.take n).drop i).reverse++(l.take i).reverse:=by
 rw[←nV];congr 1;have:l.take i=(l.take n).take i:=by rw[List.take_take,Nat.min_eq_left h]
 rw[this,List.take_append_drop]
theorem zJK {a:Array Keyed}{i n:Nat}{x:Keyed}(h:x∈((a.toList.take n).drop i).reverse):∃j,i<=j/\j<n/\j<a.size/\x=a.getD j d0:=by
 rw[List.mem_reverse] at h;obtain⟨j,hj,e⟩:=List.getElem_of_mem h;rw[mV,mN] at hj;have hj':i+j<a.size:=by simp at hj;lia
 refine⟨i+j,by lia,by lia,hj',?_⟩;rw[←e,List.getElem_drop,List.getElem_take];simp[Array.getD,hj']
theorem MB.ka (h:MB R a b o na nb) (hk:k<=na) (hp:∀i,k<=i->i<na->i<a.size->∀j,j<nb->j<b.size->R (a.getD i d0) (b.getD j d0)=false):MB R a b (o++(a.extract k na).reverse) k nb:=by
 unfold MB at h ⊢;rw[Array.toList_append,zLO];refine MI.a (p:=((a.toList.take na).drop k).reverse) (by rw[←zEw _ hk];exact h) λ x hx y hy=>?_;obtain⟨i,i1,i2,i3,rfl⟩:=zJK hx;obtain⟨j,h1,h2,rfl⟩:=zBn hy;exact hp i i1 i2 i3 j h1 h2
theorem MB.kb (h:MB R a b o na nb) (hk:k<=nb) (hp:∀i,k<=i->i<nb->i<b.size->∀j,j<na->j<a.size->R (b.getD i d0) (a.getD j d0)=false):MB R a b (o++(b.extract k nb).reverse) na k:=by
 unfold MB at h ⊢;rw[Array.toList_append,zLO];refine MI.b (p:=((b.toList.take nb).drop k).reverse) (by rw[←zEw _ hk];exact h) λ x hx y hy=>?_;obtain⟨i,i1,i2,i3,rfl⟩:=zJK hx;obtain⟨j,h1,h2,rfl⟩:=zBn hy;exact hp i i1 i2 i3 j h1 h2
theorem ex_0 (a:Array Keyed) (n:Nat):(a.extract 0 n).toList=a.toList.take n:=by
 rw[Array.toList_extract,List.extract_eq_take_drop];simp
theorem zJI {x:Array Keyed}(h:OL (flR R) x.toList.reverse/\x.toList.reverse.Perm (a.toList.reverse++b.toList.reverse)):Mgd R a b x:=by
 refine⟨zIz.mp h.1,?_⟩;exact(List.reverse_perm _).symm.trans (h.2.trans ((List.reverse_perm _).append (List.reverse_perm _)))
theorem MB.done (h:MB R a b o na nb) (hd:na=0\/nb=0):Mgd R a b (a.extract 0 na++b.extract 0 nb++o.reverse):=by
 refine zJI ?_;rw[Array.toList_append,Array.toList_append,ex_0,ex_0,Array.toList_reverse,nV,nV,List.reverse_reverse,←mX];refine MI.fin2 h λ x hx y hy=>?_;obtain⟨i,i1,i2,_⟩:=zBn hx;obtain⟨j,j1,j2,_⟩:=zBn hy
 lia
theorem MB.first (h:MB R a b o na nb) (hl:∀i,i<na->i<a.size->∀j,j<nb->j<b.size->R (a.getD i d0) (b.getD j d0)=false):Mgd R a b (b.extract 0 nb++a.extract 0 na++o.reverse):=by
 refine zJI ?_;rw[Array.toList_append,Array.toList_append,ex_0,ex_0,Array.toList_reverse,nV,nV,List.reverse_reverse,←mX];refine MI.fin h λ x hx y hy=>?_;obtain⟨i,i1,i2,rfl⟩:=zBn hx;obtain⟨j,j1,j2,rfl⟩:=zBn hy;exact hl i i1 i2 j j1 j2
end
theorem zIC (L:LtE M A E s κ G R) {a b:Array Keyed}{st:SortSt}{Q:Array Keyed->SortSt->Prop}(hk:kindOf st=κ) (m:ML R G a b) (ha:0<a.size) (hb:0<b.size)
  (h0:∀i,i<a.size->R (a.getD i d0) (b.getD 0 d0)=false) (hl:∀j,j<b.size->R (a.getD (a.size - 1) d0) (b.getD j d0)=false)
  (h:∀out g,Mgd R a b out->Q out (setG st g)):wpS M A E s (zKf a b) Q st:=by
 have start:MB R a b #[a.getD (a.size - 1) d0] (a.size - 1) b.size:=by
  have z:MB R a b #[] a.size b.size:=⟨List.Pairwise.nil,(λ x hx=>nomatch hx),by
   have e1:a.toList.take a.size=a.toList:=mU 68;have e2:b.toList.take b.size=b.toList:=mU 68;rw[e1,e2];simp,by
   have e1:a.toList.take a.size=a.toList:=mU 68;rw[e1];exact zIz.mpr m.oa,by
   have e2:b.toList.take b.size=b.toList:=mU 68;rw[e2];exact zIz.mpr m.ob⟩
  have:=z.pa ha (lS _) λ j Ω hj=>hl j hj;simpa using this
 have hfirst:∀{o:Array Keyed}{na nb:Nat},MB R a b o na nb->nb=1->Mgd R a b (b.extract 0 nb++a.extract 0 na++o.reverse):=λ{o na nb} h e=>h.first λ i Ω hi j hj1 hj2=>by
  have:j=0:=by lia
  rw[this];exact h0 i hi
 refine wpS_bind (zCJ ?_);refine wpS_bind (zAT (zAX (show a.size - 1<a.size by lia)) ?_);dsimp only;refine zAO (λ c1=>?_) (λ c1=>?_)
 ·exact wpS_pure (h _ (gallopOf st) (start.done (.inl (eq_of_beq c1))))
 ·have c1':¬a.size - 1=0:=by simpa using c1
  refine zAO (λ c2=>?_) (λ c2=>?_)
  ·exact wpS_pure (h _ (gallopOf st) (hfirst start (eq_of_beq c2)))
  ·have c2':¬b.size=1:=by simpa using c2
   refine wpS_bind (wpS_get ?_)
   refine wpS_bind (wpS_mono (wpS_forRange (I:=λ i (c:Option (Array Keyed) × Nat × Nat × Array Keyed × Nat) st'=>(∃g,st'=setG st g)/\c.1=none/\MB R a b c.2.2.2.1 c.2.1 c.2.2.1/\0<c.2.1/\1<c.2.2.1/\c.2.1<=a.size/\c.2.2.1<=b.size/\i+1+c.2.1+c.2.2.1<=a.size+b.size)
    (Q:=λ c st'=>(∃g,st'=setG st g)/\∃X,c.1=some X/\Mgd R a b X) ?_ ?_ ⟨⟨gallopOf st,rfl⟩,rfl,start,65,65,65,lS _,by dsimp only;lia⟩) ?_)
   ·refine λ i=>all5 λ r na nb o mg st1 Ω hin hI=>an8 hI λ hE0 hE1 hm hia hib hia2 hib2 hcnt=>?_
    obtain⟨g,rfl⟩:=hE0;obtain rfl:=hE1;dsimp only at hm hia hib hia2 hib2 hcnt ⊢
    refine wpS_bind (wpS_mono (wpS_forRange (I:=λ i (d:Option (Array Keyed) × Nat × Nat × Array Keyed × Nat × Nat) st'=>(∃g,st'=setG st g)/\d.1=none/\MB R a b d.2.2.2.1 d.2.1 d.2.2.1/\0<d.2.1/\1<d.2.2.1/\d.2.1<=a.size/\d.2.2.1<=b.size/\i+d.2.1+d.2.2.1<=na+nb)
     (Q:=λ d st'=>(∃g,st'=setG st g)/\((∃X,d.1=some X/\Mgd R a b X)\/(d.1=none/\MB R a b d.2.2.2.1 d.2.1 d.2.2.1/\0<d.2.1/\1<d.2.2.1/\d.2.1<=a.size/\d.2.2.1<=b.size/\1+d.2.1+d.2.2.1<=na+nb))) ?_ ?_ ⟨⟨g,rfl⟩,rfl,hm,hia,hib,hia2,hib2,by dsimp only;lia⟩) ?_)
    ·refine λ i2=>all6 λ r ja jb o ac bc st2 Ω hin2 hI=>an8 hI λ hE0 hE1 hm hja hjb hja2 hjb2 hcn=>?_
     obtain⟨g,rfl⟩:=hE0;obtain rfl:=hE1;dsimp only at hm hja hjb hja2 hjb2 hcn ⊢;refine wpS_bind (zAT (zAX (show jb - 1<b.size by lia)) (wpS_bind (zAT (zAX (show ja - 1<a.size by lia)) ?_)));refine wpS_bind (L.lt _ _ (m.gb_at 61) (m.ga_at 61) _ _ hk ?_);dsimp only;refine zAO 77 77
     ·refine wpS_bind (zAT (zAX (show ja - 1<a.size by lia)) ?_)
      have hm2:=hm.pa hja hja2 λ j h1 h2=>L.tr _ _ _ (m.ga_at 61) (m.gb_at (show jb - 1<b.size by lia)) (m.gb_at h2) (L.asym _ _ (m.gb_at 61) (m.ga_at 61) c) (m.b_le L 61 61);refine zAO (λ e=>?_) (λ e=>?_)
      ·exact wpS_pure ⟨⟨g,rfl⟩,.inl ⟨_,rfl,hm2.done (.inl (eq_of_beq e))⟩⟩
      ·have e':¬ja - 1=0:=by simpa using e
       refine zAO (λ f=>?_) (λ f=>?_)
       ·exact wpS_pure ⟨⟨g,rfl⟩,.inr ⟨rfl,hm2,65,hjb,65,hjb2,by dsimp only;lia⟩⟩
       ·exact wpS_pure ⟨⟨g,rfl⟩,rfl,hm2,65,hjb,65,hjb2,by dsimp only;lia⟩
     ·have c':R (b.getD (jb - 1) d0) (a.getD (ja - 1) d0)=false:=by simpa using c
      refine wpS_bind (zAT (zAX (show jb - 1<b.size by lia)) ?_);have hm2:=hm.pb 61 hjb2 λ j h1 h2=>L.tr _ _ _ (m.gb_at 61) (m.ga_at (show ja - 1<a.size by lia)) (m.ga_at h2) c' (m.a_le L 61 61);refine zAO (λ e=>?_) (λ e=>?_)
      ·exact wpS_pure ⟨⟨g,rfl⟩,.inl ⟨_,rfl,hfirst hm2 (eq_of_beq e)⟩⟩
      ·have e':¬jb - 1=1:=by simpa using e
       refine zAO (λ f=>?_) (λ f=>?_)
       ·exact wpS_pure ⟨⟨g,rfl⟩,.inr ⟨rfl,hm2,hja,65,hja2,65,by dsimp only;lia⟩⟩
       ·exact wpS_pure ⟨⟨g,rfl⟩,rfl,hm2,hja,65,hja2,65,by dsimp only;lia⟩
    ·refine all6 λ r ja jb o ac bc st2 hI=>an8 hI λ hE0 hE1 hm hja hjb hja2 hjb2 hcn=>?_
     obtain⟨g,rfl⟩:=hE0;obtain rfl:=hE1;dsimp only at hm hja hjb hja2 hjb2 hcn;exfalso
     lia
    refine all6 λ r ja jb o ac bc st2 hI=>?_;obtain⟨⟨g,rfl⟩,hres⟩:=hI;rcases hres with ⟨X,hX,hM⟩|⟨hX,hm,hja,hjb,hja2,hjb2,hcn⟩
    ·dsimp only at hX
     subst hX;exact wpS_pure ⟨⟨g,rfl⟩,X,rfl,hM⟩
    ·dsimp only at hX hm hja hjb hja2 hjb2 hcn ⊢
     subst hX;dsimp only;refine wpS_bind (zCJ ?_)
     refine wpS_bind (wpS_mono (wpS_forRange (I:=λ i (d:Option (Array Keyed) × Nat × Nat × Array Keyed × Nat × Nat × Nat) st'=>(∃g,st'=setG st g)/\d.1=none/\MB R a b d.2.2.2.1 d.2.1 d.2.2.1/\0<d.2.1/\1<d.2.2.1/\d.2.1<=a.size/\d.2.2.1<=b.size/\i+d.2.1+d.2.2.1<=ja+jb)
      (Q:=λ d st'=>(∃g,st'=setG st g)/\((∃X,d.1=some X/\Mgd R a b X)\/(d.1=none/\MB R a b d.2.2.2.1 d.2.1 d.2.2.1/\0<d.2.1/\1<d.2.2.1/\d.2.1<=a.size/\d.2.2.1<=b.size/\d.2.1+d.2.2.1<=ja+jb))) ?_ ?_ ⟨⟨g,rfl⟩,rfl,hm,hja,hjb,hja2,hjb2,by dsimp only;lia⟩) ?_)
     ·refine λ i2=>all7 λ r ka kb o mg2 ac2 bc2 st3 Ω hin2 hI=>an8 hI λ hE0 hE1 hm hka hkb hka2 hkb2 hcn2=>?_
      obtain⟨g,rfl⟩:=hE0;obtain rfl:=hE1;dsimp only at hm hka hkb hka2 hkb2 hcn2 ⊢;refine zAO (λ cg=>?_) (λ cg=>?_)
      ·refine wpS_bind (zBx ?_)
       refine wpS_bind (zAT (zAX (show kb - 1<b.size by lia)) ?_);refine wpS_bind (zAw L (left:=false) (f:=λ i=>a.getD (0+i) d0) hk (m.gb_at 61) (λ i hi=>zAX 61) (λ i hi=>m.ga_at 61) 61 (zGA L (m.gb_at 61) (λ i hi=>m.ga_at 61) (λ i j hij hj=>m.a_le L 61 61)) λ k hkn hk1 hk2=>?_);dsimp only;have le1:∀i,k<=i->i<ka->i<a.size->∀j,j<kb->j<b.size->R (a.getD i d0) (b.getD j d0)=false:=λ i h1 h2 h3 j h4 h5=>L.tr _ _ _ (m.ga_at h3) (m.gb_at (show kb - 1<b.size by lia)) (m.gb_at h5) (L.asym _ _ (m.gb_at 61) (m.ga_at h3) (by have:=hk2 i h1 h2;simpa[byd] using this)) (m.b_le L 61 61);have gt1:∀j,j<k->j<a.size->R (b.getD (kb - 1) d0) (a.getD j d0)=false:=λ j h1 h2=>by have:=hk1 j h1;simpa[byd] using this
       refine zAO (λ ck=>?_) (λ ck=>?_)
       ·have hm1:=hm.ka (k:=k) 61 λ i h1 h2 h3 j h4 h5=>le1 i h1 h2 h3 j h4 h5
        refine zAO (λ e=>?_) (λ e=>?_)
        ·exact wpS_pure ⟨72,.inl ⟨_,rfl,hm1.done (.inl (eq_of_beq e))⟩⟩
        ·have e':¬k=0:=by simpa using e
         refine wpS_bind (zAT (zAX (show kb - 1<b.size by lia)) ?_);have hm3:=hm1.pb (show 0<kb by lia) 61 λ j h1 h2=>gt1 j 61 h2;refine zAO (λ e3=>?_) (λ e3=>?_)
         ·exact wpS_pure ⟨72,.inl ⟨_,rfl,hfirst hm3 (eq_of_beq e3)⟩⟩
         ·have e3':¬kb - 1=1:=by simpa using e3
          refine wpS_bind (zAT (zAX (show k - 1<a.size by lia)) ?_);refine wpS_bind 79;dsimp only;have le2:∀i,k1<=i->i<kb - 1->i<b.size->∀j,j<k->j<a.size->R (b.getD i d0) (a.getD j d0)=false:=λ i hi hib hi2 j h1 h2=>L.tr _ _ _ (m.gb_at hi2) (m.ga_at (show k - 1<a.size by lia)) (m.ga_at h2) (by have:=hk12 i hi hib;simpa[byd] using this) (m.a_le L 61 61);have gt2:∀j,j<k1->j<b.size->R (a.getD (k - 1) d0) (b.getD j d0)=false:=λ j h1 h2=>L.asym _ _ (m.gb_at h2) (m.ga_at 61) (by have:=hk11 j h1;simpa[byd] using this);refine zAO (λ ck1=>?_) (λ ck1=>?_)
          ·have hm4:=hm3.kb (k:=k1) 61 λ i h1 h2 h3 j h4 h5=>le2 i h1 h2 h3 j h4 h5
           refine zAO (λ e4=>?_) (λ e4=>?_)
           ·exact wpS_pure ⟨72,.inl ⟨_,rfl,hfirst hm4 (eq_of_beq e4)⟩⟩
           ·have e4':¬k1=1:=by simpa using e4
            refine zAO (λ e6=>?_) (λ e6=>?_)
            ·exact wpS_pure ⟨72,.inl ⟨_,rfl,hm4.done (.inr (eq_of_beq e6))⟩⟩
            ·have e6':¬k1=0:=by simpa using e6
             refine wpS_bind (zAT (zAX (show k - 1<a.size by lia)) ?_);have hm5:=hm4.pa (show 0<k by lia) 61 λ j h1 h2=>gt2 j 61 h2;refine zAO (λ e5=>?_) (λ e5=>?_)
             ·exact wpS_pure ⟨72,.inl ⟨_,rfl,hm5.done (.inl (eq_of_beq e5))⟩⟩
             ·have e5':¬k - 1=0:=by simpa using e5
              refine zAO (λ f=>?_) (λ f=>?_)
              ·exact wpS_pure ⟨72,.inr ⟨rfl,hm5,65,65,65,65,by dsimp only;lia⟩⟩
              ·exact wpS_pure ⟨72,rfl,hm5,65,65,65,65,by dsimp only;lia⟩
          ·have:k1=kb - 1:=by lia
           refine wpS_bind (zAT (zAX (show k - 1<a.size by lia)) ?_);have hm5:=hm3.pa (show 0<k by lia) 61 λ j h1 h2=>gt2 j 61 h2;refine zAO (λ e5=>?_) (λ e5=>?_)
           ·exact wpS_pure ⟨72,.inl ⟨_,rfl,hm5.done (.inl (eq_of_beq e5))⟩⟩
           ·have e5':¬k - 1=0:=by simpa using e5
            refine zAO (λ f=>?_) (λ f=>?_)
            ·exact wpS_pure ⟨72,.inr ⟨rfl,hm5,65,65,65,65,by dsimp only;lia⟩⟩
            ·exact wpS_pure ⟨72,rfl,hm5,65,65,65,65,by dsimp only;lia⟩
       ·have:k=ka:=by lia
        have hm1:=hm;refine wpS_bind (zAT (zAX (show kb - 1<b.size by lia)) ?_);have hm3:=hm1.pb (show 0<kb by lia) 61 λ j h1 h2=>gt1 j 61 h2;refine zAO (λ e3=>?_) (λ e3=>?_)
        ·exact wpS_pure ⟨72,.inl ⟨_,rfl,hfirst hm3 (eq_of_beq e3)⟩⟩
        ·have e3':¬kb - 1=1:=by simpa using e3
         refine wpS_bind (zAT (zAX (show ka - 1<a.size by lia)) ?_);refine wpS_bind 79;dsimp only;have le2:∀i,k1<=i->i<kb - 1->i<b.size->∀j,j<ka->j<a.size->R (b.getD i d0) (a.getD j d0)=false:=λ i hi hib hi2 j h1 h2=>L.tr _ _ _ (m.gb_at hi2) (m.ga_at (show ka - 1<a.size by lia)) (m.ga_at h2) (by have:=hk12 i hi hib;simpa[byd] using this) (m.a_le L 61 61);have gt2:∀j,j<k1->j<b.size->R (a.getD (ka - 1) d0) (b.getD j d0)=false:=λ j h1 h2=>L.asym _ _ (m.gb_at h2) (m.ga_at 61) (by have:=hk11 j h1;simpa[byd] using this);refine zAO (λ ck1=>?_) (λ ck1=>?_)
         ·have hm4:=hm3.kb (k:=k1) 61 λ i h1 h2 h3 j h4 h5=>le2 i h1 h2 h3 j h4 h5
          refine zAO (λ e4=>?_) (λ e4=>?_)
          ·exact wpS_pure ⟨72,.inl ⟨_,rfl,hfirst hm4 (eq_of_beq e4)⟩⟩
          ·have e4':¬k1=1:=by simpa using e4
           refine zAO (λ e6=>?_) (λ e6=>?_)
           ·exact wpS_pure ⟨72,.inl ⟨_,rfl,hm4.done (.inr (eq_of_beq e6))⟩⟩
           ·have e6':¬k1=0:=by simpa using e6
            refine wpS_bind (zAT (zAX (show ka - 1<a.size by lia)) ?_);have hm5:=hm4.pa (show 0<ka by lia) 61 λ j h1 h2=>gt2 j 61 h2;refine zAO (λ e5=>?_) (λ e5=>?_)
            ·exact wpS_pure ⟨72,.inl ⟨_,rfl,hm5.done (.inl (eq_of_beq e5))⟩⟩
            ·have e5':¬ka - 1=0:=by simpa using e5
             refine zAO (λ f=>?_) (λ f=>?_)
             ·exact wpS_pure ⟨72,.inr ⟨rfl,hm5,65,65,65,65,by dsimp only;lia⟩⟩
             ·exact wpS_pure ⟨72,rfl,hm5,65,65,65,65,by dsimp only;lia⟩
         ·have:k1=kb - 1:=by lia
          refine wpS_bind (zAT (zAX (show ka - 1<a.size by lia)) ?_);have hm5:=hm3.pa (show 0<ka by lia) 61 λ j h1 h2=>gt2 j 61 h2;refine zAO (λ e5=>?_) (λ e5=>?_)
          ·exact wpS_pure ⟨72,.inl ⟨_,rfl,hm5.done (.inl (eq_of_beq e5))⟩⟩
          ·have e5':¬ka - 1=0:=by simpa using e5
           refine zAO (λ f=>?_) (λ f=>?_)
           ·exact wpS_pure ⟨72,.inr ⟨rfl,hm5,65,65,65,65,by dsimp only;lia⟩⟩
           ·exact wpS_pure ⟨72,rfl,hm5,65,65,65,65,by dsimp only;lia⟩
      ·refine wpS_bind (zBx ?_)
       refine wpS_bind (zAT (zAX (show kb - 1<b.size by lia)) ?_);refine wpS_bind (zAw L (left:=false) (f:=λ i=>a.getD (0+i) d0) hk (m.gb_at 61) (λ i hi=>zAX 61) (λ i hi=>m.ga_at 61) 61 (zGA L (m.gb_at 61) (λ i hi=>m.ga_at 61) (λ i j hij hj=>m.a_le L 61 61)) λ k hkn hk1 hk2=>?_);dsimp only;have le1:∀i,k<=i->i<ka->i<a.size->∀j,j<kb->j<b.size->R (a.getD i d0) (b.getD j d0)=false:=λ i h1 h2 h3 j h4 h5=>L.tr _ _ _ (m.ga_at h3) (m.gb_at (show kb - 1<b.size by lia)) (m.gb_at h5) (L.asym _ _ (m.gb_at 61) (m.ga_at h3) (by have:=hk2 i h1 h2;simpa[byd] using this)) (m.b_le L 61 61);have gt1:∀j,j<k->j<a.size->R (b.getD (kb - 1) d0) (a.getD j d0)=false:=λ j h1 h2=>by have:=hk1 j h1;simpa[byd] using this
       refine zAO (λ ck=>?_) (λ ck=>?_)
       ·have hm1:=hm.ka (k:=k) 61 λ i h1 h2 h3 j h4 h5=>le1 i h1 h2 h3 j h4 h5
        refine zAO (λ e=>?_) (λ e=>?_)
        ·exact wpS_pure ⟨72,.inl ⟨_,rfl,hm1.done (.inl (eq_of_beq e))⟩⟩
        ·have e':¬k=0:=by simpa using e
         refine wpS_bind (zAT (zAX (show kb - 1<b.size by lia)) ?_);have hm3:=hm1.pb (show 0<kb by lia) 61 λ j h1 h2=>gt1 j 61 h2;refine zAO (λ e3=>?_) (λ e3=>?_)
         ·exact wpS_pure ⟨72,.inl ⟨_,rfl,hfirst hm3 (eq_of_beq e3)⟩⟩
         ·have e3':¬kb - 1=1:=by simpa using e3
          refine wpS_bind (zAT (zAX (show k - 1<a.size by lia)) ?_);refine wpS_bind 79;dsimp only;have le2:∀i,k1<=i->i<kb - 1->i<b.size->∀j,j<k->j<a.size->R (b.getD i d0) (a.getD j d0)=false:=λ i hi hib hi2 j h1 h2=>L.tr _ _ _ (m.gb_at hi2) (m.ga_at (show k - 1<a.size by lia)) (m.ga_at h2) (by have:=hk12 i hi hib;simpa[byd] using this) (m.a_le L 61 61);have gt2:∀j,j<k1->j<b.size->R (a.getD (k - 1) d0) (b.getD j d0)=false:=λ j h1 h2=>L.asym _ _ (m.gb_at h2) (m.ga_at 61) (by have:=hk11 j h1;simpa[byd] using this);refine zAO (λ ck1=>?_) (λ ck1=>?_)
          ·have hm4:=hm3.kb (k:=k1) 61 λ i h1 h2 h3 j h4 h5=>le2 i h1 h2 h3 j h4 h5
           refine zAO (λ e4=>?_) (λ e4=>?_)
           ·exact wpS_pure ⟨72,.inl ⟨_,rfl,hfirst hm4 (eq_of_beq e4)⟩⟩
           ·have e4':¬k1=1:=by simpa using e4
            refine zAO (λ e6=>?_) (λ e6=>?_)
            ·exact wpS_pure ⟨72,.inl ⟨_,rfl,hm4.done (.inr (eq_of_beq e6))⟩⟩
            ·have e6':¬k1=0:=by simpa using e6
             refine wpS_bind (zAT (zAX (show k - 1<a.size by lia)) ?_);have hm5:=hm4.pa (show 0<k by lia) 61 λ j h1 h2=>gt2 j 61 h2;refine zAO (λ e5=>?_) (λ e5=>?_)
             ·exact wpS_pure ⟨72,.inl ⟨_,rfl,hm5.done (.inl (eq_of_beq e5))⟩⟩
             ·have e5':¬k - 1=0:=by simpa using e5
              refine zAO (λ f=>?_) (λ f=>?_)
              ·exact wpS_pure ⟨72,.inr ⟨rfl,hm5,65,65,65,65,by dsimp only;lia⟩⟩
              ·exact wpS_pure ⟨72,rfl,hm5,65,65,65,65,by dsimp only;lia⟩
          ·have:k1=kb - 1:=by lia
           refine wpS_bind (zAT (zAX (show k - 1<a.size by lia)) ?_);have hm5:=hm3.pa (show 0<k by lia) 61 λ j h1 h2=>gt2 j 61 h2;refine zAO (λ e5=>?_) (λ e5=>?_)
           ·exact wpS_pure ⟨72,.inl ⟨_,rfl,hm5.done (.inl (eq_of_beq e5))⟩⟩
           ·have e5':¬k - 1=0:=by simpa using e5
            refine zAO (λ f=>?_) (λ f=>?_)
            ·exact wpS_pure ⟨72,.inr ⟨rfl,hm5,65,65,65,65,by dsimp only;lia⟩⟩
            ·exact wpS_pure ⟨72,rfl,hm5,65,65,65,65,by dsimp only;lia⟩
       ·have:k=ka:=by lia
        have hm1:=hm;refine wpS_bind (zAT (zAX (show kb - 1<b.size by lia)) ?_);have hm3:=hm1.pb (show 0<kb by lia) 61 λ j h1 h2=>gt1 j 61 h2;refine zAO (λ e3=>?_) (λ e3=>?_)
        ·exact wpS_pure ⟨72,.inl ⟨_,rfl,hfirst hm3 (eq_of_beq e3)⟩⟩
        ·have e3':¬kb - 1=1:=by simpa using e3
         refine wpS_bind (zAT (zAX (show ka - 1<a.size by lia)) ?_);refine wpS_bind 79;dsimp only;have le2:∀i,k1<=i->i<kb - 1->i<b.size->∀j,j<ka->j<a.size->R (b.getD i d0) (a.getD j d0)=false:=λ i hi hib hi2 j h1 h2=>L.tr _ _ _ (m.gb_at hi2) (m.ga_at (show ka - 1<a.size by lia)) (m.ga_at h2) (by have:=hk12 i hi hib;simpa[byd] using this) (m.a_le L 61 61);have gt2:∀j,j<k1->j<b.size->R (a.getD (ka - 1) d0) (b.getD j d0)=false:=λ j h1 h2=>L.asym _ _ (m.gb_at h2) (m.ga_at 61) (by have:=hk11 j h1;simpa[byd] using this);refine zAO (λ ck1=>?_) (λ ck1=>?_)
         ·have hm4:=hm3.kb (k:=k1) 61 λ i h1 h2 h3 j h4 h5=>le2 i h1 h2 h3 j h4 h5
          refine zAO (λ e4=>?_) (λ e4=>?_)
          ·exact wpS_pure ⟨72,.inl ⟨_,rfl,hfirst hm4 (eq_of_beq e4)⟩⟩
          ·have e4':¬k1=1:=by simpa using e4
           refine zAO (λ e6=>?_) (λ e6=>?_)
           ·exact wpS_pure ⟨72,.inl ⟨_,rfl,hm4.done (.inr (eq_of_beq e6))⟩⟩
           ·have e6':¬k1=0:=by simpa using e6
            refine wpS_bind (zAT (zAX (show ka - 1<a.size by lia)) ?_);have hm5:=hm4.pa (show 0<ka by lia) 61 λ j h1 h2=>gt2 j 61 h2;refine zAO (λ e5=>?_) (λ e5=>?_)
            ·exact wpS_pure ⟨72,.inl ⟨_,rfl,hm5.done (.inl (eq_of_beq e5))⟩⟩
            ·have e5':¬ka - 1=0:=by simpa using e5
             refine zAO (λ f=>?_) (λ f=>?_)
             ·exact wpS_pure ⟨72,.inr ⟨rfl,hm5,65,65,65,65,by dsimp only;lia⟩⟩
             ·exact wpS_pure ⟨72,rfl,hm5,65,65,65,65,by dsimp only;lia⟩
         ·have:k1=kb - 1:=by lia
          refine wpS_bind (zAT (zAX (show ka - 1<a.size by lia)) ?_);have hm5:=hm3.pa (show 0<ka by lia) 61 λ j h1 h2=>gt2 j 61 h2;refine zAO (λ e5=>?_) (λ e5=>?_)
          ·exact wpS_pure ⟨72,.inl ⟨_,rfl,hm5.done (.inl (eq_of_beq e5))⟩⟩
          ·have e5':¬ka - 1=0:=by simpa using e5
           refine zAO (λ f=>?_) (λ f=>?_)
           ·exact wpS_pure ⟨72,.inr ⟨rfl,hm5,65,65,65,65,by dsimp only;lia⟩⟩
           ·exact wpS_pure ⟨72,rfl,hm5,65,65,65,65,by dsimp only;lia⟩
     ·refine all7 λ r ka kb o mg2 ac2 bc2 st3 hI=>an8 hI λ hE0 hE1 hm hka hkb hka2 hkb2 hcn2=>?_
      obtain⟨g,rfl⟩:=hE0;obtain rfl:=hE1;dsimp only at hm hka hkb hka2 hkb2 hcn2;exfalso
      lia
     refine all7 λ r ka kb o mg2 ac2 bc2 st3 hI=>?_;obtain⟨⟨g,rfl⟩,hres⟩:=hI;rcases hres with ⟨X,hX,hM⟩|⟨hX,hm,hka,hkb,hka2,hkb2,hcn2⟩
     ·dsimp only at hX
      subst hX;exact wpS_pure ⟨⟨g,rfl⟩,X,rfl,hM⟩
     ·dsimp only at hX hm hka hkb hka2 hkb2 hcn2 ⊢
      subst hX;dsimp only;refine wpS_bind (zBx (wpS_pure ⟨72,rfl,hm,hka,hkb,hka2,hkb2,?_⟩));dsimp only
      lia
   ·refine all5 λ r na nb o mg st1 hI=>an8 hI λ hE0 hE1 hm hia hib hia2 hib2 hcnt=>?_
    obtain⟨g,rfl⟩:=hE0;obtain rfl:=hE1;dsimp only at hm hia hib hia2 hib2 hcnt;exfalso
    lia
   refine all5 λ r na nb o mg st1 hI=>?_;obtain⟨⟨g,rfl⟩,X,hX,hM⟩:=hI;dsimp only at hX ⊢;subst hX;exact wpS_pure (h X g hM)
end
section
variable {M:Model}{A:Around}{E:XQ}{s:Shared}{κ:SortKind}{G:Keyed->Prop}{R:Keyed->Keyed->Bool}
def SegO (R:Keyed->Keyed->Bool) (xs:Array Keyed) (l u:Nat):Prop:=∀i j,l<=i->i<j->j<u->R (xs.getD j d0) (xs.getD i d0)=false
theorem SegO.le (L:LtE M A E s κ G R) {xs:Array Keyed}{l u:Nat}(h:SegO R xs l u) (g:∀x∈xs.toList,G x) (hu:u<=xs.size) {i j:Nat}(hl:l<=i) (hij:i<=j) (hj:j<u):R (xs.getD j d0) (xs.getD i d0)=false:=by
 by_cases e:i=j
 ·subst e
  have gi:=g _ (zAg (a:=xs) (i:=i) 61);cases z:R (xs.getD i d0) (xs.getD i d0) with
  |false=>rfl
  |true=>have:=L.asym _ _ gi gi z;rw[z] at this;cases this
 ·exact h i j hl 61 hj
noncomputable def layB (sa:Nat) (ms:List (Keyed × Nat)) (arr:Array Keyed):Array Keyed:=ms.foldl (λ a x=>a.setIfInBounds (sa+x.2) x.1) arr
theorem zFW (sa:Nat):∀(ms:List Keyed) (off:Nat) (arr:Array Keyed) (k:Nat),sa+off+ms.length<=arr.size->(layB sa (ms.zipIdx off) arr)[k]?=if sa+off<=k/\k<sa+off+ms.length then ms[k - (sa+off)]? else arr[k]?
 |[],off,arr,k,h=>by
  rw[if_neg 68];rfl
 |m::ms,off,arr,k,h=>by
  simp only[mM] at h ⊢;have ih:=zFW sa ms (off+1) (arr.setIfInBounds (sa+off) m) k (by simp;lia);have e:layB sa ((m::ms).zipIdx off) arr=layB sa (ms.zipIdx (off+1)) (arr.setIfInBounds (sa+off) m):=rfl;rw[e,ih]
  by_cases c:k=sa+off
  ·subst c
   rw[if_neg 61,if_pos 61];simp[Array.getElem?_setIfInBounds,show sa+off<arr.size by lia]
  ·by_cases d:sa+(off+1)<=k/\k<sa+(off+1)+ms.length
   ·rw[if_pos d,if_pos 61,show k - (sa+off)=(k - (sa+(off+1)))+1 by lia,List.getElem?_cons_succ]
   ·rw[if_neg d,if_neg 61,Array.getElem?_setIfInBounds,if_neg 61]
theorem zJS {sa:Nat}{ms:List Keyed}{arr:Array Keyed}(h:sa+ms.length<=arr.size):(layB sa ms.zipIdx arr).toList=arr.toList.take sa++(ms++arr.toList.drop (sa+ms.length)):=by
 refine List.ext_getElem? λ k=>?_;rw[nH,zFW sa ms 0 arr k 61,Nat.add_zero];have l1:(arr.toList.take sa).length=sa:=by rw[mN];simp;lia
 by_cases c:k<sa
 ·rw[if_neg 61,mS 61,List.getElem?_take,if_pos c,nH]
 ·rw[mT 61,l1]
  by_cases d:k<sa+ms.length
  ·rw[if_pos 61,mS 61]
  ·rw[if_neg 61,mT 61,List.getElem?_drop,nH]
   congr 1
   lia
theorem zLP {a:Array Keyed}{i n j:Nat}(hn:n<=a.size) (h:i+j<n):(a.extract i n).getD j d0=a.getD (i+j) d0:=by
 have h1:j<(a.extract i n).size:=by rw[Array.size_extract];lia
 simp only[Array.getD,h1,dif_pos,show i+j<a.size by lia];simp
theorem zJq {a:Array Keyed}{i n:Nat}(hn:n<=a.size):(a.extract i n).size=n - i:=by rw[Array.size_extract,Nat.min_eq_left hn]
theorem ol_of {a:Array Keyed}(h:∀i j,i<j->j<a.size->R (a.getD j d0) (a.getD i d0)=false):OL R a.toList:=by
 refine List.pairwise_iff_getElem.mpr λ i j hi hj hij=>?_;have:=h i j hij (by simpa using hj);simpa[Array.getD,show j<a.size by simpa using hj,show i<a.size by simpa using hi] using this
theorem zJR {sa:Nat}{mr arr:Array Keyed}(h:sa+mr.size<=arr.size) (k:Nat):(layB sa mr.toList.zipIdx arr).getD k d0=if sa<=k/\k<sa+mr.size then mr.getD (k - sa) d0 else arr.getD k d0:=by
 have:=zFW sa mr.toList 0 arr k (by simpa using h);rw[Nat.add_zero,Array.length_toList] at this;rw[Array.getD_eq_getD_getElem?,this]
 by_cases c:sa<=k/\k<sa+mr.size
 ·rw[if_pos c,if_pos c,nH,Array.getD_eq_getD_getElem?]
 ·rw[if_neg c,if_neg c,Array.getD_eq_getD_getElem?]
theorem zJJ {a b x:Array Keyed}(h:Mgd R a b x) {i:Nat}(hi:i<x.size):(∃j,j<a.size/\x.getD i d0=a.getD j d0)\/(∃j,j<b.size/\x.getD i d0=b.getD j d0):=by
 have m:=h.2.mem_iff.mp (zAg hi);rcases lM.mp m with m|m
 ·obtain⟨j,_,hj,e⟩:=zBh (i:=0) (by rw[List.drop_zero];exact m)
  exact .inl ⟨j,hj,e⟩
 ·obtain⟨j,_,hj,e⟩:=zBh (i:=0) (by rw[List.drop_zero];exact m)
  exact .inr ⟨j,hj,e⟩
theorem zLU {st1 st:SortSt}{Q:PUnit->SortSt->Prop}(h:Q ⟨⟩ st1):wpS M A E s (set st1:StateT SortSt Sem PUnit) Q st:=by
 unfold wpS;rw[StateT.run_set];exact lD ⟨rfl,h⟩
theorem zID (L:LtE M A E s κ G R) {i:Nat}{st:SortSt}{sa na pa sb nb pb:Nat}{Q:Bool->SortSt->Prop}(hk:kindOf st=κ) (hf:failedOf st=none) (gl:∀x∈(arrOf st).toList,G x) (p1:(pendingOf st)[i]?=some (sa,na,pa)) (p2:(pendingOf st)[i+1]?=some (sb,nb,pb)) (hs:sa+na=sb) (hn:sb+nb<=(arrOf st).size) (h1:0<na) (h2:0<nb)
  (o1:SegO R (arrOf st) sa sb) (o2:SegO R (arrOf st) sb (sb+nb))
  (h:∀arr g,arr.toList.Perm (arrOf st).toList->(∀j,j<sa\/sb+nb<=j->arr.getD j d0=(arrOf st).getD j d0)->SegO R arr sa (sb+nb)->Q true (SortSt.mk' κ arr (((pendingOf st).setIfInBounds i (sa,na+nb,pa)).eraseIdxIfInBounds (i+1)) g none)):wpS M A E s (mergeAt' i) Q st:=by
 have G1:∀{j:Nat},j<(arrOf st).size->G ((arrOf st).getD j d0):=λ h=>gl _ (zAg h);have le1:∀{i j:Nat},sa<=i->i<=j->j<sb->R ((arrOf st).getD j d0) ((arrOf st).getD i d0)=false:=λ a b c=>o1.le L gl 61 a b c;have le2:∀{i j:Nat},sb<=i->i<=j->j<sb+nb->R ((arrOf st).getD j d0) ((arrOf st).getD i d0)=false:=λ a b c=>o2.le L gl hn a b c;refine wpS_bind (wpS_get ?_);rw[p1,p2];dsimp only;refine wpS_bind (zLU ?_);refine wpS_bind (zAT (zAX (show sb<(arrOf st).size by lia)) ?_);refine wpS_bind (zAw L (left:=false) (f:=λ i=>(arrOf st).getD (sa+i) d0) hk (G1 61) (λ i hi=>zAX (a:=arrOf st) 61) (λ i hi=>G1 61) h1 (zGA L (G1 61) (λ i hi=>G1 61) (λ i j hij hj=>le1 61 61 61)) λ k hkn hk1 hk2=>?_);dsimp only;have low:∀i,i<k->R ((arrOf st).getD sb d0) ((arrOf st).getD (sa+i) d0)=false:=λ i hi=>by have:=hk1 i hi;simpa[byd] using this
 have high:∀i,k<=i->i<na->R ((arrOf st).getD sb d0) ((arrOf st).getD (sa+i) d0)=true:=λ i h1 h2=>by have:=hk2 i h1 h2;simpa[byd] using this
 have lowB:∀i j,sa<=i->i<sa+k->sb<=j->j<sb+nb->R ((arrOf st).getD j d0) ((arrOf st).getD i d0)=false:=λ i j a b c d=>by
  have z:=low (i - sa) 61;rw[show sa+(i - sa)=i by lia] at z;exact L.tr _ _ _ (G1 61) (G1 61) (G1 61) (le2 (lS _) c d) z
 by_cases c1:(na - k == 0)=true
 ·rw[if_pos c1]
  have c1':na - k=0:=eq_of_beq c1;refine wpS_pure ?_
  have z:=h (arrOf st) (gallopOf st) (.refl _) 76 λ i j hi hij hj=>by
   by_cases ci:i<sb
   ·by_cases cj:j<sb
    ·exact le1 hi 61 cj
    ·exact lowB i j hi 61 61 hj
   ·exact le2 61 61 hj
  rw[←hk,←hf] at z;exact z
 ·rw[if_neg c1]
  have c1':¬na - k=0:=by simpa using c1
  refine wpS_bind (zAT (zAX (show sa+k+(na - k) - 1<(arrOf st).size by lia)) ?_);have eL:sa+k+(na - k) - 1=sb - 1:=by lia
  rw[eL];refine wpS_bind (zAw L (left:=true) (f:=λ i=>(arrOf st).getD (sb+i) d0) hk (G1 61) (λ i hi=>zAX (a:=arrOf st) 61) (λ i hi=>G1 61) 61 (zDc L (G1 61) (λ i hi=>G1 61) (λ i j hij hj=>le2 61 61 61)) λ n2 hn2 hn21 hn22=>?_);dsimp only;have below:∀i,i<n2->R ((arrOf st).getD (sb+i) d0) ((arrOf st).getD (sb - 1) d0)=true:=λ i hi=>by have:=hn21 i hi;simpa[byd] using this
  have above:∀i j,sa<=i->i<sb->sb+n2<=j->j<sb+nb->R ((arrOf st).getD j d0) ((arrOf st).getD i d0)=false:=λ i j a b c d=>by
   have z:R ((arrOf st).getD j d0) ((arrOf st).getD (sb - 1) d0)=false:=by
    have:=hn22 (j - sb) 61 61;simpa[byd,show sb+(j - sb)=j by lia] using this
   exact L.tr _ _ _ (G1 61) (G1 61) (G1 61) z (le1 a 61 61)
  by_cases c2:(n2 == 0)=true
  ·rw[if_pos c2]
   have c2':n2=0:=eq_of_beq c2;refine wpS_pure ?_
   have z:=h (arrOf st) (gallopOf st) (.refl _) 76 λ i j hi hij hj=>by
    by_cases ci:i<sb
    ·by_cases cj:j<sb
     ·exact le1 hi 61 cj
     ·exact above i j hi ci 61 hj
    ·exact le2 61 61 hj
   rw[←hk,←hf] at z;exact z
  ·rw[if_neg c2]
   have c2':¬n2=0:=by simpa using c2
   have sx:((arrOf st).extract (sa+k) sb).size=sb - (sa+k):=zJq 61;have sy:((arrOf st).extract sb (sb+n2)).size=n2:=by rw[zJq 61];lia
   have gx:∀{j:Nat},j<sb - (sa+k)->((arrOf st).extract (sa+k) sb).getD j d0=(arrOf st).getD (sa+k+j) d0:=λ hj=>zLP 61 61;have gy:∀{j:Nat},j<n2->((arrOf st).extract sb (sb+n2)).getD j d0=(arrOf st).getD (sb+j) d0:=λ hj=>zLP 61 61
   have mem:∀{i n:Nat}{x:Keyed},x∈((arrOf st).extract i n).toList->G x:=λ{i n x} hx=>by
    rw[Array.toList_extract,List.extract_eq_take_drop] at hx;exact gl x (List.mem_of_mem_drop (List.mem_of_mem_take hx))
   have m:ML R G ((arrOf st).extract (sa+k) sb) ((arrOf st).extract sb (sb+n2)):=⟨λ x=>mem,λ x=>mem,ol_of λ i j hij hj=>by
     rw[sx] at hj;rw[gx 61,gx 61];exact le1 61 61 61,ol_of λ i j hij hj=>by
     rw[sy] at hj;rw[gy 61,gy 61];exact le2 61 61 61⟩
   have q0:∀i,i<((arrOf st).extract (sa+k) sb).size->R (((arrOf st).extract (sa+k) sb).getD i d0) (((arrOf st).extract sb (sb+n2)).getD 0 d0)=false:=λ i hi=>by
    rw[sx] at hi;rw[gx hi,gy 61];refine L.asym _ _ (G1 61) (G1 61) ?_;have:=high (k+i) 61 61;rw[←Nat.add_assoc] at this;exact this
   have q1:∀j,j<((arrOf st).extract sb (sb+n2)).size->R (((arrOf st).extract (sa+k) sb).getD (((arrOf st).extract (sa+k) sb).size - 1) d0) (((arrOf st).extract sb (sb+n2)).getD j d0)=false:=λ j hj=>by
    rw[sy] at hj;rw[sx,gx 61,gy hj,show sa+k+(sb - (sa+k) - 1)=sb - 1 by lia];exact L.asym _ _ (G1 61) (G1 61) (below j hj)
   have mfin:∀mr,Mgd R ((arrOf st).extract (sa+k) sb) ((arrOf st).extract sb (sb+n2)) mr->(layB (sa+k) mr.toList.zipIdx (arrOf st)).toList.Perm (arrOf st).toList/\(∀j,j<sa\/sb+nb<=j->(layB (sa+k) mr.toList.zipIdx (arrOf st)).getD j d0=(arrOf st).getD j d0)/\SegO R (layB (sa+k) mr.toList.zipIdx (arrOf st)) sa (sb+nb):=λ mr hM=>by
    have sm:mr.size=sb+n2 - (sa+k):=by
     have:=hM.2.length_eq;rw[mK,Array.length_toList,Array.length_toList,Array.length_toList,sx,sy] at this
     lia
    refine⟨?_,λ j hj=>?_,λ i j hi hij hj=>?_⟩
    ·rw[zJS (by rw[Array.length_toList,sm];lia)]
     have e:(arrOf st).toList=(arrOf st).toList.take (sa+k)++(((arrOf st).extract (sa+k) sb).toList++((arrOf st).extract sb (sb+n2)).toList++(arrOf st).toList.drop (sa+k+mr.toList.length)):=by
      rw[Array.length_toList,sm,Array.toList_extract,Array.toList_extract,List.extract_eq_take_drop,List.extract_eq_take_drop];have e1:((arrOf st).toList.drop sb).take (sb+n2 - sb)=(((arrOf st).toList.drop (sa+k)).drop (sb - (sa+k))).take (n2):=by rw[List.drop_drop,show sa+k+(sb - (sa+k))=sb by lia,Nat.add_sub_cancel_left]
      have e2:(arrOf st).toList.drop (sa+k+(sb+n2 - (sa+k)))=(((arrOf st).toList.drop (sa+k)).drop (sb - (sa+k))).drop n2:=by rw[List.drop_drop,List.drop_drop];congr 1;lia
      rw[e1,e2,mX,List.take_append_drop,List.take_append_drop,List.take_append_drop]
     conv=>rhs;rw[e]
     exact List.Perm.append_left _ (List.Perm.append_right _ hM.2)
    ·rw[zJR 61,if_neg 61]
    ·rw[zJR 61,zJR 61]
     by_cases ci:sa+k<=i/\i<sa+k+mr.size
     ·rw[if_pos ci]
      by_cases cj:sa+k<=j/\j<sa+k+mr.size
      ·rw[if_pos cj]
       exact ol_at hM.1 61 61
      ·rw[if_neg cj]
       rcases zJJ hM (i:=i - (sa+k)) 61 with ⟨t,ht,et⟩|⟨t,ht,et⟩
       ·rw[sx] at ht
        rw[et,gx ht];exact above _ j 61 61 61 hj
       ·rw[sy] at ht
        rw[et,gy ht];exact le2 61 61 hj
     ·rw[if_neg ci]
      by_cases cj:sa+k<=j/\j<sa+k+mr.size
      ·rw[if_pos cj]
       rcases zJJ hM (i:=j - (sa+k)) 61 with ⟨t,ht,et⟩|⟨t,ht,et⟩
       ·rw[sx] at ht
        rw[et,gx ht];exact le1 hi 61 61
       ·rw[sy] at ht
        rw[et,gy ht];exact lowB i _ hi 61 61 61
      ·rw[if_neg cj]
       by_cases di:i<sa+k
       ·by_cases dj:j<sb
        ·exact le1 hi 61 dj
        ·exact lowB i j hi di 61 hj
       ·exact le2 61 61 hj
   by_cases c3:na - k<=n2
   ·rw[if_pos c3]
    refine wpS_bind (zIB L (a:=(arrOf st).extract (sa+k) sb) (b:=(arrOf st).extract sb (sb+n2)) hk m 61 61 q0 q1 λ mr g hM=>?_);refine wpS_bind (wpS_modify (wpS_bind (wpS_get ?_)));refine wpS_pure ?_;show Q (failedOf st).isNone (SortSt.mk' (kindOf st) (layB (sa+k) mr.toList.zipIdx (arrOf st)) _ g (failedOf st));rw[hf,hk];exact h _ g (mfin mr hM).1 (mfin mr hM).2.1 (mfin mr hM).2.2
   ·rw[if_neg c3]
    refine wpS_bind (zIC L (a:=(arrOf st).extract (sa+k) sb) (b:=(arrOf st).extract sb (sb+n2)) hk m 61 61 q0 q1 λ mr g hM=>?_);refine wpS_bind (wpS_modify (wpS_bind (wpS_get ?_)));refine wpS_pure ?_;show Q (failedOf st).isNone (SortSt.mk' (kindOf st) (layB (sa+k) mr.toList.zipIdx (arrOf st)) _ g (failedOf st));rw[hf,hk];exact h _ g (mfin mr hM).1 (mfin mr hM).2.1 (mfin mr hM).2.2
end
section
variable {M:Model}{A:Around}{E:XQ}{s:Shared}{κ:SortKind}{G:Keyed->Prop}{R:Keyed->Keyed->Bool}
theorem zBG (L:LtE M A E s κ G R) {st:SortSt}{i j:Nat}{Q:Option Bool->SortSt->Prop}(hk:kindOf st=κ) (gl:∀x∈(arrOf st).toList,G x) (hi:i<(arrOf st).size) (hj:j<(arrOf st).size) (h:Q (some (R ((arrOf st).getD i d0) ((arrOf st).getD j d0))) st):wpS M A E s (ltAt' i j) Q st:=by
 rw[ltAt'_eq];refine wpS_bind (wpS_get (wpS_bind (zAT (zAX hi) (wpS_bind (zAT (zAX hj) ?_)))));exact L.lt _ _ (gl _ (zAg hi)) (gl _ (zAg hj)) _ _ hk h
theorem zGB {xs:Array Keyed}{i j:Nat}(hj:j<=xs.size) (k:Nat):(mirror xs i j ((j - i) / 2)).getD k d0=if i<=k/\k<j then xs.getD (i+j - 1 - k) d0 else xs.getD k d0:=by
 rw[Array.getD_eq_getD_getElem?,getElem?_mirror_all hj]
 by_cases c:i<=k/\k<j
 ·rw[if_pos c,if_pos c,Array.getD_eq_getD_getElem?]
 ·rw[if_neg c,if_neg c,Array.getD_eq_getD_getElem?]
theorem zJ4 {xs:Array Keyed}{src n:Nat}(h:src<xs.size) (hn:n<=src) (k:Nat):(bubble xs src n).getD k d0=if k=src - n then xs.getD src d0 else if src - n<k/\k<=src then xs.getD (k - 1) d0 else xs.getD k d0:=by
 rw[Array.getD_eq_getD_getElem?,getElem?_bubble h n hn]
 by_cases c:k=src - n
 ·rw[if_pos c,if_pos c,Array.getD_eq_getD_getElem?]
 ·rw[if_neg c,if_neg c]
  by_cases d:src - n<k/\k<=src
  ·rw[if_pos d,if_pos d,Array.getD_eq_getD_getElem?]
  ·rw[if_neg d,if_neg d,Array.getD_eq_getD_getElem?]
structure Agr (xs ys:Array Keyed) (l u:Nat):Prop where
 perm:ys.toList.Perm xs.toList
 out:∀j,j<l\/u<=j->ys.getD j d0=xs.getD j d0
theorem Agr.refl (xs:Array Keyed) (l u:Nat):Agr xs xs l u:=⟨.refl _,λ Ω Ω=>rfl⟩
theorem Agr.trans {xs ys zs:Array Keyed}{l u:Nat}(a:Agr xs ys l u) (b:Agr ys zs l u):Agr xs zs l u:=⟨b.perm.trans a.perm,λ j hj=>(b.out j hj).trans (a.out j hj)⟩
theorem Agr.wide {xs ys:Array Keyed}{l u l' u':Nat}(a:Agr xs ys l u) (hl:l'<=l) (hu:u<=u'):Agr xs ys l' u':=⟨a.perm,λ j hj=>a.out j 61⟩
theorem Agr.size {xs ys:Array Keyed}{l u:Nat}(a:Agr xs ys l u):ys.size=xs.size:=by have:=a.perm.length_eq;simpa using this
theorem Agr.gl {xs ys:Array Keyed}{l u:Nat}(a:Agr xs ys l u) (g:∀x∈xs.toList,G x):∀x∈ys.toList,G x:=λ x hx=>g x (a.perm.mem_iff.mp hx)
theorem zCc {xs:Array Keyed}{i j:Nat}(hj:j<=xs.size):Agr xs (mirror xs i j ((j - i) / 2)) i j:=⟨Array.perm_iff_toList_perm.mp (mirror_perm _ _ _ _),λ k hk=>by rw[zGB hj,if_neg 61]⟩
theorem zMG {xs:Array Keyed}{src n:Nat}(h:src<xs.size) (hn:n<=src):Agr xs (bubble xs src n) (src - n) (src+1):=⟨Array.perm_iff_toList_perm.mp (bubble_perm _ _ _),λ k hk=>by rw[zJ4 h hn,if_neg 61,if_neg 61]⟩
def DsO (R:Keyed->Keyed->Bool) (xs:Array Keyed) (l u:Nat):Prop:=∀i j,l<=i->i<j->j<u->R (xs.getD i d0) (xs.getD j d0)=false
def EqO (R:Keyed->Keyed->Bool) (xs:Array Keyed) (l u:Nat):Prop:=∀i j,l<=i->i<u->l<=j->j<u->R (xs.getD i d0) (xs.getD j d0)=false
theorem zDv (L:LtE M A E s κ G R) {x:Keyed}(g:G x):R x x=false:=by
 cases z:R x x with
 |false=>rfl
 |true=>have:=L.asym _ _ g g z;rw[z] at this;cases this
theorem SegO.more (L:LtE M A E s κ G R) {xs:Array Keyed}{l u:Nat}(g:∀x∈xs.toList,G x) (hu:u<xs.size) (hlu:l<u) (h:SegO R xs l u) (e:R (xs.getD u d0) (xs.getD (u - 1) d0)=false):SegO R xs l (u+1):=λ i j hi hij hj=>by
 by_cases c:j=u
 ·subst c
  by_cases d:i=j - 1
  ·rw[d];exact e
  ·exact L.tr _ _ _ (g _ (zAg 61)) (g _ (zAg 61)) (g _ (zAg 61)) e (h i (j - 1) hi 61 61)
 ·exact h i j hi hij 61
theorem DsO.more (L:LtE M A E s κ G R) {xs:Array Keyed}{l u:Nat}(g:∀x∈xs.toList,G x) (hu:u<xs.size) (hlu:l<u) (h:DsO R xs l u) (e:R (xs.getD (u - 1) d0) (xs.getD u d0)=false):DsO R xs l (u+1):=λ i j hi hij hj=>by
 by_cases c:j=u
 ·subst c
  by_cases d:i=j - 1
  ·rw[d];exact e
  ·exact L.tr _ _ _ (g _ (zAg 61)) (g _ (zAg 61)) (g _ (zAg 61)) (h i (j - 1) hi 61 61) e
 ·exact h i j hi hij 61
theorem zEe {xs:Array Keyed}{l a k m:Nat}(hla:l<=a) (hkm:k<=m) (hk:k<=xs.size) (h:DsO R xs l m) (e:EqO R xs a k):DsO R (mirror xs a k ((k - a) / 2)) l m:=λ i j hi hij hj=>by
 rw[zGB hk,zGB hk]
 by_cases ci:a<=i/\i<k
 ·rw[if_pos ci]
  by_cases cj:a<=j/\j<k
  ·rw[if_pos cj];exact e _ _ 61 61 61 61
  ·rw[if_neg cj];exact h _ _ 61 61 hj
 ·rw[if_neg ci]
  by_cases cj:a<=j/\j<k
  ·rw[if_pos cj];exact h _ _ hi 61 61
  ·rw[if_neg cj];exact h _ _ hi hij hj
theorem zFN {xs:Array Keyed}{l u:Nat}(hu:u<=xs.size) (h:DsO R xs l u):SegO R (mirror xs l u ((u - l) / 2)) l u:=λ i j hi hij hj=>by
 rw[zGB hu,zGB hu,if_pos 61,if_pos 61];exact h _ _ 61 61 61
theorem zBq {st:SortSt}{arr:Array Keyed}{i j:Nat}{Q:Unit->SortSt->Prop}(h:Q () (setArr st (mirror arr i j ((j - i) / 2)))):wpS M A E s (reverseSlice' i j) Q (setArr st arr):=by
 rw[reverseSlice'_eq];exact wpS_modify h
theorem zIO {st:SortSt}{arr:Array Keyed}{i j:Nat}{Q:Unit->SortSt->Prop}(h:Q () (setArr st (bubble arr i (i - j)))):wpS M A E s (moveDown' i j) Q (setArr st arr):=by
 rw[moveDown'_eq];exact wpS_modify h
theorem zJ5 (L:LtE M A E s κ G R) {st:SortSt}{lo n ok:Nat}{Q:Bool->SortSt->Prop}(hk:kindOf st=κ) (gl:∀x∈(arrOf st).toList,G x) (hn:lo+n<=(arrOf st).size) (h1:1<=ok) (hok:ok<=n) (hs:SegO R (arrOf st) lo (lo+ok))
  (h:∀arr,Agr (arrOf st) arr lo (lo+n)->SegO R arr lo (lo+n)->Q true (setArr st arr)):wpS M A E s (binarySort' lo n ok) Q st:=by
 rw[binarySort'_eq];refine wpS_bind (wpS_mono (wpS_forRange (I:=λ k (c:Option Bool × Unit) st'=>∃arr,st'=setArr st arr/\c.1=none/\Agr (arrOf st) arr lo (lo+n)/\SegO R arr lo (lo+k)) (Q:=λ c st'=>∃arr,st'=setArr st arr/\c.1=none/\Agr (arrOf st) arr lo (lo+n)/\SegO R arr lo (lo+n)) ?_ ?_ ⟨arrOf st,rfl,rfl,Agr.refl _ _ _,by rw[Nat.max_eq_left h1];exact hs⟩) ?_)
 ·refine λ k=>all2 λ r u st' hk1 hk2 hI=>?_
  obtain⟨arr,hI⟩:=hI;refine an4 hI λ hE0 hE1 ag sg=>?_;obtain rfl:=hE0;obtain rfl:=hE1;have sz:=ag.size;have ga:=ag.gl gl;dsimp only at sg ⊢
  refine wpS_bind (wpS_mono (wpS_forRange (I:=λ i (c:Option Bool × Nat × Nat) st2=>st2=setArr st arr/\c.1=none/\c.2.1<=c.2.2/\c.2.2<=k/\c.2.2 - c.2.1<=k - i/\(∀j,j<c.2.1->R (arr.getD (lo+k) d0) (arr.getD (lo+j) d0)=false)/\(∀j,c.2.2<=j->j<k->R (arr.getD (lo+j) d0) (arr.getD (lo+k) d0)=false))
   (Q:=λ c st2=>st2=setArr st arr/\c.1=none/\c.2.1<=k/\(∀j,j<c.2.1->R (arr.getD (lo+k) d0) (arr.getD (lo+j) d0)=false)/\(∀j,c.2.1<=j->j<k->R (arr.getD (lo+j) d0) (arr.getD (lo+k) d0)=false)) ?_ ?_ ⟨rfl,rfl,mB _,lS _,lS _,(λ j hj=>by dsimp only at hj;lia),(λ j h1 h2=>by dsimp only at h1;lia)⟩) ?_)
  ·refine λ i=>all3 λ r l u st2 Ω hi hI=>an7 hI λ hE0 hE1 q1 q2 q3 q4 q5=>?_
   obtain rfl:=hE0;obtain rfl:=hE1;dsimp only at q1 q2 q3 q4 q5 ⊢;refine zAO 77 77
   ·exact wpS_pure ⟨rfl,rfl,65,q4,λ j j1 j2=>q5 j (by dsimp only at j1;lia) j2⟩
   ·refine wpS_bind (zBG L (st:=setArr st arr) hk ga (show lo+k<arr.size by lia) (show lo+(l+u) / 2<arr.size by lia) ?_)
    dsimp only;cases z:R (arr.getD (lo+k) d0) (arr.getD (lo+(l+u) / 2) d0) with
    |true =>
     have z':=L.asym _ _ (ga _ (zAg 61)) (ga _ (zAg 61)) z
     exact wpS_pure ⟨rfl,rfl,65,65,65,q4,λ j j1 j2=>by
      dsimp only at j1;exact L.tr _ _ _ (ga _ (zAg 61)) (ga _ (zAg 61)) (ga _ (zAg 61)) (sg.le L ga 61 61 61 61) z'⟩
    |false =>
     exact wpS_pure ⟨rfl,rfl,65,65,65,(λ j j1=>by
      dsimp only at j1;exact L.tr _ _ _ (ga _ (zAg 61)) (ga _ (zAg 61)) (ga _ (zAg 61)) z (sg.le L ga 61 61 61 61)),q5⟩
  ·refine all3 λ r l u st2 hI=>an7 hI λ hE0 hE1 q1 q2 q3 q4 q5=>?_
   obtain rfl:=hE0;obtain rfl:=hE1;dsimp only at q1 q2 q3 q4 q5 ⊢;exact⟨rfl,rfl,61,q4,λ j j1 j2=>q5 j 61 j2⟩
  refine all3 λ r l u st2 hI=>an5 hI λ hE0 hE1 q2 q4 q5=>?_;obtain rfl:=hE0;obtain rfl:=hE1;dsimp only at q2 q4 q5 ⊢;refine wpS_bind (zIO (wpS_pure ⟨_,rfl,rfl,ag.trans ((zMG (src:=lo+k) (n:=lo+k - (lo+l)) 61 61).wide 61 61),?_⟩));intro i j hi hij hj;rw[zJ4 61 61,zJ4 61 61];have es:lo+k - (lo+k - (lo+l))=lo+l:=by lia
  rw[es]
  by_cases i1:i=lo+l
  ·rw[if_pos i1,if_neg 61,if_pos ⟨by lia,by lia⟩]
   have:=q5 (j - 1 - lo) 61 61;rw[show lo+(j - 1 - lo)=j - 1 by lia] at this;exact this
  ·rw[if_neg i1]
   by_cases j1:j=lo+l
   ·rw[if_pos j1,if_neg 61]
    have:=q4 (i - lo) 61;rw[show lo+(i - lo)=i by lia] at this;exact this
   ·rw[if_neg j1]
    by_cases i2:lo+l<i/\i<=lo+k
    ·rw[if_pos i2,if_pos ⟨by lia,by lia⟩]
     exact sg (i - 1) (j - 1) 61 61 61
    ·rw[if_neg i2]
     by_cases j2:lo+l<j/\j<=lo+k
     ·rw[if_pos j2]
      exact sg i (j - 1) hi 61 61
     ·rw[if_neg j2]
      exact sg i j hi hij 61
 ·refine all2 λ r u st' hI=>?_
  obtain⟨arr,hI⟩:=hI;refine an4 hI λ hE0 hE1 ag sg=>?_;obtain rfl:=hE0;obtain rfl:=hE1;exact⟨arr,rfl,rfl,ag,by rw[show max (max ok 1) n=n by lia] at sg;exact sg⟩
 refine all2 λ r u st' hI=>?_;obtain⟨arr,hI⟩:=hI;refine an4 hI λ hE0 hE1 ag sg=>?_;obtain rfl:=hE0;obtain rfl:=hE1;exact wpS_pure (h arr ag sg)
theorem zKs (L:LtE M A E s κ G R) {st:SortSt}{lo nrem:Nat}{Q:Option Nat->SortSt->Prop}(hk:kindOf st=κ) (gl:∀x∈(arrOf st).toList,G x) (hn:lo+nrem<=(arrOf st).size) (h1:1<=nrem)
  (h:∀n arr,1<=n->n<=nrem->Agr (arrOf st) arr lo (lo+nrem)->SegO R arr lo (lo+n)->Q (some n) (setArr st arr)):wpS M A E s (countRun' lo nrem) Q st:=by
 rw[countRun'_eq];have sg0:SegO R (arrOf st) lo (lo+1):=λ i j hi hij hj=>by lia
 refine wpS_bind (wpS_mono (wpS_forRange (I:=λ i (c:Option (Option Nat) × Nat) st2=>st2=setArr st (arrOf st)/\c.1=none/\c.2=i/\1<=c.2/\c.2<=nrem/\SegO R (arrOf st) lo (lo+c.2)) (Q:=λ c st2=>st2=setArr st (arrOf st)/\c.1=none/\1<=c.2/\c.2<=nrem/\SegO R (arrOf st) lo (lo+c.2)/\(c.2<nrem->R ((arrOf st).getD (lo+c.2) d0) ((arrOf st).getD (lo+c.2 - 1) d0)=true)) ?_ ?_ ⟨rfl,rfl,rfl,lS _,h1,sg0⟩) ?_)
 ·refine λ i=>all2 λ r n st2 Ω hi hI=>an6 hI λ hE0 hE1 hE2 q1 q2 q3=>?_
  obtain rfl:=hE0;obtain rfl:=hE1;obtain rfl:=hE2;dsimp only at q1 q2 q3 hi ⊢;refine wpS_bind (zBG L (st:=setArr st (arrOf st)) hk gl (show lo+n<(arrOf st).size by lia) (show lo+n - 1<(arrOf st).size by lia) ?_);dsimp only;cases z:R ((arrOf st).getD (lo+n) d0) ((arrOf st).getD (lo+n - 1) d0) with
  |true=>exact wpS_pure ⟨rfl,rfl,q1,q2,q3,λ Ω=>z⟩
  |false=>exact wpS_pure ⟨rfl,rfl,rfl,65,65,q3.more (u:=lo+n) L gl 61 61 z⟩
 ·refine all2 λ r n st2 hI=>an6 hI λ hE0 hE1 q0 q1 q2 q3=>?_
  obtain rfl:=hE0;obtain rfl:=hE1;dsimp only at q0 q1 q2 q3 ⊢;exact⟨rfl,rfl,q1,q2,q3,λ z=>by lia⟩
 refine all2 λ r m st2 hI=>an6 hI λ hE0 hE1 q1 q2 q3 q4=>?_;obtain rfl:=hE0;obtain rfl:=hE1;dsimp only at q1 q2 q3 q4 ⊢;refine zAO (λ e0=>?_) (λ e0=>?_)
 ·exact wpS_pure (h m (arrOf st) q1 q2 (Agr.refl _ _ _) q3)
 ·have e0':¬m=nrem:=by simpa using e0
  have lm:=q4 61;have gm:=L.asym _ _ (gl _ (zAg 61)) (gl _ (zAg 61)) lm;refine zAO (λ e1=>?_) (λ e1=>?_)
  ·refine wpS_bind (zBG L (st:=setArr st (arrOf st)) hk gl (show lo<(arrOf st).size by lia) (show lo+m - 1<(arrOf st).size by lia) ?_)
   dsimp only;cases z:R ((arrOf st).getD lo d0) ((arrOf st).getD (lo+m - 1) d0) with
   |true=>exact wpS_pure (h m (arrOf st) q1 q2 (Agr.refl _ _ _) q3)
   |false =>
    rw[if_neg 68];have le0:∀j,lo<=j->j<lo+m->R ((arrOf st).getD lo d0) ((arrOf st).getD j d0)=false:=λ j j1 j2=>L.tr _ _ _ (gl _ (zAg 61)) (gl _ (zAg 61)) (gl _ (zAg 61)) z (q3.le L gl 61 j1 61 61);have eq:EqO R (arrOf st) lo (lo+m):=λ i j i1 i2 j1 j2=>L.tr _ _ _ (gl _ (zAg 61)) (gl _ (zAg 61)) (gl _ (zAg 61)) (q3.le L gl 61 (lS _) i1 i2) (le0 j j1 j2)
    have ds:DsO R (arrOf st) lo (lo+m+1):=λ i j i1 ij j2=>by
     by_cases c:j=lo+m
     ·rw[c]
      exact L.tr _ _ _ (gl _ (zAg 61)) (gl _ (zAg 61)) (gl _ (zAg 61)) (eq i (lo+m - 1) i1 61 61 61) gm
     ·exact eq i j i1 61 61 61
    refine wpS_bind (zBq ?_);have ag0:Agr (arrOf st) (mirror (arrOf st) lo (lo+m) ((lo+m - lo) / 2)) lo (lo+nrem):=(zCc 61).wide 61 61;have ds0:=zEe (l:=lo) (lS _) (show lo+m<=lo+(m+1) by lia) 61 ds eq;generalize mirror (arrOf st) lo (lo+m) ((lo+m - lo) / 2)=arr0 at ag0 ds0 ⊢;refine wpS_bind (zCJ ?_)
    refine wpS_bind (wpS_mono (wpS_forRange (I:=λ i (c:Option (Option Nat) × Nat × Nat) st2=>∃arr,st2=setArr st arr/\c.1=none/\c.2.1=i/\c.2.1<=nrem/\Agr (arrOf st) arr lo (lo+nrem)/\DsO R arr lo (lo+c.2.1)/\c.2.2+1<=c.2.1/\EqO R arr (lo+c.2.1 - (c.2.2+1)) (lo+c.2.1)) (Q:=λ c st2=>∃arr,st2=setArr st arr/\c.1=none/\c.2.1<=nrem/\Agr (arrOf st) arr lo (lo+nrem)/\DsO R arr lo (lo+c.2.1)/\c.2.2+1<=c.2.1/\EqO R arr (lo+c.2.1 - (c.2.2+1)) (lo+c.2.1)) ?_ ?_ ⟨arr0,rfl,rfl,rfl,65,ag0,ds0,65,λ i j i1 i2 j1 j2=>by
      dsimp only at i1 i2 j1 j2;have e1:i=lo+m:=by lia
      have e2:j=lo+m:=by lia
      rw[e1,e2];exact zDv L (ag0.gl gl _ (zAg (by have:=ag0.size;lia)))⟩) ?_)
    ·refine λ i=>all3 λ r n q st2 Ω hi hI=>?_
     obtain⟨arr,hI⟩:=hI;refine an8 hI λ hE0 hE1 hE2 q2 ag ds hq eb=>?_;obtain rfl:=hE0;obtain rfl:=hE1;obtain rfl:=hE2;dsimp only at q2 ds hq eb hi ⊢;have ga:=ag.gl gl;have sz:=ag.size;refine wpS_bind (zBG L (st:=setArr st arr) hk ga (show lo+n<arr.size by lia) (show lo+n - 1<arr.size by lia) ?_);dsimp only
     have one:∀{xs:Array Keyed},Agr (arrOf st) xs lo (lo+nrem)->EqO R xs (lo+(n+1) - (0+1)) (lo+(n+1)):=λ{xs} agx i j i1 i2 j1 j2=>by
      have e1:i=lo+n:=by lia
      have e2:j=lo+n:=by lia
      rw[e1,e2];exact zDv L (agx.gl gl _ (zAg (by have:=agx.size;lia)))
     cases z:R (arr.getD (lo+n) d0) (arr.getD (lo+n - 1) d0) with
     |true =>
      have d2:=ds.more L ga 61 61 (L.asym _ _ (ga _ (zAg 61)) (ga _ (zAg 61)) z);rw[if_pos rfl];refine zAO 77 77
      ·have ag3:=ag.trans ((zCc (xs:=arr) (i:=lo+n - (q+1)) (j:=lo+n) 61).wide 61 61)
       exact wpS_bind (zBq (wpS_pure ⟨_,rfl,rfl,rfl,65,ag3,zEe (m:=lo+n+1) 61 61 61 d2 eb,65,one ag3⟩))
      ·exact wpS_pure ⟨_,rfl,rfl,rfl,65,ag,d2,65,one ag⟩
     |false =>
      rw[if_neg 68];refine wpS_bind (zBG L (st:=setArr st arr) hk ga (show lo+n - 1<arr.size by lia) (show lo+n<arr.size by lia) ?_);dsimp only;cases z2:R (arr.getD (lo+n - 1) d0) (arr.getD (lo+n) d0) with
      |true=>exact wpS_pure ⟨_,rfl,rfl,q2,ag,ds,hq,eb⟩
      |false =>
       have d2:=ds.more L ga 61 61 z2;refine wpS_pure ⟨_,rfl,rfl,rfl,65,ag,d2,65,λ i j i1 i2 j1 j2=>?_⟩;dsimp only at i1 i2 j1 j2;have b1:∀i,lo+n - (q+1)<=i->i<lo+n->R (arr.getD i d0) (arr.getD (lo+n) d0)=false:=λ i i1 i2=>L.tr _ _ _ (ga _ (zAg 61)) (ga _ (zAg 61)) (ga _ (zAg 61)) (eb i (lo+n - 1) i1 i2 61 61) z2;have b2:∀i,lo+n - (q+1)<=i->i<lo+n->R (arr.getD (lo+n) d0) (arr.getD i d0)=false:=λ i i1 i2=>L.tr _ _ _ (ga _ (zAg 61)) (ga _ (zAg 61)) (ga _ (zAg 61)) z (eb (lo+n - 1) i 61 61 i1 i2)
       by_cases ci:i=lo+n
       ·by_cases cj:j=lo+n
        ·rw[ci,cj];exact zDv L (ga _ (zAg 61))
        ·rw[ci];exact b2 j 61 61
       ·by_cases cj:j=lo+n
        ·rw[cj];exact b1 i 61 61
        ·exact eb i j 61 61 61 61
    ·refine all3 λ r n q st2 hI=>?_
     obtain⟨arr,hI⟩:=hI;refine an8 hI λ hE0 hE1 q0 q2 ag ds hq eb=>?_;obtain rfl:=hE0;obtain rfl:=hE1;exact⟨arr,rfl,rfl,q2,ag,ds,hq,eb⟩
    refine all3 λ r n2 q st2 hI=>?_;obtain⟨arr,hI⟩:=hI;refine an7 hI λ hE0 hE1 q2 ag ds hq eb=>?_;obtain rfl:=hE0;obtain rfl:=hE1;dsimp only at q2 ds hq eb ⊢;have sz:=ag.size;refine zAO 77 77
    ·have ag3:=ag.trans ((zCc (xs:=arr) (i:=lo+n2 - (q+1)) (j:=lo+n2) 61).wide 61 61)
     have sz3:=ag3.size;have d3:=zEe (l:=lo) 61 (lS (lo+n2)) 61 ds eb;refine wpS_bind (zBq (wpS_bind (zBq ?_)));have ag2:=ag3.trans ((zCc (i:=lo) (j:=lo+n2) 61).wide 61 61);have sg2:=zFN 61 d3;generalize mirror (mirror arr (lo+n2 - (q+1)) (lo+n2) ((lo+n2 - (lo+n2 - (q+1))) / 2)) lo (lo+n2) ((lo+n2 - lo) / 2)=arr2 at ag2 sg2 ⊢;have ga2:=ag2.gl gl;have sz2:=ag2.size;refine wpS_bind 71
     ·refine λ i=>all2 λ r n st2 Ω hi hI=>an6 hI λ hE0 hE1 hE2 q1 q2 q3=>?_
      obtain rfl:=hE0;obtain rfl:=hE1;obtain rfl:=hE2;dsimp only at q1 q2 q3 hi ⊢;refine wpS_bind (zBG L (st:=setArr st arr2) hk ga2 (show lo+n<arr2.size by lia) (show lo+n - 1<arr2.size by lia) ?_);dsimp only;cases z:R (arr2.getD (lo+n) d0) (arr2.getD (lo+n - 1) d0) with
      |true=>exact wpS_pure ⟨rfl,rfl,q1,q2,q3,λ Ω=>z⟩
      |false=>exact wpS_pure ⟨rfl,rfl,rfl,65,65,q3.more (u:=lo+n) L ga2 61 61 z⟩
     ·refine all2 λ r n st2 hI=>an6 hI λ hE0 hE1 q0 q1 q2 q3=>?_
      obtain rfl:=hE0;obtain rfl:=hE1;dsimp only at q0 q1 q2 q3 ⊢;exact⟨rfl,rfl,q1,q2,q3,λ z=>by lia⟩
     refine all2 λ r n st2 hI=>an6 hI λ hE0 hE1 q1 q2 q3 q4=>?_;obtain rfl:=hE0;obtain rfl:=hE1;dsimp only at q1 q2 q3 q4 ⊢;exact wpS_pure (h n arr2 q1 q2 ag2 q3)
    ·refine wpS_bind (zBq ?_)
     have ag2:=ag.trans ((zCc (xs:=arr) (i:=lo) (j:=lo+n2) 61).wide 61 61);have sg2:=zFN 61 ds;generalize mirror arr lo (lo+n2) ((lo+n2 - lo) / 2)=arr2 at ag2 sg2 ⊢;have ga2:=ag2.gl gl;have sz2:=ag2.size;refine wpS_bind 71
     ·refine λ i=>all2 λ r n st2 Ω hi hI=>an6 hI λ hE0 hE1 hE2 q1 q2 q3=>?_
      obtain rfl:=hE0;obtain rfl:=hE1;obtain rfl:=hE2;dsimp only at q1 q2 q3 hi ⊢;refine wpS_bind (zBG L (st:=setArr st arr2) hk ga2 (show lo+n<arr2.size by lia) (show lo+n - 1<arr2.size by lia) ?_);dsimp only;cases z:R (arr2.getD (lo+n) d0) (arr2.getD (lo+n - 1) d0) with
      |true=>exact wpS_pure ⟨rfl,rfl,q1,q2,q3,λ Ω=>z⟩
      |false=>exact wpS_pure ⟨rfl,rfl,rfl,65,65,q3.more (u:=lo+n) L ga2 61 61 z⟩
     ·refine all2 λ r n st2 hI=>an6 hI λ hE0 hE1 q0 q1 q2 q3=>?_
      obtain rfl:=hE0;obtain rfl:=hE1;dsimp only at q0 q1 q2 q3 ⊢;exact⟨rfl,rfl,q1,q2,q3,λ z=>by lia⟩
     refine all2 λ r n st2 hI=>an6 hI λ hE0 hE1 q1 q2 q3 q4=>?_;obtain rfl:=hE0;obtain rfl:=hE1;dsimp only at q1 q2 q3 q4 ⊢;exact wpS_pure (h n arr2 q1 q2 ag2 q3)
  ·have em:m=1:=by lia
   have ag0:=Agr.refl (arrOf st) lo (lo+nrem)
   have ds0:DsO R (arrOf st) lo (lo+(m+1)):=λ i j i1 ij j2=>by
    have c1:i=lo+m - 1:=by lia
    have c2:j=lo+m:=by lia
    rw[c1,c2];exact gm
   have hx:∃arr0,arr0=arrOf st:=72;obtain⟨arr0,harr⟩:=hx;rw[←harr] at ag0 ds0 ⊢;rw[harr] at ag0
   conv at ag0=>arg 2;rw[←harr]
   refine wpS_bind (zCJ ?_)
   refine wpS_bind (wpS_mono (wpS_forRange (I:=λ i (c:Option (Option Nat) × Nat × Nat) st2=>∃arr,st2=setArr st arr/\c.1=none/\c.2.1=i/\c.2.1<=nrem/\Agr (arrOf st) arr lo (lo+nrem)/\DsO R arr lo (lo+c.2.1)/\c.2.2+1<=c.2.1/\EqO R arr (lo+c.2.1 - (c.2.2+1)) (lo+c.2.1)) (Q:=λ c st2=>∃arr,st2=setArr st arr/\c.1=none/\c.2.1<=nrem/\Agr (arrOf st) arr lo (lo+nrem)/\DsO R arr lo (lo+c.2.1)/\c.2.2+1<=c.2.1/\EqO R arr (lo+c.2.1 - (c.2.2+1)) (lo+c.2.1)) ?_ ?_ ⟨arr0,rfl,rfl,rfl,65,ag0,ds0,65,λ i j i1 i2 j1 j2=>by
     dsimp only at i1 i2 j1 j2;have e1:i=lo+m:=by lia
     have e2:j=lo+m:=by lia
     rw[e1,e2];exact zDv L (ag0.gl gl _ (zAg (by have:=ag0.size;lia)))⟩) ?_)
   ·refine λ i=>all3 λ r n q st2 Ω hi hI=>?_
    obtain⟨arr,hI⟩:=hI;refine an8 hI λ hE0 hE1 hE2 q2 ag ds hq eb=>?_;obtain rfl:=hE0;obtain rfl:=hE1;obtain rfl:=hE2;dsimp only at q2 ds hq eb hi ⊢;have ga:=ag.gl gl;have sz:=ag.size;refine wpS_bind (zBG L (st:=setArr st arr) hk ga (show lo+n<arr.size by lia) (show lo+n - 1<arr.size by lia) ?_);dsimp only
    have one:∀{xs:Array Keyed},Agr (arrOf st) xs lo (lo+nrem)->EqO R xs (lo+(n+1) - (0+1)) (lo+(n+1)):=λ{xs} agx i j i1 i2 j1 j2=>by
     have e1:i=lo+n:=by lia
     have e2:j=lo+n:=by lia
     rw[e1,e2];exact zDv L (agx.gl gl _ (zAg (by have:=agx.size;lia)))
    cases z:R (arr.getD (lo+n) d0) (arr.getD (lo+n - 1) d0) with
    |true =>
     have d2:=ds.more L ga 61 61 (L.asym _ _ (ga _ (zAg 61)) (ga _ (zAg 61)) z);rw[if_pos rfl];refine zAO 77 77
     ·have ag3:=ag.trans ((zCc (xs:=arr) (i:=lo+n - (q+1)) (j:=lo+n) 61).wide 61 61)
      exact wpS_bind (zBq (wpS_pure ⟨_,rfl,rfl,rfl,65,ag3,zEe (m:=lo+n+1) 61 61 61 d2 eb,65,one ag3⟩))
     ·exact wpS_pure ⟨_,rfl,rfl,rfl,65,ag,d2,65,one ag⟩
    |false =>
     rw[if_neg 68];refine wpS_bind (zBG L (st:=setArr st arr) hk ga (show lo+n - 1<arr.size by lia) (show lo+n<arr.size by lia) ?_);dsimp only;cases z2:R (arr.getD (lo+n - 1) d0) (arr.getD (lo+n) d0) with
     |true=>exact wpS_pure ⟨_,rfl,rfl,q2,ag,ds,hq,eb⟩
     |false =>
      have d2:=ds.more L ga 61 61 z2;refine wpS_pure ⟨_,rfl,rfl,rfl,65,ag,d2,65,λ i j i1 i2 j1 j2=>?_⟩;dsimp only at i1 i2 j1 j2;have b1:∀i,lo+n - (q+1)<=i->i<lo+n->R (arr.getD i d0) (arr.getD (lo+n) d0)=false:=λ i i1 i2=>L.tr _ _ _ (ga _ (zAg 61)) (ga _ (zAg 61)) (ga _ (zAg 61)) (eb i (lo+n - 1) i1 i2 61 61) z2;have b2:∀i,lo+n - (q+1)<=i->i<lo+n->R (arr.getD (lo+n) d0) (arr.getD i d0)=false:=λ i i1 i2=>L.tr _ _ _ (ga _ (zAg 61)) (ga _ (zAg 61)) (ga _ (zAg 61)) z (eb (lo+n - 1) i 61 61 i1 i2)
      by_cases ci:i=lo+n
      ·by_cases cj:j=lo+n
       ·rw[ci,cj];exact zDv L (ga _ (zAg 61))
       ·rw[ci];exact b2 j 61 61
      ·by_cases cj:j=lo+n
       ·rw[cj];exact b1 i 61 61
       ·exact eb i j 61 61 61 61
   ·refine all3 λ r n q st2 hI=>?_
    obtain⟨arr,hI⟩:=hI;refine an8 hI λ hE0 hE1 q0 q2 ag ds hq eb=>?_;obtain rfl:=hE0;obtain rfl:=hE1;exact⟨arr,rfl,rfl,q2,ag,ds,hq,eb⟩
   refine all3 λ r n2 q st2 hI=>?_;obtain⟨arr,hI⟩:=hI;refine an7 hI λ hE0 hE1 q2 ag ds hq eb=>?_;obtain rfl:=hE0;obtain rfl:=hE1;dsimp only at q2 ds hq eb ⊢;have sz:=ag.size;refine zAO 77 77
   ·have ag3:=ag.trans ((zCc (xs:=arr) (i:=lo+n2 - (q+1)) (j:=lo+n2) 61).wide 61 61)
    have sz3:=ag3.size;have d3:=zEe (l:=lo) 61 (lS (lo+n2)) 61 ds eb;refine wpS_bind (zBq (wpS_bind (zBq ?_)));have ag2:=ag3.trans ((zCc (i:=lo) (j:=lo+n2) 61).wide 61 61);have sg2:=zFN 61 d3;generalize mirror (mirror arr (lo+n2 - (q+1)) (lo+n2) ((lo+n2 - (lo+n2 - (q+1))) / 2)) lo (lo+n2) ((lo+n2 - lo) / 2)=arr2 at ag2 sg2 ⊢;have ga2:=ag2.gl gl;have sz2:=ag2.size;refine wpS_bind 71
    ·refine λ i=>all2 λ r n st2 Ω hi hI=>an6 hI λ hE0 hE1 hE2 q1 q2 q3=>?_
     obtain rfl:=hE0;obtain rfl:=hE1;obtain rfl:=hE2;dsimp only at q1 q2 q3 hi ⊢;refine wpS_bind (zBG L (st:=setArr st arr2) hk ga2 (show lo+n<arr2.size by lia) (show lo+n - 1<arr2.size by lia) ?_);dsimp only;cases z:R (arr2.getD (lo+n) d0) (arr2.getD (lo+n - 1) d0) with
     |true=>exact wpS_pure ⟨rfl,rfl,q1,q2,q3,λ Ω=>z⟩
     |false=>exact wpS_pure ⟨rfl,rfl,rfl,65,65,q3.more (u:=lo+n) L ga2 61 61 z⟩
    ·refine all2 λ r n st2 hI=>an6 hI λ hE0 hE1 q0 q1 q2 q3=>?_
     obtain rfl:=hE0;obtain rfl:=hE1;dsimp only at q0 q1 q2 q3 ⊢;exact⟨rfl,rfl,q1,q2,q3,λ z=>by lia⟩
    refine all2 λ r n st2 hI=>an6 hI λ hE0 hE1 q1 q2 q3 q4=>?_;obtain rfl:=hE0;obtain rfl:=hE1;dsimp only at q1 q2 q3 q4 ⊢;exact wpS_pure (h n arr2 q1 q2 ag2 q3)
   ·refine wpS_bind (zBq ?_)
    have ag2:=ag.trans ((zCc (xs:=arr) (i:=lo) (j:=lo+n2) 61).wide 61 61);have sg2:=zFN 61 ds;generalize mirror arr lo (lo+n2) ((lo+n2 - lo) / 2)=arr2 at ag2 sg2 ⊢;have ga2:=ag2.gl gl;have sz2:=ag2.size;refine wpS_bind 71
    ·refine λ i=>all2 λ r n st2 Ω hi hI=>an6 hI λ hE0 hE1 hE2 q1 q2 q3=>?_
     obtain rfl:=hE0;obtain rfl:=hE1;obtain rfl:=hE2;dsimp only at q1 q2 q3 hi ⊢;refine wpS_bind (zBG L (st:=setArr st arr2) hk ga2 (show lo+n<arr2.size by lia) (show lo+n - 1<arr2.size by lia) ?_);dsimp only;cases z:R (arr2.getD (lo+n) d0) (arr2.getD (lo+n - 1) d0) with
     |true=>exact wpS_pure ⟨rfl,rfl,q1,q2,q3,λ Ω=>z⟩
     |false=>exact wpS_pure ⟨rfl,rfl,rfl,65,65,q3.more (u:=lo+n) L ga2 61 61 z⟩
    ·refine all2 λ r n st2 hI=>an6 hI λ hE0 hE1 q0 q1 q2 q3=>?_
     obtain rfl:=hE0;obtain rfl:=hE1;dsimp only at q0 q1 q2 q3 ⊢;exact⟨rfl,rfl,q1,q2,q3,λ z=>by lia⟩
    refine all2 λ r n st2 hI=>an6 hI λ hE0 hE1 q1 q2 q3 q4=>?_;obtain rfl:=hE0;obtain rfl:=hE1;dsimp only at q1 q2 q3 q4 ⊢;exact wpS_pure (h n arr2 q1 q2 ag2 q3)
end
abbrev Run3:=Nat × Nat × Nat
def CovR:List Run3->Nat->Nat->Prop
 |[],lo,hi=>lo=hi
 |r::rs,lo,hi=>r.1=lo/\0<r.2.1/\CovR rs (lo+r.2.1) hi
theorem CovR.app:∀{a b:List Run3}{lo hi:Nat},CovR (a++b) lo hi↔∃m,CovR a lo m/\CovR b m hi
 |[],b,lo,hi=>by simp[CovR]
 |r::a,b,lo,hi=>by
  simp only[List.cons_append,CovR,CovR.app (a:=a)];constructor
  ·rintro⟨h1,h2,m,h3,h4⟩;exact⟨m,⟨h1,h2,h3⟩,h4⟩
  ·rintro⟨m,⟨h1,h2,h3⟩,h4⟩;exact⟨h1,h2,m,h3,h4⟩
theorem CovR.le:∀{a:List Run3}{lo hi:Nat},CovR a lo hi->lo+a.length<=hi
 |[],lo,hi,h=>by simp[CovR] at h ⊢;lia
 |r::a,lo,hi,h=>by
  obtain⟨h1,h2,h3⟩:=h;have:=h3.le;simp
  lia
theorem CovR.mem:∀{a:List Run3}{lo hi:Nat},CovR a lo hi->∀r∈a,lo<=r.1/\r.1+r.2.1<=hi
 |r::a,lo,hi,⟨h1,h2,h3⟩,x,hx=>by
  have:=h3.le;rcases lO.mp hx with rfl|hx
  ·lia
  ·have:=h3.mem x hx
   lia
section
variable {M:Model}{A:Around}{E:XQ}{s:Shared}{κ:SortKind}{G:Keyed->Prop}{R:Keyed->Keyed->Bool}{a₀:Array Keyed}
structure RunS (κ:SortKind) (R:Keyed->Keyed->Bool) (a₀:Array Keyed) (st:SortSt) (lo:Nat):Prop where
 kind:kindOf st=κ
 fail:failedOf st=none
 perm:(arrOf st).toList.Perm a₀.toList
 cov:CovR (pendingOf st).toList 0 lo
 seg:∀r∈(pendingOf st).toList,SegO R (arrOf st) r.1 (r.1+r.2.1)
theorem RunS.size {st:SortSt}{lo:Nat}(p:RunS κ R a₀ st lo):(arrOf st).size=a₀.size:=by have:=p.perm.length_eq;simpa using this
theorem SegO.same {xs ys:Array Keyed}{l u:Nat}(h:SegO R xs l u) (e:∀j,l<=j->j<u->ys.getD j d0=xs.getD j d0):SegO R ys l u:=λ i j hi hij hj=>by
 rw[e i hi 61,e j 61 hj];exact h i j hi hij hj
theorem RunS.above {st:SortSt}{lo u:Nat}(p:RunS κ R a₀ st lo) {arr:Array Keyed}(ag:Agr (arrOf st) arr lo u):RunS κ R a₀ (setArr st arr) lo :=
 ⟨p.kind,p.fail,ag.perm.trans p.perm,p.cov,λ r hr=>(p.seg r hr).same λ j h1 h2=>ag.out j (.inl (by have:=p.cov.mem r hr;lia))⟩
theorem zMP {p:List Run3}{i:Nat}(h:i+1<p.length):∃pre x y post,p=pre++x::y::post/\pre.length=i:=by
 refine⟨p.take i,p[i],p[i+1],p.drop (i+2),?_,by simp;lia⟩;rw[←List.drop_eq_getElem_cons (i:=i+1) 61,←List.drop_eq_getElem_cons (i:=i) 61,List.take_append_drop]
theorem zDu (L:LtE M A E s κ G R) (ga:∀x∈a₀.toList,G x) {st:SortSt}{lo i:Nat}(p:RunS κ R a₀ st lo) (hlo:lo<=a₀.size) (hi:i+1<(pendingOf st).size) {Q:Bool->SortSt->Prop}
  (h:∀st':SortSt,RunS κ R a₀ st' lo->(pendingOf st').size+1=(pendingOf st).size->(∀j,lo<=j->(arrOf st').getD j d0=(arrOf st).getD j d0)->Q true st'):wpS M A E s (mergeAt' i) Q st:=by
 obtain⟨pre,⟨sa,na,pa⟩,⟨sb,nb,pb⟩,post,ep,el⟩:=zMP (p:=(pendingOf st).toList) (i:=i) (by simpa using hi);have cv:=p.cov;rw[ep] at cv;obtain⟨m,c1,c2,c3,c4,c5,c6⟩:=CovR.app.mp cv;dsimp only at c2 c3 c4 c5 c6;have hle:=c6.le;have g1:(pendingOf st)[i]?=some (sa,na,pa):=by rw[←nH,ep,mT 61,el];simp
 have g2:(pendingOf st)[i+1]?=some (sb,nb,pb):=by rw[←nH,ep,mT 61,el];simp
 have s1:=p.seg (sa,na,pa) (by rw[ep];simp);have s2:=p.seg (sb,nb,pb) (by rw[ep];simp);dsimp only at s1 s2;have sz:=p.size;refine zID L p.kind p.fail (λ x hx=>ga x (p.perm.mem_iff.mp hx)) g1 g2 61 61 c3 c5 (by rw[show sb=sa+na by lia];exact s1) s2 λ arr g pm same sg=>?_
 have en:(((pendingOf st).setIfInBounds i (sa,na+nb,pa)).eraseIdxIfInBounds (i+1)).toList=pre++(sa,na+nb,pa)::post:=by
  rw[Array.toList_eraseIdxIfInBounds,Array.toList_setIfInBounds,ep,List.set_append_right _ _ 61,el,Nat.sub_self];rw[List.eraseIdx_append_of_length_le 61,el,Nat.add_sub_cancel_left];simp
 refine h _ ⟨rfl,rfl,pm.trans p.perm,?_,?_⟩ ?_ λ j hj=>same j (.inr 61)
 ·show CovR (((pendingOf st).setIfInBounds i (sa,na+nb,pa)).eraseIdxIfInBounds (i+1)).toList 0 lo
  rw[en];refine CovR.app.mpr ⟨m,c1,c2,by show 0<na+nb;lia,?_⟩;show CovR post (m+(na+nb)) lo;rw[←Nat.add_assoc];exact c6
 ·intro r hr
  have hr':r∈pre++(sa,na+nb,pa)::post:=by rw[←en];exact hr
  rcases lM.mp hr' with hr'|hr'
  ·have z:=c1.mem r hr'
   exact(p.seg r (by rw[ep];exact mH _ hr')).same λ j h1 h2=>same j (.inl 61)
  ·rcases lO.mp hr' with rfl|hr'
   ·show SegO R arr sa (sa+(na+nb))
    rw[show sa+(na+nb)=sb+nb by lia];exact sg
   ·have z:=c6.mem r hr'
    exact(p.seg r (by rw[ep];simp[hr'])).same λ j h1 h2=>same j (.inr 61)
 ·have:=congrArg List.length en
  have e2:=congrArg List.length ep;simp only[Array.length_toList,mK,mM] at this e2;show (((pendingOf st).setIfInBounds i (sa,na+nb,pa)).eraseIdxIfInBounds (i+1)).size+1=_
  lia
theorem zIP {α:Type}{c:Prop} [Decidable c] {m n:StateT SortSt Sem α}{Q:α->SortSt->Prop}{st:SortSt}(h1:c->wpS M A E s m Q st) (h2:¬c->wpS M A E s n Q st):wpS M A E s (if c then m else n) Q st:=by
 by_cases z:c
 ·rw[if_pos z];exact h1 z
 ·rw[if_neg z];exact h2 z
theorem CovR.of_map:∀{a b:List Run3}{lo hi:Nat},a.map (λ r=>(r.1,r.2.1))=b.map (λ r=>(r.1,r.2.1))->CovR a lo hi->CovR b lo hi
 |[],[],_,_,_,h=>h
 |[],_::_,_,_,e,_=>by simp at e
 |_::_,[],_,_,e,_=>by simp at e
 |r::a,q::b,lo,hi,e,⟨h1,h2,h3⟩=>by
  simp only[mL,List.cons.injEq,Prod.mk.injEq] at e;obtain⟨⟨e1,e2⟩,e3⟩:=e;exact⟨e1▸h1,e2▸h2,e2▸CovR.of_map e3 h3⟩
theorem RunS.push {st:SortSt}{lo n:Nat}(p:RunS κ R a₀ st lo) (hn:0<n) (sg:SegO R (arrOf st) lo (lo+n)):RunS κ R a₀ (setPending st ((pendingOf st).push (lo,n,0))) (lo+n):=by
 refine⟨p.kind,p.fail,p.perm,?_,?_⟩
 ·show CovR ((pendingOf st).push (lo,n,0)).toList 0 (lo+n)
  rw[Array.toList_push];exact CovR.app.mpr ⟨lo,p.cov,rfl,hn,rfl⟩
 ·intro r hr
  have hr':r∈((pendingOf st).push (lo,n,0)).toList:=hr;rw[Array.toList_push] at hr';rcases lM.mp hr' with hr'|hr'
  ·exact p.seg r hr'
  ·rw[mQ] at hr'
   subst hr';exact sg
theorem RunS.modify {st:SortSt}{lo k w:Nat}(p:RunS κ R a₀ st lo):RunS κ R a₀ (setPending st ((pendingOf st).modify k λ x=>(x.1,x.2.1,w))) lo:=by
 have em:((pendingOf st).modify k λ x=>(x.1,x.2.1,w)).toList.map (λ r=>(r.1,r.2.1))=(pendingOf st).toList.map (λ r=>(r.1,r.2.1)):=by
  rw[Array.toList_modify];refine List.ext_getElem? λ j=>?_;rw[mJ,mJ,List.getElem?_modify];cases (pendingOf st).toList[j]? with
  |none=>rfl
  |some x=>by_cases c:k=j<;>simp[c]
 refine⟨p.kind,p.fail,p.perm,p.cov.of_map em.symm,λ r hr=>?_⟩;have hr':(r.1,r.2.1)∈((pendingOf st).modify k λ x=>(x.1,x.2.1,w)).toList.map (λ r=>(r.1,r.2.1)):=mE.mpr ⟨r,hr,rfl⟩;rw[em] at hr';obtain⟨q,hq,e⟩:=mE.mp hr';have:=p.seg q hq;simp only[Prod.mk.injEq] at e;rw[e.1,e.2] at this;exact this
theorem zGi (L:LtE M A E s κ G R) (ga:∀x∈a₀.toList,G x) {st:SortSt}{Q:Unit->SortSt->Prop}(p:RunS κ R a₀ st 0) (h0:0<a₀.size)
  (h:∀st':SortSt,kindOf st'=κ->failedOf st'=none->(arrOf st').toList.Perm a₀.toList->SegO R (arrOf st') 0 a₀.size->Q () st'):wpS M A E s sortRuns' Q st:=by
 rw[sortRuns'_eq];refine wpS_bind (wpS_get ?_);dsimp only;have sz0:=p.size;refine wpS_bind (wpS_mono (wpS_forRange (I:=λ i (c:Option Unit × Nat) st'=>c.1=none/\RunS κ R a₀ st' c.2/\c.2<=a₀.size/\i<=c.2) (Q:=λ c st'=>c.1=none/\RunS κ R a₀ st' a₀.size) ?_ ?_ ⟨rfl,p,mB _,lS _⟩) ?_)
 ·refine λ i=>all2 λ r lo st' Ω hi hI=>an4 hI λ hE0 p' hlo hil=>?_
  obtain rfl:=hE0;dsimp only at p' hlo hil ⊢;have szp:=p'.size
  by_cases c0:lo ≥ (arrOf st).size
  ·rw[if_pos c0]
   have:lo=a₀.size:=by lia
   rw[this] at p' ⊢;exact wpS_pure ⟨rfl,p'⟩
  ·rw[if_neg c0]
   refine wpS_bind (zKs L p'.kind (λ x hx=>ga x (p'.perm.mem_iff.mp hx)) 61 61 λ n arr hn1 hn2 ag sg=>?_);dsimp only;have pa:=p'.above ag;have aga:=ag.size
   by_cases cm:n<minRun' (arrOf st).size (arrOf st).size 0
   ·rw[if_pos cm]
    refine wpS_bind (zCJ ?_);refine wpS_bind (zJ5 L (st:=setArr st' arr) pa.kind (λ x hx=>ga x (pa.perm.mem_iff.mp hx)) (show lo+min ((arrOf st).size - lo) (minRun' (arrOf st).size (arrOf st).size 0)<=arr.size by lia) hn1 61 sg λ arr2 ag2 sg2=>?_);rw[if_neg 68];have p1:RunS κ R a₀ (setArr st' arr2) lo:=pa.above ag2;have sg1:SegO R (arrOf (setArr st' arr2)) lo (lo+min ((arrOf st).size - lo) (minRun' (arrOf st).size (arrOf st).size 0)):=sg2;have hN:0<min ((arrOf st).size - lo) (minRun' (arrOf st).size (arrOf st).size 0):=by lia
    have hN2:lo+min ((arrOf st).size - lo) (minRun' (arrOf st).size (arrOf st).size 0)<=a₀.size:=by lia
    show wpS M A E s _ _ (setArr st' arr2);generalize setArr st' arr2=st1 at p1 sg1 ⊢;generalize min ((arrOf st).size - lo) (minRun' (arrOf st).size (arrOf st).size 0)=N at hN hN2 sg1 ⊢;refine wpS_bind (wpS_get ?_);cases hb:(pendingOf st1).back? with
    |none =>
     dsimp only;refine wpS_bind (wpS_modify (wpS_pure ⟨rfl,p1.push hN sg1,?_,?_⟩))
     ·exact hN2
     ·dsimp only;lia
    |some r3 =>
     obtain⟨s1,n1,o1⟩:=r3;dsimp only;refine wpS_bind (wpS_mono (wpS_forRange (I:=λ i (c:Option Unit × Unit) st2=>c.1=none/\RunS κ R a₀ st2 lo/\SegO R (arrOf st2) lo (lo+N)) (Q:=λ c st2=>c.1=none/\RunS κ R a₀ st2 lo/\SegO R (arrOf st2) lo (lo+N)) ?_ ?_ ⟨rfl,p1,sg1⟩) ?_)
     ·refine λ i2=>all2 λ r u st2 Ω Ω hI=>an3 hI λ hE0 p2 sg2=>?_
      obtain rfl:=hE0;refine wpS_bind (wpS_get ?_)
      by_cases c:(pendingOf st2).size > 1
      ·rw[if_pos c]
       obtain⟨⟨x1,x2,x3⟩,hx⟩:∃x,(pendingOf st2)[(pendingOf st2).size - 2]?=some x:=⟨_,Array.getElem?_eq_getElem 61⟩;rw[hx];dsimp only;refine zIP (λ Ω=>wpS_pure ⟨rfl,p2,sg2⟩) λ Ω=>?_;refine wpS_bind (zDu L ga p2 61 61 λ st3 p3 Ω same=>?_);rw[if_neg 68];exact wpS_pure ⟨rfl,p3,sg2.same λ j h1 h2=>same j h1⟩
      ·rw[if_neg c]
       exact wpS_pure ⟨rfl,p2,sg2⟩
     ·refine all2 λ r u st2 hI=>an3 hI λ hE0 p2 sg2=>?_
      obtain rfl:=hE0;exact⟨rfl,p2,sg2⟩
     refine all2 λ r u st2 hI=>an3 hI λ hE0 p2 sg2=>?_;obtain rfl:=hE0;dsimp only;refine wpS_bind (wpS_modify (wpS_bind (wpS_modify (wpS_pure ⟨rfl,(p2.modify).push hN sg2,?_,?_⟩))))
     ·exact hN2
     ·dsimp only;lia
   ·rw[if_neg cm]
    have p1:=pa;have sg1:SegO R (arrOf (setArr st' arr)) lo (lo+n):=sg;have hN:0<n:=hn1;have hN2:lo+n<=a₀.size:=by lia
    generalize setArr st' arr=st1 at p1 sg1 ⊢;refine wpS_bind (wpS_get ?_);cases hb:(pendingOf st1).back? with
    |none =>
     dsimp only;refine wpS_bind (wpS_modify (wpS_pure ⟨rfl,p1.push hN sg1,?_,?_⟩))
     ·exact hN2
     ·dsimp only;lia
    |some r3 =>
     obtain⟨s1,n1,o1⟩:=r3;dsimp only;refine wpS_bind (wpS_mono (wpS_forRange (I:=λ i (c:Option Unit × Unit) st2=>c.1=none/\RunS κ R a₀ st2 lo/\SegO R (arrOf st2) lo (lo+n)) (Q:=λ c st2=>c.1=none/\RunS κ R a₀ st2 lo/\SegO R (arrOf st2) lo (lo+n)) ?_ ?_ ⟨rfl,p1,sg1⟩) ?_)
     ·refine λ i2=>all2 λ r u st2 Ω Ω hI=>an3 hI λ hE0 p2 sg2=>?_
      obtain rfl:=hE0;refine wpS_bind (wpS_get ?_)
      by_cases c:(pendingOf st2).size > 1
      ·rw[if_pos c]
       obtain⟨⟨x1,x2,x3⟩,hx⟩:∃x,(pendingOf st2)[(pendingOf st2).size - 2]?=some x:=⟨_,Array.getElem?_eq_getElem 61⟩;rw[hx];dsimp only;refine zIP (λ Ω=>wpS_pure ⟨rfl,p2,sg2⟩) λ Ω=>?_;refine wpS_bind (zDu L ga p2 61 61 λ st3 p3 Ω same=>?_);rw[if_neg 68];exact wpS_pure ⟨rfl,p3,sg2.same λ j h1 h2=>same j h1⟩
      ·rw[if_neg c]
       exact wpS_pure ⟨rfl,p2,sg2⟩
     ·refine all2 λ r u st2 hI=>an3 hI λ hE0 p2 sg2=>?_
      obtain rfl:=hE0;exact⟨rfl,p2,sg2⟩
     refine all2 λ r u st2 hI=>an3 hI λ hE0 p2 sg2=>?_;obtain rfl:=hE0;dsimp only;refine wpS_bind (wpS_modify (wpS_bind (wpS_modify (wpS_pure ⟨rfl,(p2.modify).push hN sg2,?_,?_⟩))))
     ·exact hN2
     ·dsimp only;lia
 ·refine all2 λ r lo st' hI=>an4 hI λ hE0 p' hlo hil=>?_
  obtain rfl:=hE0;dsimp only at p' hlo hil ⊢;have:lo=a₀.size:=by lia
  rw[this] at p';exact⟨rfl,p'⟩
 refine all2 λ r lo st' hI=>?_;obtain⟨rfl,p'⟩:=hI;dsimp only
 have hend:∀st2,RunS κ R a₀ st2 a₀.size->(pendingOf st2).size<=1->Q () st2:=λ st2 p2 hs=>by
  refine h st2 p2.kind p2.fail p2.perm ?_;have cv:=p2.cov;have sg:=p2.seg;have hs':(pendingOf st2).toList.length<=1:=by simpa using hs
  match hp:(pendingOf st2).toList,hs' with
  |[],_ =>
   rw[hp] at cv;simp[CovR] at cv
   lia
  |[x],_ =>
   rw[hp] at cv sg;obtain⟨c1,c2,c3⟩:=cv;have:=sg x lP;rw[c1] at this;have c3':0+x.2.1=a₀.size:=c3;rw[c3'] at this;exact this
  |_::_::_,z=>simp at z
 have sz':(pendingOf st').size<=a₀.size:=by have:=p'.cov.le;simpa using this
 refine wpS_bind (wpS_mono (wpS_forRange (I:=λ i (c:Option Unit × Unit) st2=>c.1=none/\RunS κ R a₀ st2 a₀.size/\(pendingOf st2).size+i<=a₀.size) (Q:=λ c st2=>c.1=none/\RunS κ R a₀ st2 a₀.size/\(pendingOf st2).size<=1) ?_ ?_ ⟨rfl,p',sz'⟩) ?_)
 ·refine λ i=>all2 λ r u st2 Ω hi hI=>an3 hI λ hE0 p2 hc=>?_
  obtain rfl:=hE0;refine wpS_bind (wpS_get ?_)
  by_cases c:(pendingOf st2).size<=1
  ·rw[if_pos c]
   exact wpS_pure ⟨rfl,p2,c⟩
  ·rw[if_neg c]
   refine wpS_bind (zDu L ga p2 (lS _) ?_ λ st3 p3 hs Ω=>?_)
   ·have ite_le:∀(b:Prop) [Decidable b] (x:Nat),(if b then x - 1 else x)<=x:=λ b Ω x=>by split<;>lia
    refine Nat.lt_of_le_of_lt (Nat.succ_le_succ (ite_le _ _)) ?_
    lia
   ·rw[if_neg 68]
    exact wpS_pure ⟨rfl,p3,by lia⟩
 ·refine all2 λ r u st2 hI=>an3 hI λ hE0 p2 hc=>?_
  obtain rfl:=hE0;exact⟨rfl,p2,by lia⟩
 refine all2 λ r u st2 hI=>an3 hI λ hE0 p2 hs=>?_;obtain rfl:=hE0;exact wpS_pure (hend st2 p2 hs)
end
section
variable {prog:Program}{w:World}{A:Around}{E:XQ}{s:Shared}{κ:SortKind}{G:Keyed->Prop}{R:Keyed->Keyed->Bool}
theorem zMn (hlt:∀x y,G x->G y->∀(E':XQ) (Q:Bool->Shared->Prop),Q (R x y) s->wpAny 90 A (keyLt' κ x.1 y.1) Q E' s)
  (asym:∀x y,G x->G y->R x y=true->R y x=false) (tr:∀x y z,G x->G y->G z->R x y=false->R y z=false->R x z=false):LtE 90 A E s κ G R :=
 ⟨λ x y gx gy st Q hk h=>by
  rw[lt'_eq];refine wpS_bind (wpS_get ?_);rw[hk];exact wpS_bind (wpS_lift (wpAny_attempt (hlt x y gx gy _ _ ⟨rfl,wpS_pure h⟩))),asym,tr⟩
theorem zG7 (vs:List Value):(vs.toArray.zip vs.toArray).toList=vs.map λ v=>(v,v):=by
 simp only[Array.toList_zip]
 induction vs with
 |nil=>rfl
 |cons v vs ih=>simpa using ih
theorem zFU {a:Addr}{vs:List Value}{n:Nat}{P:PySem.Fin->Shared->Prop}(Kd:SortKind->Prop) (ho:s.heap.get? a=some (seqObj "list" vs.toArray n)) (hz:vs.length<=1000)
  (hk:∀h':Heap,(∀b x,s.heap.IsTuple b x->h'.IsTuple b x)->2<=vs.length->∀Q:SortKind->Shared->Prop,(∀κ,Kd κ->Q κ { s with heap:=h' })->wpAny 90 A (keyKind' vs.toArray) Q E { s with heap:=h' })
  (hL:∀h':Heap,(∀b x,s.heap.IsTuple b x->h'.IsTuple b x)->∀κ,Kd κ->LtE 90 A E { s with heap:=h' } κ G R) (hG:∀v∈vs,G (v,v))
  (h:∀ws:List Value,ws.Perm vs->ws.Pairwise (λ x y=>R (y,y) (x,x)=false)->P (.done (.ret .none)) { s with heap:=sortedHeap s.heap a vs ws.toArray }) :
  wpAny 90 A (Builtin.«list.sort» ⟨[.ref a],[]⟩) P E s:=by
 have zl:vs.length<=sizeLine:=Nat.le_of_lt (zAR hz);rw[list_sort_plain];have ha:a<s.heap.objs.size:=lJ ho;refine lC (listItems_at ho rfl (lC (listUpdate_at ho rfl ?_ (by rw[mF];exact zl) (mB _))));obtain⟨e1,ho1⟩:∃e1,(s.heap.update a (Obj.mapSeq λ Ω=>#[])).get? a=some (seqObj "list" #[] e1):=⟨_,get?_update_seq ho (λ Ω=>#[])⟩;refine lC (seqEpoch_at ho1 rfl (lC (wpAny_newTuple ?_ (by show vs.length<=_;exact zl))));refine lC (wpAny_newList ?_ (mB _));refine lG ?_;have ho6:(((s.heap.update a (Obj.mapSeq λ Ω=>#[])).push (seqObj "tuple" vs.toArray 0)).push (seqObj "list" #[] 0)).get? a=some (seqObj "list" #[] e1):=by rw[Heap.get?_push_ne _ _ _ (by rw[size_push',Heap.size_update];exact lT (Nat.lt_succ_of_lt ha)),Heap.get?_push_ne _ _ _ (by rw[Heap.size_update];exact lT ha)];exact ho1
 have keep:∀b x,s.heap.IsTuple b x->(((s.heap.update a (Obj.mapSeq λ Ω=>#[])).push (seqObj "tuple" vs.toArray 0)).push (seqObj "list" #[] 0)).IsTuple b x:=λ b x hb=>zII (λ b o hc hb=>by
  have hne:b≠a:=λ z=>by
   rw[z,ho] at hb;cases hb;injection hc with hh
   exact absurd hh 69
  exact lH _ (lH _ (by rw[Heap.get?_update_ne _ _ _ _ hne];exact hb))) hb
 show wpAny 90 A _ P E { s with heap:=((s.heap.update a (Obj.mapSeq λ Ω=>#[])).push (seqObj "tuple" vs.toArray 0)).push (seqObj "list" #[] 0) };dsimp only
 have outs:∀arr:Array Keyed,arr.toList.Perm (vs.map λ v=>(v,v))->∃ws:List Value,ws.Perm vs/\arr.map (·.2)=ws.toArray/\arr.toList=ws.map λ v=>(v,v):=λ arr pm=>by
  refine⟨arr.toList.map (·.2),?_,?_,?_⟩
  ·have:=pm.map (·.2)
   rw[nQ] at this;have e:((λ x:Keyed=>x.2) ∘ λ v:Value=>(v,v))=id:=rfl;rw[e,List.map_id] at this;exact this
  ·rw[←Array.toList_map]
  ·rw[nQ]
   refine(List.map_id _).symm.trans (List.map_congr_left λ x hx=>?_);obtain⟨v,_,rfl⟩:=mE.mp (pm.mem_iff.mp hx);rfl
 by_cases h2:vs.toArray.size<2
 ·rw[if_pos h2,if_pos h2]
  refine lC (lD ?_);rw[StateT.run_pure];refine lC (lD ?_);dsimp only;have h2':vs.length<2:=by simpa using h2
  have hid:(arrOf (SortSt.mk' general' (vs.toArray.zip vs.toArray) #[] 7 none)).map (·.2)=vs.toArray:=by
   show (vs.toArray.zip vs.toArray).map (·.2)=_;rw[zKF h2']
   match vs,h2' with
   |[],_=>rfl
   |[x],_=>simp[List.range_succ]
  rw[hid];refine lC (seqEpoch_at ho6 rfl ?_);refine lC (listUpdate_at ho6 rfl ?_ (mB _) (by rw[mF];lia));simp only[bne_self_eq_false,Bool.false_eq_true,if_false];refine lD (h vs (.refl _) ?_)
  match vs,h2' with
  |[],_=>exact List.Pairwise.nil
  |[x],_=>exact List.pairwise_singleton _ _
 ·rw[if_neg h2,if_neg h2]
  have h2':2<=vs.length:=by simpa using h2
  refine lC (hk _ keep h2' _ λ κ hκ=>?_);have L:=hL _ keep κ hκ
  have ga:∀x∈(vs.toArray.zip vs.toArray).toList,G x:=λ x hx=>by
   rw[zG7] at hx;obtain⟨v,hv,rfl⟩:=mE.mp hx;exact hG v hv
  show wpAny 90 A ((sortRuns').run (SortSt.mk' κ (vs.toArray.zip vs.toArray) #[] 7 none) >>= _) P E _
  have sr:=zGi L (a₀:=vs.toArray.zip vs.toArray) ga (st:=SortSt.mk' κ (vs.toArray.zip vs.toArray) #[] 7 none) (Q:=λ Ω st'=>failedOf st'=none/\(arrOf st').toList.Perm (vs.map λ v=>(v,v))/\SegO R (arrOf st') 0 vs.length) ⟨rfl,rfl,.refl _,rfl,λ r hr=>by cases hr⟩ (by simp;lia) λ st' Ω q2 q3 q4=>⟨q2,by rw[zG7] at q3;exact q3,by
   have:(vs.toArray.zip vs.toArray).size=vs.length:=by simp
   rw[this] at q4;exact q4⟩
  refine lC (wpAny_mono sr ?_ λ Ω Ω e=>e);rintro⟨⟨⟩,st'⟩ s' ⟨rfl,hf,pm,sg⟩;dsimp only at hf pm sg ⊢;obtain⟨ws,pw,ew,el⟩:=outs (arrOf st') pm;have szw:ws.length=vs.length:=pw.length_eq;have sza:(arrOf st').size=vs.length:=by have:=pm.length_eq;simpa using this
  rw[ew];refine lC (seqEpoch_at ho6 rfl ?_);refine lC (listUpdate_at ho6 rfl ?_ (mB _) (by rw[mF,szw];lia));rw[hf];simp only[bne_self_eq_false,Bool.false_eq_true,if_false];refine lD (h ws pw ?_);have ol:OL R (arrOf st').toList:=ol_of λ i j hij hj=>sg i j (mB _) hij 61;rw[el] at ol;unfold OL at ol;rw[List.pairwise_map] at ol;exact ol
end
open Classical in
noncomputable def dtOf (h:Heap) (v:Value):Dt:=if e:∃d,DA h d v then e.choose else .tup []
theorem zFR {h:Heap}{v:Value}{ns ms:List Int}(a:PlcAt h v ns) (b:PlcAt h v ms):ns=ms:=by
 obtain⟨p,c,u,its,rfl,h1,h2,h3⟩:=a;obtain⟨p',c',u',its',e,k1,k2,k3⟩:=b;cases e;have e1:=zGL h1 k1
 have e2:Value.ref c=Value.ref c':=by
  have:=congrArg (λ z:Array Value=>z[0]?) e1;simpa using this
 cases e2;have e3:=zGL h2 k2;subst e3;have:=h3.nums;rw[k3.nums] at this;exact this.symm
open Classical in
noncomputable def plcOf (h:Heap) (v:Value):List Int:=if e:∃ns,PlcAt h v ns then e.choose else []
theorem zCw {h:Heap}{v:Value}{ns:List Int}(r:PlcAt h v ns):plcOf h v=ns:=by
 unfold plcOf;have e:∃ns,PlcAt h v ns:=⟨ns,r⟩;rw[dif_pos e];exact zFR e.choose_spec r
theorem zKh {a b c:List Int}(h:lexB a b=false) (k:lexB b c=false):lexB a c=false:=by
 by_cases e1:a=b
 ·rw[e1];exact k
 by_cases e2:b=c
 ·rw[←e2];exact h
 exact zDf (zFB (zEF e2 k) (zEF e1 h))
theorem zFQ {α β:Type}{R:α->β->Prop}:∀{as:List α}{bs:List β},Paired R as bs->∀{a:α},a∈as->∃b∈bs,R a b
 |_,_,.cons r t,a,ha=>by
  rcases lO.mp ha with rfl|ha
  ·exact⟨_,lP,r⟩
  ·obtain⟨b,hb,q⟩:=zFQ t ha
   exact⟨b,lQ _ hb,q⟩
theorem zKL {α β:Type}{R:α->β->Prop}{as' as:List α}(p:as'.Perm as):∀{bs:List β},Paired R as bs->∃bs',bs'.Perm bs/\Paired R as' bs':=by
 induction p with
 |nil=>intro bs h;exact⟨bs,.refl _,h⟩
 |cons x _ ih =>
  intro bs h;cases h with
  |cons r t =>
   obtain⟨bs',pb,q⟩:=ih t;exact⟨_,pb.cons _,.cons r q⟩
 |swap x y l =>
  intro bs h;cases h with
  |cons r t=>cases t with
   |cons r2 t=>exact⟨_,.swap _ _ _,.cons r2 (.cons r t)⟩
 |trans _ _ ih1 ih2 =>
  intro bs h;obtain⟨b2,p2,q2⟩:=ih2 h;obtain⟨b1,p1,q1⟩:=ih1 q2;exact⟨b1,p1.trans p2,q1⟩
section
variable {prog:Program}{w:World}{A:Around}{E:XQ}{s:Shared}
theorem zLi {x y:Value}{ns ms:List Int}{Q:Bool->Shared->Prop}(hx:PlcAt s.heap x ns) (hy:PlcAt s.heap y ms) (hne:ns=ms->x=y) (hu:A.units<cLine) (h:Q (lexB ns ms) s):wpAny 90 A (keyLt' (tuples' false) x y) Q E s:=by
 by_cases e:ns=ms
 ·have:=hne e
  subst this;subst e;rw[zGC] at h;obtain⟨a,c,u,its,rfl,⟨o,ho,hc,n,hd⟩,hp,hi⟩:=hx;refine kat_lt ho hd ho hd ?_;show KatLex prog w A false (decide ((2:Nat)<2)) Q [(.ref c,.ref c),(u,u)] 0 s;refine kat_cons (SeqAt.EqAt.same _ prog w _ _ (kat_yes (kat_cons (SeqAt.EqAt.same _ prog w _ _ (kat_yes (kat_nil ?_))))));exact h
 ·exact zMX hx hy e hu h
theorem zEv {a:Addr}{vs:List Value}{ps:List (List Int)}{n:Nat}{P:PySem.Fin->Shared->Prop}(ho:s.heap.get? a=some (seqObj "list" vs.toArray n)) (hp:Paired (PlcAt s.heap) vs ps) (nd:ps.Nodup) (hz:vs.length<=1000) (hu:A.units<cLine)
  (h:∀ws:List Value,ws.Perm vs->ws.Pairwise (λ x y=>lexB (plcOf s.heap y) (plcOf s.heap x)=false)->P (.done (.ret .none)) { s with heap:=sortedHeap s.heap a vs ws.toArray }) :
  wpAny 90 A (Builtin.«list.sort» ⟨[.ref a],[]⟩) P E s:=by
 have kpd:∀{h':Heap},(∀b x,s.heap.IsTuple b x->h'.IsTuple b x)->∀{v:Value}{ns:List Int},PlcAt s.heap v ns->PlcAt h' v ns:=λ kp v ns ⟨a,c,u,its,e,h1,h2,h3⟩=>⟨a,c,u,its,e,kp _ _ h1,kp _ _ h2,h3⟩
 have inj:∀{x y:Value}{ns:List Int},x∈vs->y∈vs->PlcAt s.heap x ns->PlcAt s.heap y ns->x=y:=λ{x y ns} mx my px py=>by
  obtain⟨i,hi,ei⟩:=List.getElem_of_mem mx;obtain⟨j,hj,ej⟩:=List.getElem_of_mem my;have hl:=hp.length;have q1:=zIo hp (i:=i) hi;have q2:=zIo hp (i:=j) hj;have g1:vs.getD i Value.none=x:=by simp[hi,ei]
  have g2:vs.getD j Value.none=y:=by simp[hj,ej]
  rw[g1] at q1;rw[g2] at q2;have e1:=zFR px q1;have e2:=zFR py q2;have l1:i<ps.length:=by lia
  have l2:j<ps.length:=by lia
  have e3:ps[i]=ps[j]:=by
   have a1:ps.getD i []=ps[i]:=by simp[l1]
   have a2:ps.getD j []=ps[j]:=by simp[l2]
   rw[←a1,←a2,←e1,←e2]
  have:=(List.getElem_inj nd).mp e3;subst this;rw[←ei,←ej]
 refine zFU (G:=λ x=>x.1∈vs) (R:=λ x y=>lexB (plcOf s.heap x.1) (plcOf s.heap y.1)) (λ κ=>κ=tuples' false) ho hz (λ h' kp h2 Q q=>?_) (λ h' kp κ hκ=>?_) (λ v hv=>hv) λ ws pw od=>h ws pw od
 ·have hp':Paired (PlcAt h') vs ps:=Paired.mapP hp λ Ω Ω z=>kpd kp z
  obtain⟨fs,t1,t2,t3⟩:=zHX (prog:=prog) (w:=w) hp';exact kat_kind (T:=.type "tuple") (s:={ s with heap:=h' }) t1 61 t3 69 (q _ rfl)
 ·subst hκ
  refine zMn (λ x y gx gy E' Q q=>?_) (λ x y Ω Ω=>zDf) λ x y z Ω Ω Ω=>zKh;obtain⟨ns,_,rx⟩:=zFQ hp gx;obtain⟨ms,_,ry⟩:=zFQ hp gy;rw[zCw rx,zCw ry] at q;exact zLi (s:={ s with heap:=h' }) (kpd kp rx) (kpd kp ry) (λ e=>inj gx gy (e▸rx) ry) hu q
end
section
variable {X:Cx}
def zLd:List V->Hp->VK->Prop:=λ xs H Q=>E3 λ(l:Addr) (vs:List V) (ps:List (List Int × V))=>A6 (xs=[.ref l]) (H l=some (.lst vs)) (Paired (PlV H) ps vs) ((ps.map (·.1)).Nodup) (ps.length<=1000) (∀(l':Addr) (ws:List V) (qs:List (List Int × V)),H l'=none->Paired (PlV H) qs ws->qs.Perm ps->qs.Pairwise (λ a b=>lexB a.1 b.1=true)->Q (.ref l') (upd H l' (.lst ws)))
theorem zEW {α β:Type}{R:α->β->Prop}:∀{as:List α}{bs:List β}{i:Nat}{b:β},Paired R as bs->bs[i]?=some b->∃a,as[i]?=some a/\R a b
 |_,_,0,_,.cons r _,e=>⟨_,rfl,by cases e;exact r⟩
 |_,_,i+1,_,.cons _ t,e=>by
  obtain⟨a,ha,q⟩:=zEW t (i:=i) (by simpa using e);exact⟨a,by simpa using ha,q⟩
theorem zHh {H:Hp}:∀{ws:List Value}{qs:List (List Int × V)},Paired (λ u p=>∃v,RelV v u/\PlV H p v) ws qs->∃vs,Vals vs ws/\Paired (PlV H) qs vs
 |_,_,.nil=>⟨[],.nil,.nil⟩
 |_,_,.cons ⟨v,r,p⟩ t=>by
  obtain⟨vs,a,b⟩:=zHh t;exact⟨v::vs,.cons r a,.cons p b⟩
theorem zFp {H:Hp}:∀{ps:List (List Int × V)}{vs:List V}{us:List Value},Paired (PlV H) ps vs->Vals vs us->Paired (λ u p=>∃v,RelV v u/\PlV H p v) us ps
 |_,_,_,.nil,r=>by cases r;exact .nil
 |_,_,_,.cons p q,r=>by
  cases r with
  |cons r1 r2=>exact .cons ⟨_,r1,p⟩ (zFp q r2)
theorem zIt {H:Hp}{P:Program}{w:World}{h:Heap}(ok:HOk P w H h):∀{ws:List Value}{qs:List (List Int × V)},Paired (λ u p=>∃v,RelV v u/\PlV H p v) ws qs->(qs.map (·.1)).Nodup->ws.Pairwise (λ x y=>lexB (plcOf h y) (plcOf h x)=false)->qs.Pairwise (λ a b=>lexB a.1 b.1=true)
 |_,_,.nil,_,_=>.nil
 |_,_,.cons (b:=q) ⟨v,r,p⟩ t,nd,od=>by
  rw[mL,rA] at nd;rw[List.pairwise_cons] at od;refine .cons (λ q' hq'=>?_) (zIt ok t nd.2 od.2);obtain⟨i,hi,rfl⟩:=List.getElem_of_mem hq';have hl:=Paired.length t;obtain⟨b,hb,v',r',p'⟩:=zEW t (lY hi);have e1:=zCw (zHY ok p r);have e2:=zCw (zHY ok p' r');have:=od.1 b (lN hb);rw[e1,e2] at this;exact zEF (λ z=>nd.1 (mE.mpr ⟨_,hq',z⟩)) this
theorem zFf (hu:X.A.units+150<cLine):CallR X (.builtin "sorted") zLd:=by
 intro jP s σ H xs us Q I r h;obtain⟨l,vs,ps,rfl,hl,hp,nd,hz,q⟩:=h;obtain⟨u,rfl,ru⟩:=vals1 r;cases ru;obtain⟨_,its,n0,rv,hlen,el⟩:=I.lstM hl;have hlv:its.length=vs.length:=rv.length.symm;have hlp:ps.length=vs.length:=Paired.length hp;have line:its.length<=sizeLine:=Nat.le_of_lt (zAR 61);refine Calls.call_function_entry kind_sorted plain_sorted entry_sorted (args_sorted1 _) ?_;unfold Builtin.«sorted»;refine lC (m:=checkCount "sorted" 1 1 _) (lD ?_);have hL:s.heap.IsList l its.toArray:=⟨_,el,rfl,_,rfl⟩;refine lC (collect_list hL ?_ (by simpa using line));refine lC (wpAny_newList ?_ (by simpa using line))
 have keep1:∀b o,s.heap.get? b=some o->((s.heap.push (seqObj "list" #[] 0)).update s.heap.objs.size (Obj.mapSeq (·++its.toArray))).get? b=some o:=λ b o q=>by
  have hlt:b<s.heap.objs.size:=lJ q;rw[Heap.get?_update_ne _ _ _ _ (Nat.ne_of_lt hlt)];exact lH _ q
 show wpAny _ _ _ _ _ { s with heap:=((s.heap.push (seqObj "list" #[] 0)).update s.heap.objs.size (Obj.mapSeq (·++its.toArray))).push { cls:=.type "list", data:=.seq its.toArray } };generalize (s.heap.push (seqObj "list" #[] 0)).update s.heap.objs.size (Obj.mapSeq (·++its.toArray))=h1 at keep1 ⊢;have I1:Inv X jP σ H { s with heap:=h1 }:=I.kept (t':=s.toks) keep1;have hoL:(h1.push { cls:=.type "list", data:=.seq its.toArray }).get? h1.objs.size=some (seqObj "list" its.toArray 0):=lI _ rfl;have hplc:Paired (PlcAt (h1.push { cls:=.type "list", data:=.seq its.toArray })) its (ps.map (·.1)):=zF3 (λ b o Ω e=>lH _ e) (zIn I1.hok hp rv);refine lC (lG (wpAny_call_entry slot_list_sort ⟨_,hoL,rfl⟩ entry_list_sort (zEv hoL hplc nd 61 (by show X.A.units+1+1<cLine;lia) λ ws pw od=>⟨_,rfl,?_⟩) (args_list_sort _)));obtain⟨qs,pq,hq⟩:=zKL pw (zFp hp rv);obtain⟨zs,r1,r2⟩:=zHh hq;obtain⟨e,he⟩:∃e,(sortedHeap (h1.push { cls:=.type "list", data:=.seq its.toArray }) h1.objs.size its ws.toArray).get? h1.objs.size=some (seqObj "list" ws.toArray e):=sortedHeap_at hoL;have hn1:=I1.hok.fresh (lS h1.objs.size);refine lD ⟨_,rfl,⟨.ref h1.objs.size,upd H h1.objs.size (.lst zs),I1.laid (t':=s.toks) (a:=h1.objs.size) (o:=.lst zs) (λ b o hb=>?_) (lS _) ⟨?_,_,e,r1,?_⟩,rfl,q _ zs qs hn1 r2 pq (zIt I1.hok hq ((pq.map _).nodup_iff.mpr nd) (od.imp_of_mem λ{x y} hx hy z=>?_))⟩⟩
 ·rw[sortedHeap_old (Nat.ne_of_lt (Heap.lt_size hb)) (by rw[Heap.size_push];exact Nat.lt_succ_of_lt (lJ hb))]
  exact lH _ hb
 ·rw[r1.length,pw.length_eq]
  exact line
 ·rw[he]
 ·have e:∀u∈ws,plcOf (h1.push { cls:=.type "list", data:=.seq its.toArray }) u=plcOf h1 u:=λ u hu=>by
   obtain⟨q1,_,v',r',p'⟩:=zFQ hq hu;have c1:=zHY I1.hok p' r';rw[zCw c1,zCw (c1.kept λ b o Ω e=>Heap.get?_push_of_some _ e)]
  rw[e x hx,e y hy] at z;exact z
end
theorem zAG {α:Type}{F:α->V->Prop}{as:List α}{us:List V}(h:Paired F as us):us.length=as.length:=h.length.symm
theorem zHe:∀{ts:List Tr}{t:Tr},t∈ts->t.size<=(ts.map Tr.size).sum
 |a::ts,t,h=>by
  rw[mL,List.sum_cons];rcases lO.mp h with rfl|h
  ·lia
  ·have:=zHe h
   lia
theorem zBy (t:Tr):(t.parts.map Tr.size).sum+1=t.size:=by
 cases t<;>simp[Tr.parts,Tr.size]<;>lia
theorem zAv {t p:Tr}(h:p∈t.parts):p.size+1<=t.size:=by
 have:=zHe h;have:=zBy t
 lia
theorem zA3 (t:Tr):1<=t.size:=by cases t<;>simp[Tr.size]
noncomputable def szT (ts:List Tr):Nat:=(ts.map Tr.size).sum
theorem zA2 (a b:List Tr):szT (a++b)=szT a+szT b:=by simp[szT]
theorem zAh (a:Tr) (b:List Tr):szT (a::b)=a.size+szT b:=by simp[szT]
theorem zBS:szT []=0:=rfl
theorem zB8:∀ts:List Tr,ts.length<=szT ts
 |[]=>lS _
 |t::ts=>by
  rw[zAh,mM];have:=zB8 ts;have:=zA3 t
  lia
theorem zHE (L:List Tr) (i:Nat):szT (L.take i)<=szT L:=by
 have e:szT L=szT (L.take i)+szT (L.drop i):=by rw[←zA2,List.take_append_drop]
 lia
theorem zCd (t:Tr):szT t.parts+1=t.size:=zBy t
noncomputable def Tr.subs:Tr->List Tr
 |.say a=>.say a::a.subs
 |.bin o a b=>.bin o a b::(a.subs++b.subs)
 |.ite a b c=>.ite a b c::(a.subs++(b.subs++c.subs))
 |.lett x a b=>.lett x a b::(a.subs++b.subs)
 |t=>[t]
theorem zB9 (t:Tr):t.subs=t::t.parts.flatMap Tr.subs:=by
 cases t<;>simp[Tr.subs,Tr.parts]
theorem zDW:∀L:List Tr,szT (L.flatMap Tr.parts)+L.length=szT L
 |[]=>rfl
 |t::L=>by
  have ih:=zDW L;have:=zCd t;rw[rD,zA2,zAh,mM]
  lia
theorem zE6:∀L:List Tr,(L.flatMap Tr.subs).Perm (L++(L.flatMap Tr.parts).flatMap Tr.subs)
 |[]=>.refl _
 |t::L=>by
  rw[rD,zB9 t,List.cons_append,List.cons_append,rD,nJ];refine .cons _ ?_;refine((zE6 L).append_left _).trans ?_;rw[←mX,←mX];exact List.perm_append_comm.append_right _
abbrev PlT:=List Int × Tr
noncomputable def kidsP (x:PlT):List PlT:=x.2.parts.zipIdx.map λ q=>(x.1++[(q.2:Int)],q.1)
noncomputable def psub:List Int->Tr->List PlT
 |pl,.say a=>(pl,.say a)::psub (pl++[0]) a
 |pl,.bin o a b=>(pl,.bin o a b)::(psub (pl++[0]) a++psub (pl++[1]) b)
 |pl,.ite a b c=>(pl,.ite a b c)::(psub (pl++[0]) a++(psub (pl++[1]) b++psub (pl++[2]) c))
 |pl,.lett x a b=>(pl,.lett x a b)::(psub (pl++[0]) a++psub (pl++[1]) b)
 |pl,.num n=>[(pl,.num n)]
 |pl,.name n=>[(pl,.name n)]
 |pl,.ask n=>[(pl,.ask n)]
 |pl,.stop n=>[(pl,.stop n)]
 |pl,.gap n as=>[(pl,.gap n as)]
theorem zEO (pl:List Int) (t:Tr):psub pl t=(pl,t)::(kidsP (pl,t)).flatMap λ x=>psub x.1 x.2:=by
 cases t<;>simp[psub,kidsP,Tr.parts,List.zipIdx]
theorem zBu:∀(t:Tr) (pl:List Int),(psub pl t).map (·.2)=t.subs
 |.say a,pl=>by simp[psub,Tr.subs,zBu a]
 |.bin o a b,pl=>by simp[psub,Tr.subs,zBu a,zBu b]
 |.ite a b c,pl=>by simp[psub,Tr.subs,zBu a,zBu b,zBu c]
 |.lett x a b,pl=>by simp[psub,Tr.subs,zBu a,zBu b]
 |.num _,_=>rfl
 |.name _,_=>rfl
 |.ask _,_=>rfl
 |.stop _,_=>rfl
 |.gap _ _,_=>rfl
theorem zBQ:∀(t:Tr) (pl:List Int),(psub pl t).length=t.size
 |.say a,pl=>by simp[psub,Tr.size,zBQ a]
 |.bin o a b,pl=>by simp[psub,Tr.size,zBQ a,zBQ b]
 |.ite a b c,pl=>by simp[psub,Tr.size,zBQ a,zBQ b,zBQ c];lia
 |.lett x a b,pl=>by simp[psub,Tr.size,zBQ a,zBQ b]
 |.num _,_=>rfl
 |.name _,_=>rfl
 |.ask _,_=>rfl
 |.stop _,_=>rfl
 |.gap _ _,_=>rfl
theorem zCv:∀(t:Tr) (pl:List Int),∀p∈(psub pl t).map (·.1),∃r,p=pl++r:=by
 have one:∀{pl p:List Int}{i:Int},(∃r,p=pl++[i]++r)->∃r,p=pl++r:=λ{pl p i} h=>by
  obtain⟨r,e⟩:=h;exact⟨[i]++r,by rw[e,mX]⟩
 intro t
 induction t with
 |say a ih =>
  intro pl p hp;simp only[psub,mL] at hp;rcases lO.mp hp with rfl|hp
  ·exact⟨[],by simp⟩
  ·exact one (ih _ p hp)
 |bin o a b iha ihb =>
  intro pl p hp;simp only[psub,mL,mP] at hp;rcases lO.mp hp with rfl|hp
  ·exact⟨[],by simp⟩
  ·rcases lM.mp hp with hp|hp
   ·exact one (iha _ p hp)
   ·exact one (ihb _ p hp)
 |ite a b c iha ihb ihc =>
  intro pl p hp;simp only[psub,mL,mP] at hp;rcases lO.mp hp with rfl|hp
  ·exact⟨[],by simp⟩
  ·rcases lM.mp hp with hp|hp
   ·exact one (iha _ p hp)
   ·rcases lM.mp hp with hp|hp
    ·exact one (ihb _ p hp)
    ·exact one (ihc _ p hp)
 |lett x a b iha ihb =>
  intro pl p hp;simp only[psub,mL,mP] at hp;rcases lO.mp hp with rfl|hp
  ·exact⟨[],by simp⟩
  ·rcases lM.mp hp with hp|hp
   ·exact one (iha _ p hp)
   ·exact one (ihb _ p hp)
 |_ =>
  intro pl p hp;simp[psub] at hp;exact⟨[],by simp[hp]⟩
theorem zDa {t u:Tr}{pl:List Int}{i j:Int}(ne:i≠j):∀p∈(psub (pl++[i]) t).map (·.1),∀q∈(psub (pl++[j]) u).map (·.1),p≠q:=λ p hp q hq e=>by
 obtain⟨r,rfl⟩:=zCv t _ p hp;obtain⟨r',e'⟩:=zCv u _ q hq;rw[e'] at e;rw[mX,mX] at e;have:=List.append_cancel_left e;simp at this;exact ne this.1
theorem zB7 {t:Tr}{pl:List Int}{i:Int}:pl∉(psub (pl++[i]) t).map (·.1):=λ h=>by
 obtain⟨r,e⟩:=zCv t _ _ h;have:=congrArg List.length e;simp at this
theorem zCX:∀(t:Tr) (pl:List Int),((psub pl t).map (·.1)).Nodup
 |.say a,pl=>by
  simp only[psub,mL,rA];exact⟨zB7,zCX a _⟩
 |.bin o a b,pl=>by
  simp only[psub,mL,rA,mP,List.nodup_append,nL,not_or];exact⟨⟨zB7,zB7⟩,zCX a _,zCX b _,zDa 69⟩
 |.lett x a b,pl=>by
  simp only[psub,mL,rA,mP,List.nodup_append,nL,not_or];exact⟨⟨zB7,zB7⟩,zCX a _,zCX b _,zDa 69⟩
 |.ite a b c,pl=>by
  simp only[psub,mL,rA,mP,List.nodup_append,nL,not_or];refine⟨⟨zB7,zB7,zB7⟩,zCX a _,⟨zCX b _,zCX c _,zDa 69⟩,λ p hp q hq=>?_⟩;rcases hq with hq|hq
  ·exact zDa 69 p hp q hq
  ·exact zDa 69 p hp q hq
 |.num _,_=>by simp[psub]
 |.name _,_=>by simp[psub]
 |.ask _,_=>by simp[psub]
 |.stop _,_=>by simp[psub]
 |.gap _ _,_=>by simp[psub]
noncomputable def allP (L:List PlT):List PlT:=L.flatMap λ x=>psub x.1 x.2
theorem zFK:∀L:List PlT,(allP L).Perm (L++allP (L.flatMap kidsP))
 |[]=>.nil
 |x::L=>by
  have ih:=zFK L;unfold allP at ih ⊢;rw[rD,zEO,rD,nJ,List.cons_append,List.cons_append];refine List.Perm.cons _ ?_;refine(ih.append_left _).trans ?_;rw[←mX,←mX];exact List.Perm.append_right _ List.perm_append_comm
theorem zGG {pl:List Int}{t:Tr}{j:Nat}{c:Tr}(h:t.parts[j]?=some c):(kidsP (pl,t))[j]?=some (pl++[(j:Int)],c):=by
 unfold kidsP;rw[mJ,List.getElem?_zipIdx];simp[h]
theorem zGF (pl:List Int) (t:Tr):(kidsP (pl,t)).length=t.parts.length:=by simp[kidsP]
noncomputable def szP (L:List PlT):Nat:=szT (L.map (·.2))
theorem zJU (x:PlT):(kidsP x).map (·.2)=x.2.parts:=by
 unfold kidsP;rw[nQ];have:((λ x:PlT=>x.2) ∘ λ q:Tr × Nat=>(x.1++[(q.2:Int)],q.1))=Prod.fst:=rfl;rw[this,List.zipIdx_map_fst]
theorem zFm (L:List PlT):szP (L.flatMap kidsP)+L.length=szP L:=by
 have:=zDW (L.map (·.2));unfold szP;rw[List.map_flatMap]
 have e:(L.flatMap λ x=>(kidsP x).map (·.2))=(L.map (·.2)).flatMap Tr.parts:=by
  rw[List.flatMap_map];congr 1;funext x;exact zJU x
 rw[e];rw[lE] at this;exact this
theorem zLY (L:List PlT):L.length<=szP L:=by have:=zB8 (L.map (·.2));rw[lE] at this;exact this
theorem zF5 (t:Tr):t.parts.length<=3:=by cases t<;>simp[Tr.parts]
theorem zKv (L:List PlT):(allP L).length=szP L:=by
 induction L with
 |nil=>rfl
 |cons x L ih =>
  unfold allP at ih ⊢;unfold szP at ih ⊢;rw[rD,mK,ih,mL,zAh,zBQ]
theorem zHf:∀(pl:List Int) (i:Int) (r:List Int),lexB pl (pl++i::r)=true
 |[],_,_=>rfl
 |a::pl,i,r=>by rw[List.cons_append,lexB,if_pos rfl];exact zHf pl i r
theorem zGD:∀(pl:List Int) {i j:Int}(r r':List Int),i<j->lexB (pl++i::r) (pl++j::r')=true
 |[],i,j,r,r',h=>by
  rw[List.nil_append,List.nil_append,lexB,if_neg 61];exact lW h
 |a::pl,i,j,r,r',h=>by rw[List.cons_append,List.cons_append,lexB,if_pos rfl];exact zGD pl r r' h
theorem zCq {t:Tr}{pl:List Int}{i:Int}:∀p∈(psub (pl++[i]) t).map (·.1),lexB pl p=true:=λ p hp=>by
 obtain⟨r,rfl⟩:=zCv t _ p hp;rw[mX];exact zHf pl i r
theorem zEk {t u:Tr}{pl:List Int}{i j:Int}(h:i<j):∀p∈(psub (pl++[i]) t).map (·.1),∀q∈(psub (pl++[j]) u).map (·.1),lexB p q=true:=λ p hp q hq=>by
 obtain⟨r,rfl⟩:=zCv t _ p hp;obtain⟨r',rfl⟩:=zCv u _ q hq;rw[mX,mX];exact zGD pl r r' h
theorem zBv:∀(t:Tr) (pl:List Int),((psub pl t).map (·.1)).Pairwise λ a b=>lexB a b=true
 |.say a,pl=>by
  simp only[psub,mL,List.pairwise_cons];exact⟨zCq,zBv a _⟩
 |.bin o a b,pl=>by
  simp only[psub,mL,List.pairwise_cons,mP,List.pairwise_append];exact⟨λ p hp=>(lM.mp hp).elim (zCq p) (zCq p),zBv a _,zBv b _,zEk 69⟩
 |.lett x a b,pl=>by
  simp only[psub,mL,List.pairwise_cons,mP,List.pairwise_append];exact⟨λ p hp=>(lM.mp hp).elim (zCq p) (zCq p),zBv a _,zBv b _,zEk 69⟩
 |.ite a b c,pl=>by
  simp only[psub,mL,List.pairwise_cons,mP,List.pairwise_append];refine⟨λ p hp=>(lM.mp hp).elim (zCq p) λ hp=>(lM.mp hp).elim (zCq p) (zCq p),zBv a _,⟨zBv b _,zBv c _,zEk 69⟩,λ p hp q hq=>?_⟩;exact(lM.mp hq).elim (zEk 69 p hp q) (zEk 69 p hp q)
 |.num _,_=>by simp[psub]
 |.name _,_=>by simp[psub]
 |.ask _,_=>by simp[psub]
 |.stop _,_=>by simp[psub]
 |.gap _ _,_=>by simp[psub]
theorem Same.seqT {K:W.Frag}{H H':Hp}(g:Same H H') {a:Addr}{xs:List V}(h:SqT K H a xs):SqT K H' a xs:=by
 rcases h with (h|⟨o,h⟩)|h
 ·exact .inl (.inl (g _ _ h))
 ·exact .inl (.inr ⟨o,g _ _ h⟩)
 ·exact .inr h
def SbD (d:Addr) (H H':Hp):Prop:=∀b o,b≠d->H b=some o->H' b=some o
theorem SbD.trans {d:Addr}{H H1 H2:Hp}(a:SbD d H H1) (b:SbD d H1 H2):SbD d H H2:=λ c o n h=>b c o n (a c o n h)
theorem Same.sd {d:Addr}{H H':Hp}(h:Same H H'):SbD d H H':=λ b o Ω e=>h b o e
theorem SbD.set {d:Addr}{H:Hp}(o:HO):SbD d H (upd H d o):=λ b u n e=>by rw[zAd n];exact e
theorem SbD.tk {d:Addr}{H H':Hp}(h:SbD d H H') {kvs:List (Key × V)}(e:H d=some (.dK kvs)):Tk H H':=λ b xs hb=>h b _ (λ z=>by rw[z,e] at hb;cases hb) hb
noncomputable def loudV:List V:=[.str "say", .str "ask", .str "stop"]
noncomputable def Kd.loud:Kd->Bool
 |.say=>true|.ask=>true|.stop=>true|_=>false
theorem zJj (k:Kd):inV (.str k.s) loudV=k.loud:=by cases k<;>right
def zGc (K:W.Frag) (lv:Addr):Prop:=∃(o:Obj) (its:Array Value) (n:Nat),K.lookup lv=some o/\o.cls = .type "tuple" /\ o.data = .seq its n/\its.size<=sizeLine/\Vals loudV its.toList
def QuT (t:Tr):Prop:=∀p∈t.subs,p.kd.loud=false/\¬p.kd = .gap
def Nul (H:Hp) (b:Addr):Prop:=∃o:Obj,H b=some (.frz o (.tup []))/\o.dict=none
theorem Nul.same {H H':Hp}{b:Addr}(g:Same H H'):Nul H b->Nul H' b
 |⟨o,h,d⟩=>⟨o,g _ _ h,d⟩
theorem Nul.sq {K:W.Frag}{H:Hp}{b:Addr}:Nul H b->SqT K H b []
 |⟨o,h,_⟩=>.inl (.inr ⟨o,h⟩)
structure FnD1 (P:Program) (w:World) (K:W.Frag) (mg:Str->Option Value) (base:Heap) (k:Nat) (x:Str) (f:Addr) (fd:FuncData) (ps:List Str) (sp:Sp):Prop where
 ok:FnOk P w K mg base CX0 k f fd ps sp
 bd0:Binds K fd ps []
 bd1:Binds K fd ps [.none]
 kp:W.keepIn K (.ref f)=true
 gl:mg x=some (.ref f)
theorem FnD1.up {P:Program}{w:World}{K:W.Frag}{mg:Str->Option Value}{base:Heap}{j k:Nat}{x:Str}{f:Addr}{fd:FuncData}{ps:List Str}{sp:Sp}(F:FnD1 P w K mg base j x f fd ps sp) (h:j<=k):FnD1 P w K mg base k x f fd ps sp:=⟨F.ok.mono h,F.bd0,F.bd1,F.kp,F.gl⟩
noncomputable def kdV (kds:List (Str × Str)):List (Key × V):=kds.map λ p=>((Sum.inr p.1:Key),V.str p.2)
theorem zCZ {H H':Hp}(k:Tk H H') {y:V}{kv:Key × V}:PrV H y kv->PrV H' y kv
 |⟨b,e,h⟩=>⟨b,e,k _ _ h⟩
def KdsAt (H:Hp) (ka:Addr) (kds:List (Str × Str)):Prop:=∃(o:Obj) (ys:List V),H ka=some (.frz o (.tup ys))/\o.dict=none/\Paired (PrV H) ys (kdV kds)
theorem KdsAt.mono {H H':Hp}(g:Same H H') {ka:Addr}{kds:List (Str × Str)}:KdsAt H ka kds->KdsAt H' ka kds
 |⟨o,ys,h1,h2,h3⟩=>⟨o,ys,g _ _ h1,h2,Paired.mapP h3 λ Ω Ω z=>zCZ g.tk z⟩
def OfK (kd:V) (t:Tr):Prop:=kd = .non\/(kd = .str "quiet" /\ QuT t)\/(kd = .str "number" /\ t.kd = .num)
def NoG (t:Tr):Prop:=∀p∈t.subs,¬p.kd = .gap
def HdA (s t:Tr):Prop:=s.kd=t.kd/\(s.kd.leaf=true->s=t)
noncomputable def pz (s t:Tr):List (Tr × Tr):=s.parts.zip t.parts
inductive Oc:Tr->Tr->Str->Tr->Prop
 |here {g:Str}{as:List Atom}{t:Tr}:Oc (.gap g as) t g t
 |part {s t p q u:Tr}{g:Str}:¬s.kd = .gap->(p,q)∈pz s t->Oc p q g u->Oc s t g u
inductive Bd:Tr->Tr->Prop
 |here {s t:Tr}:¬s.kd = .gap->¬HdA s t->Bd s t
 |part {s t p q:Tr}:¬s.kd = .gap->(p,q)∈pz s t->Bd p q->Bd s t
theorem zF8 {g g':Str}{as:List Atom}{t u:Tr}(h:Oc (.gap g as) t g' u):g'=g/\u=t:=by
 cases h with
 |here=>exact⟨rfl,rfl⟩
 |part n _ _=>exact absurd rfl n
theorem oc_in {s t u:Tr}{g:Str}(n:¬s.kd = .gap):Oc s t g u↔∃x∈pz s t,Oc x.1 x.2 g u:=by
 constructor
 ·intro h
  cases h with
  |here=>exact absurd rfl n
  |part _ m o=>exact⟨_,m,o⟩
 ·rintro⟨x,m,o⟩
  exact .part n m o
structure Jn (κ:Str->V) (P:List (Tr × Tr)) (φ:List (Str × Tr)):Prop where
 nb:∀x∈P,¬Bd x.1 x.2
 ok:∀x∈P,∀g u,Oc x.1 x.2 g u->OfK (κ g) u
 cs:∀x∈P,∀g u,Oc x.1 x.2 g u->∀y∈P,∀u',Oc y.1 y.2 g u'->bare u []=bare u' []
 cf:∀x∈P,∀g u,Oc x.1 x.2 g u->∀u',(g,u')∈φ->bare u []=bare u' []
def Fits (κ:Str->V) (s t:Tr):Prop:=Jn κ [(s,t)] []
theorem Jn.mem {κ:Str->V}{P P':List (Tr × Tr)}{φ:List (Str × Tr)}(h:∀x,x∈P'->x∈P) (j:Jn κ P φ):Jn κ P' φ :=
 ⟨λ x hx=>j.nb x (h x hx),λ x hx=>j.ok x (h x hx),λ x hx g u o y hy=>j.cs x (h x hx) g u o y (h y hy),λ x hx=>j.cf x (h x hx)⟩
theorem Jn.iff {κ:Str->V}{P P':List (Tr × Tr)}{φ:List (Str × Tr)}(h:∀x,x∈P'↔x∈P):Jn κ P φ↔Jn κ P' φ:=⟨Jn.mem λ x=>(h x).mp,Jn.mem λ x=>(h x).mpr⟩
theorem Jn.nil {κ:Str->V}{φ:List (Str × Tr)}:Jn κ [] φ:=⟨(λ x h=>nomatch h),(λ x h=>nomatch h),(λ x h=>nomatch h),(λ x h=>nomatch h)⟩
theorem zJc {κ:Str->V}{s t:Tr}{P:List (Tr × Tr)}{φ:List (Str × Tr)}(n:¬s.kd = .gap) (h:¬HdA s t):¬Jn κ ((s,t)::P) φ:=λ j=>j.nb _ lP (.here n h)
theorem jn_in {κ:Str->V}{s t:Tr}{P:List (Tr × Tr)}{φ:List (Str × Tr)}(n:¬s.kd = .gap) (h:HdA s t):Jn κ ((s,t)::P) φ↔Jn κ (P++pz s t) φ:=by
 have oc:∀g u,(∃x∈(s,t)::P,Oc x.1 x.2 g u)↔∃x∈P++pz s t,Oc x.1 x.2 g u:=λ g u=>by
  constructor
  ·rintro⟨x,hx,o⟩
   rcases lO.mp hx with rfl|hx
   ·obtain⟨y,hy,o⟩:=(oc_in n).mp o
    exact⟨y,mD _ hy,o⟩
   ·exact⟨x,mH _ hx,o⟩
  ·rintro⟨x,hx,o⟩
   rcases lM.mp hx with hx|hx
   ·exact⟨x,lQ _ hx,o⟩
   ·exact⟨_,lP,(oc_in n).mpr ⟨x,hx,o⟩⟩
 have two:∀{P Q:List (Tr × Tr)},(∀g u,(∃x∈P,Oc x.1 x.2 g u)↔∃x∈Q,Oc x.1 x.2 g u)->(∀x∈Q,¬Bd x.1 x.2)->Jn κ P φ->Jn κ Q φ:=λ e nb j =>
  ⟨nb,λ x hx g u o=>let ⟨y,hy,o'⟩:=(e g u).mpr ⟨x,hx,o⟩;j.ok y hy g u o',λ x hx g u o z hz u' oz=>let ⟨y,hy,o'⟩:=(e g u).mpr ⟨x,hx,o⟩;let ⟨y2,hy2,o2⟩:=(e g u').mpr ⟨z,hz,oz⟩;j.cs y hy g u o' y2 hy2 u' o2,
  λ x hx g u o=>let ⟨y,hy,o'⟩:=(e g u).mpr ⟨x,hx,o⟩;j.cf y hy g u o'⟩
 constructor
 ·intro j
  refine two oc (λ x hx b=>?_) j;rcases lM.mp hx with hx|hx
  ·exact j.nb x (lQ _ hx) b
  ·exact j.nb _ lP (.part n hx b)
 ·intro j
  refine two (λ g u=>(oc g u).symm) (λ x hx b=>?_) j;rcases lO.mp hx with rfl|hx
  ·cases b with
   |here _ nh=>exact nh h
   |part _ m b=>exact j.nb _ (mD _ m) b
  ·exact j.nb x (mH _ hx) b
theorem zHi {κ:Str->V}{g:Str}{as:List Atom}{t:Tr}{P:List (Tr × Tr)}{φ φ':List (Str × Tr)}(hk:OfK (κ g) t) (hf:∀u',(g,u')∈φ->bare t []=bare u' []) (h1:∀p∈φ,p∈φ') (h2:∀p∈φ',p∈φ\/p=(g,t)) (h3:∃u',(g,u')∈φ'/\bare t []=bare u' []):Jn κ ((.gap g as,t)::P) φ↔Jn κ P φ':=by
 constructor
 ·intro j
  refine⟨λ x hx=>j.nb x (lQ _ hx),λ x hx=>j.ok x (lQ _ hx),λ x hx g u o y hy=>j.cs x (lQ _ hx) g u o y (lQ _ hy),λ x hx g' u o u' hu'=>?_⟩;rcases h2 _ hu' with z|z
  ·exact j.cf x (lQ _ hx) g' u o u' z
  ·cases z
   exact j.cs x (lQ _ hx) g u o _ lP t .here
 ·intro j
  obtain⟨u0,hu0,e0⟩:=h3;have one:∀x∈P,∀u,Oc x.1 x.2 g u->bare u []=bare t []:=λ x hx u o=>(j.cf x hx g u o u0 hu0).trans e0.symm;refine⟨λ x hx b=>?_,λ x hx g' u o=>?_,λ x hx g' u o y hy u' o'=>?_,λ x hx g' u o u' hu'=>?_⟩
  ·rcases lO.mp hx with rfl|hx
   ·cases b with
    |here n _=>exact n rfl
    |part n _ _=>exact n rfl
   ·exact j.nb x hx b
  ·rcases lO.mp hx with rfl|hx
   ·obtain⟨rfl,rfl⟩:=zF8 o
    exact hk
   ·exact j.ok x hx g' u o
  ·rcases lO.mp hx with rfl|hx1
   ·obtain⟨rfl,rfl⟩:=zF8 o
    rcases lO.mp hy with rfl|hy1
    ·obtain⟨_,rfl⟩:=zF8 o'
     rfl
    ·exact(one y hy1 u' o').symm
   ·rcases lO.mp hy with rfl|hy1
    ·obtain⟨rfl,rfl⟩:=zF8 o'
     exact one x hx1 u o
    ·exact j.cs x hx1 g' u o y hy1 u' o'
  ·rcases lO.mp hx with rfl|hx
   ·obtain⟨rfl,rfl⟩:=zF8 o
    exact hf u' hu'
   ·exact j.cf x hx g' u o u' (h1 _ hu')
theorem zJb {κ:Str->V}{g:Str}{as:List Atom}{t:Tr}{P:List (Tr × Tr)}{φ:List (Str × Tr)}(hk:¬OfK (κ g) t):¬Jn κ ((.gap g as,t)::P) φ:=λ j=>hk (j.ok _ lP g t .here)
theorem zGJ {κ:Str->V}{g:Str}{as:List Atom}{t u:Tr}{P:List (Tr × Tr)}{φ:List (Str × Tr)}(h:(g,u)∈φ) (n:¬bare t []=bare u []):¬Jn κ ((.gap g as,t)::P) φ:=λ j=>n (j.cf _ lP g t .here u h)
def PcR1 (H:Hp) (t:Tr) (v:V):Prop:=∃p nt u,v = .ref p/\H p=some (.tup [.ref nt,u])/\H nt=some (.tup [])/\Rep H t u
theorem PcR1.mono {H H':Hp}(k:Tk H H') {t:Tr}{v:V}:PcR1 H t v->PcR1 H' t v
 |⟨p,nt,u,e,h1,h2,r⟩=>⟨p,nt,u,e,k _ _ h1,k _ _ h2,r.mono k⟩
structure FlR (H:Hp) (φ:List (Str × Tr)) (kvs:List (Key × V)):Prop where
 pr:Paired (λ(q:Str × Tr) (kv:Key × V)=>kv.1=Sum.inr q.1/\PcR1 H q.2 kv.2) φ kvs
 nd:(φ.map (·.1)).Nodup
 sz:∀q∈φ,q.2.size<=300
theorem FlR.mono {H H':Hp}(k:Tk H H') {φ:List (Str × Tr)}{kvs:List (Key × V)}(h:FlR H φ kvs):FlR H' φ kvs:=⟨Paired.mapP h.pr λ Ω Ω z=>⟨z.1,z.2.mono k⟩,h.nd,h.sz⟩
theorem FlR.no {H:Hp}{g:Str}:∀{φ:List (Str × Tr)}{kvs:List (Key × V)},Paired (λ(q:Str × Tr) (kv:Key × V)=>kv.1=Sum.inr q.1/\PcR1 H q.2 kv.2) φ kvs->valV kvs (Sum.inr g:Key)=none->∀u,(g,u)∉φ
 |_,_,.nil,_,u,h=>nomatch h
 | (x,t)::φ,kv::kvs,.cons r q,e,u,h=>by
  by_cases c:kv.1=(Sum.inr g:Key)
  ·rw[zBB c] at e
   cases e
  ·rw[zBC c] at e
   rcases lO.mp h with z|z
   ·cases z
    exact c r.1
   ·exact FlR.no q e u z
theorem FlR.at {H:Hp}{g:Str}{v:V}:∀{φ:List (Str × Tr)}{kvs:List (Key × V)},Paired (λ(q:Str × Tr) (kv:Key × V)=>kv.1=Sum.inr q.1/\PcR1 H q.2 kv.2) φ kvs->valV kvs (Sum.inr g:Key)=some v->∃t,(g,t)∈φ/\PcR1 H t v
 |_,_,.nil,e=>by cases e
 | (x,t)::φ,kv::kvs,.cons r q,e=>by
  by_cases c:kv.1=(Sum.inr g:Key)
  ·rw[zBB c] at e
   cases e;have:x=g:=Sum.inr.inj (r.1.symm.trans c);subst this;exact⟨t,lP,r.2⟩
  ·rw[zBC c] at e
   obtain⟨t',m,p⟩:=FlR.at q e;exact⟨t',lQ _ m,p⟩
theorem zLG {φ:List (Str × Tr)}(nd:(φ.map (·.1)).Nodup) {g:Str}{t u:Tr}(h:(g,t)∈φ) (k:(g,u)∈φ):t=u:=by
 induction φ with
 |nil=>cases h
 |cons p φ ih =>
  rw[mL,rA] at nd;rcases lO.mp h with h1|h1<;>rcases lO.mp k with k1|k1
  ·rw[←h1] at k1
   exact(Prod.mk.inj k1).2.symm
  ·rw[←h1] at nd
   exact absurd (mE.mpr ⟨(g,u),k1,rfl⟩) nd.1
  ·rw[←k1] at nd
   exact absurd (mE.mpr ⟨(g,t),h1,rfl⟩) nd.1
  ·exact ih nd.2 h1 k1
theorem FlR.put {H:Hp}{φ:List (Str × Tr)}{kvs:List (Key × V)}(h:FlR H φ kvs) {g:Str}{t:Tr}{v:V}(e:valV kvs (Sum.inr g:Key)=none) (r:PcR1 H t v) (hz:t.size<=300):FlR H (φ++[(g,t)]) (putK kvs (Sum.inr g) v):=by
 rw[zKK _ e];refine⟨Paired.snoc h.pr ⟨rfl,r⟩,?_,λ q hq=>?_⟩
 ·rw[mP,List.nodup_append]
  refine⟨h.nd,by simp,λ a ha b hb=>?_⟩;rw[mQ.mp hb];rintro rfl;obtain⟨q,hq,rfl⟩:=mE.mp ha;exact FlR.no h.pr e _ hq
 ·rcases lM.mp hq with z|z
  ·exact h.sz q z
  ·rw[mQ.mp z]
   exact hz
noncomputable def lfD:Tr->List Dt
 |.num n=>[.str "num", .int n]
 |.ask x=>[.str "ask", .str x]
 |.stop x=>[.str "stop", .str x]
 |_=>[]
def LfN (t:Tr):Prop:=t.kd = .num\/t.kd = .ask\/t.kd = .stop
theorem zEE {t:Tr}(h:LfN t):(∃n,t = .num n)\/(∃x,t = .ask x)\/∃x,t = .stop x:=by
 cases t with
 |num n=>exact .inl ⟨n,rfl⟩
 |ask x=>exact .inr (.inl ⟨x,rfl⟩)
 |stop x=>exact .inr (.inr ⟨x,rfl⟩)
 |bin o a b=>rcases h with h|h|h<;>(cases o<;>cases h)
 |_=>rcases h with h|h|h<;>cases h
theorem lf_dr {H:Hp}{t:Tr}{v:V}(h:LfN t) (r:Rep H t v):DR H (.tup (lfD t)) v:=by
 rcases zEE h with ⟨n,rfl⟩|⟨x,rfl⟩|⟨x,rfl⟩
 ·obtain⟨a,rfl,e⟩:=r;exact .tup e (.cons (.str _) (.cons (.int _) .nil))
 ·obtain⟨a,rfl,e⟩:=r;exact .tup e (.cons (.str _) (.cons (.str _) .nil))
 ·obtain⟨a,rfl,e⟩:=r;exact .tup e (.cons (.str _) (.cons (.str _) .nil))
theorem zMo {s t:Tr}(hs:LfN s) (ht:LfN t):lfD s=lfD t↔s=t:=by
 constructor
 ·intro e
  rcases zEE hs with ⟨n,rfl⟩|⟨x,rfl⟩|⟨x,rfl⟩<;>rcases zEE ht with ⟨m,rfl⟩|⟨y,rfl⟩|⟨y,rfl⟩<;>first
   | (injection e with _ e;injection e with e;injection e with e;subst e;rfl)
   | (injection e with e;injection e with e;exact absurd e (by right))
 ·rintro rfl;rfl
theorem zJO {t:Tr}(h:t.kd.leaf=true) (n1:¬t.kd = .gap) (n2:¬t.kd = .name):LfN t:=by
 cases t with
 |num n=>exact .inl rfl
 |ask x=>exact .inr (.inl rfl)
 |stop x=>exact .inr (.inr rfl)
 |gap g as=>exact absurd rfl n1
 |name x=>exact absurd rfl n2
 |bin o a b=>cases o<;>cases h
 |_=>cases h
def PlS (s:Tr):Prop:=∀p∈s.subs,¬p.kd = .lett/\¬p.kd = .name/\∀g as,p = .gap g as->as=[]
theorem zBj (s:Tr):s∈s.subs:=by rw[zB9];exact lP
theorem zDX {s p x:Tr}(h:p∈s.parts) (hx:x∈p.subs):x∈s.subs:=by
 rw[zB9];exact lQ _ (mW.mpr ⟨p,h,hx⟩)
theorem PlS.part {s p:Tr}(h:PlS s) (hp:p∈s.parts):PlS p:=λ x hx=>h x (zDX hp hx)
theorem NoG.part {s p:Tr}(h:NoG s) (hp:p∈s.parts):NoG p:=λ x hx=>h x (zDX hp hx)
def Pok (x:Tr × Tr):Prop:=PlS x.1/\NoG x.2/\x.2.size<=300
open Classical in
noncomputable def kidZ (x:Tr × Tr):List (Tr × Tr):=if x.1.kd = .gap then [] else pz x.1 x.2
noncomputable def szX (L:List (Tr × Tr)):Nat:=szT (L.map (·.1))
theorem zMV {s t:Tr}{x:Tr × Tr}(h:x∈pz s t):x.1∈s.parts/\x.2∈t.parts:=⟨(List.of_mem_zip h).1,(List.of_mem_zip h).2⟩
theorem Pok.pz {s t:Tr}(h:Pok (s,t)) {x:Tr × Tr}(hx:x∈pz s t):Pok x:=by
 obtain⟨h1,h2⟩:=zMV hx;have:=zAv h2;exact⟨h.1.part h1,h.2.1.part h2,by have:=h.2.2;dsimp only at this;lia⟩
theorem zFL (a b:List (Tr × Tr)):szX (a++b)=szX a+szX b:=by simp[szX,zA2]
theorem zHD (x:Tr × Tr) (b:List (Tr × Tr)):szX (x::b)=x.1.size+szX b:=by simp[szX,zAh]
theorem zIW (L:List (Tr × Tr)):L.length<=szX L:=by have:=zB8 (L.map (·.1));rwa [lE] at this
theorem zKy (s t:Tr):szX (pz s t)+1<=s.size:=by
 have h:=zCd s;unfold szX pz
 have:∀(a b:List Tr),szT ((a.zip b).map (·.1))<=szT a:=by
  intro a
  induction a with
  |nil=>intro b;simp[szT]
  |cons x a ih =>
   intro b;cases b with
   |nil=>simp[szT]
   |cons y b =>
    have:=ih b;rw[List.zip_cons_cons,mL,zAh,zAh];show x.size+_<=_
    lia
 have:=this s.parts t.parts
 lia
def Fl2 (b:Addr) (H:Hp) (x:Tr × Tr) (v:V):Prop:=∃a u w,v = .ref a/\H a=some (.tup [u,w,.ref b])/\Rep H x.1 u/\Rep H x.2 w
theorem Fl2.mono {b:Addr}{H H':Hp}(k:Tk H H') {x:Tr × Tr}{v:V}:Fl2 b H x v->Fl2 b H' x v
 |⟨a,u,w,e,h,r1,r2⟩=>⟨a,u,w,e,k _ _ h,r1.mono k,r2.mono k⟩
noncomputable def wKd (kds:List (Str × Str)) (g:Str):V:=(valV (zAt [] (kdV kds)) (Sum.inr g:Key)).getD .non
theorem SbD.put {d x:Addr}{H H':Hp}(h:SbD d H H') (hx:H x=none) (o:HO):SbD d H (upd H' x o):=λ b u n e=>by rw[zAd (zAV e hx)];exact h b u n e
end L2
namespace PySem
open Sem (wp)
end PySem
namespace PySem.W
open PySem
end PySem.W
namespace PySem
open Sem (wp)
section
variable {prog:Program}{w:World}{A:Around}{E:XQ}{s:Shared}
noncomputable def ddS (ks:List Str) (x:Str):List Str:=if x∈ks then ks else ks++[x]
noncomputable def dd (xs:List Str):List Str:=xs.foldl ddS []
end
end PySem
namespace L2
open PySem PySem.Calls PySem.Spec PyProof.Rows PySem.W
abbrev XN:=List (Dt × Addr × V)
noncomputable def prs (xs:XN):List (Dt × V):=xs.map λ x=>(x.1,x.2.2)
end L2
namespace PySem
open Sem (wp)
end PySem
namespace PySem.W
open PySem
end PySem.W
namespace PySem.W
open PySem PySem.Spec PySem.Calls PyProof.Rows
end PySem.W
namespace L2
open PySem PySem.Spec PyProof.Rows
end L2
namespace PySem.W
open PySem PySem.Spec PySem.Calls PyProof.Rows
end PySem.W
namespace L2
open PySem PySem.Spec PyProof.Rows
abbrev HR:=Ends->Addr->St->Hp->Prop
noncomputable def ov (H N:Hp):Hp:=λ a=>(N a).or (H a)
noncomputable def Its (x:Str):It:=⟨λ i Ω=>i<x.cps.size,λ i H v H'=>H'=H/\∃c,x.cps[i]?=some c/\v = .str ⟨#[c]⟩,λ i Ω=>x.cps.size<=i⟩
def TyS (ty:String):Prop:=ty = "str_ascii_iterator" \/ ty = "str_iterator"
theorem zHC {P:Program}{w:World}{K:W.Frag}{tg:Expr}(x:Str) (t:Tok) (it:Addr):Turn P w K tg (Its x) [it] it (λ i h=>∃ty,TyS ty/\h.IsStrIter it ty x t i) where
 mem:=by simp
 obj:=λ i h st b hb=>by
  have e:b=it:=by simpa using hb
  subst e;obtain⟨_,_,o,e,c,d⟩:=st;exact⟨o,e,λ v z=>by rw[d] at z;cases z⟩
 keep:=λ i h h' st k=>by
  obtain⟨ty,ht,o,e,r⟩:=st;exact⟨ty,ht,o,k it 68 o e,r⟩
 item:=by
  intro X hP hw hK hc i jP s σ H E I hf st hg;subst hP hw hK;obtain⟨ty,ht,st⟩:=st;have hi:i<x.cps.size:=hg;have hx:x.cps[i]?=some x.cps[i]:=by simp[hi]
  obtain⟨f0,f1,f2,f3,f4,f5⟩:=hf it 68
  have fin:∀h',h'.IsStrIter it ty x t (i+1)->Heap.SameBut it s.heap h'->∃u,some (Value.str ⟨#[x.cps[i]]⟩ s.toks)=some u /\
   wpAny 74 X.A (letOwnedTupleGo tg (.ref it) u) (λ Ω s2=>∃y H',Inv X jP σ H' s2/\RelV y u/\(Its x).yld i H y H'/\(∃ty,TyS ty/\s2.heap.IsStrIter it ty x t (i+1))/\∀b∈[it],H' b=none) E { s with heap:=h',toks:=s.toks+1 }:=by
   intro h' st' sb;have I1:Inv X jP σ H { s with heap:=h',toks:=s.toks+1 }:=I.turned (t':=s.toks+1) (λ b o hb e=>(sb.2 b hb).trans e) f0 f1 f3 f4 f5;obtain⟨o,e,c,d⟩:=id st';refine⟨_,rfl,go_of (s:={ s with heap:=h',toks:=s.toks+1 }) e c d (by rcases ht with z|z<;>subst z<;>decide) ⟨.str ⟨#[x.cps[i]]⟩,H,I1,72,⟨rfl,_,hx,rfl⟩,⟨ty,ht,st'⟩,λ b hb=>(hf b hb).1⟩⟩
  rcases id ht with z|z
  ·subst z
   exact wpAny_pyNext_ascii_item st hx fin
  ·subst z
   exact wpAny_pyNext_wide_item st hx fin
 done:=by
  intro X hP hw hK hc i jP s σ H E I hf st hg;subst hP hw hK;obtain⟨ty,ht,st⟩:=st;have hx:x.cps[i]?=none:=Array.getElem?_eq_none (show x.cps.size<=i from hg);obtain⟨f0,f1,f2,f3,f4,f5⟩:=hf it 68;rcases id ht with z|z
  ·subst z
   exact wpAny_pyNext_ascii_end (I.ok.hd hc) st hx λ h' eb=>⟨rfl,I.turned (t':=s.toks) (λ b o hb e=>eb b o hb e) f0 f1 f3 f4 f5⟩
  ·subst z
   exact wpAny_pyNext_wide_end (I.ok.hd hc) st hx λ h' eb=>⟨rfl,I.turned (t':=s.toks) (λ b o hb e=>eb b o hb e) f0 f1 f3 f4 f5⟩
 self:=λ Ω Ω Ω Ω Ω st h=>by
  obtain⟨ty,ht,st⟩:=st;rcases id ht with z|z
  ·subst z
   exact wpAny_pyIter_striter_ascii st h
  ·subst z
   exact wpAny_pyIter_striter_wide st h
def iStr (tl:TE):TI:=λ σ H R=>tl σ H λ v H1=>∃x,v = .str x/\R (Its x) H1
theorem zMZ {X:Cx}{tg l:Expr}{tl:TE}(hl:PE X l tl):PI X tg l (iStr tl):=by
 intro jP s σ H R I h;refine thn (hl jP s σ H _ I h) λ v s1 ⟨y,H1,I1,r1,q1⟩=>?_;obtain⟨x,e,q⟩:=q1;subst e;obtain⟨t,rfl⟩:=r1
 have fp:∀b∈[s1.heap.objs.size],FpOk X jP H1 b:=λ b hb=>by
  have e:b=s1.heap.objs.size:=by simpa using hb
  subst e;exact I1.fpOk (lS _) (I1.hok.fresh (lS _))
 cases ha:x.cps.all (· < 128)
 ·refine wpAny_pyIter_wide ha ?_
  exact⟨s1.heap.objs.size,[s1.heap.objs.size],_,_,H1,rfl,I1.kept (t':=s1.toks) λ b o e=>lH _ e,zHC x t _,⟨_,.inr rfl,_,lI _ rfl,rfl,rfl⟩,fp,q⟩
 ·refine wpAny_pyIter_ascii ha ?_
  exact⟨s1.heap.objs.size,[s1.heap.objs.size],_,_,H1,rfl,I1.kept (t':=s1.toks) λ b o e=>lH _ e,zHC x t _,⟨_,.inl rfl,_,lI _ rfl,rfl,rfl⟩,fp,q⟩
open PySem.Calls PySem.W
end L2
namespace PyProof.Rows
open PySem PySem.Calls
end PyProof.Rows
namespace L2
open PySem PySem.Calls PySem.Spec PyProof.Rows PySem.W
def tRevL (K:W.Frag) (te:TE) (tk:TO):TE:=λ σ H Q=>te σ H λ x H1=>tk σ H1 λ k H2=>k=some (-1)/\∃a xs,x = .ref a/\SqL K H2 a xs/\∀p,H2 p=none->Q (.ref p) (upd H2 p (.lst xs.reverse))
theorem zHA {xs:List V}{us:List Value}(h:Vals xs us):Vals xs.reverse us.reverse:=by
 induction h with
 |nil=>exact .nil
 |cons r t ih=>rw[List.reverse_cons,List.reverse_cons];exact ih.append (.cons r .nil)
theorem zIr {X:Cx}{e st:Expr}{te:TE}{tk:TO}{p2 pos:Pos}(he:PE X e te) (hk:PO X (some st) tk):PE X (.Subscript e (.Slice none none (some st) p2) pos) (tRevL X.K te tk):=by
 intro jP s σ H Q I h;refine Subscript_ (thn (he jP s σ H _ I h) λ v s1 ⟨x,H1,I1,r1,q1⟩=>?_);refine wpAny_Slice ?_;rw[evalPart_none];refine lD (lD (thn (hk jP s1 σ H1 _ I1 q1) λ vk s3 ⟨k,H3,I3,pk,q3⟩=>?_));obtain⟨rfl,a,xs,rfl,hx,q⟩:=q3;cases r1;have I4:Inv X jP σ H3 { s3 with heap:=s3.heap.push { cls:=.type "slice", data:=.fields #[.none,.none,vk] } }:=I3.kept (t':=s3.toks) λ b ob q=>lH _ q;obtain⟨its,r,ht,hz⟩:=I4.list hx;have hlen:=r.length;show wpAny 74 X.A (subscriptTail e (.Slice none none (some st) p2) (.ref a) (.ref s3.heap.objs.size)) (EP X jP σ Q) X.xe { s3 with heap:=s3.heap.push { cls:=.type "slice", data:=.fields #[.none,.none,vk] } };refine tail_any (ops:=[.ref a,.ref s3.heap.objs.size]) ht.isList.typeIs slot_list_getitem.lookup ?_ (by with_unfolding_all rfl);refine wpAny_getItem_list_slice ht.isList (Heap.IsSliceOf.new ..) .none .none pk 69 ?_ (by rw[mF]<;>lia);rw[W.krv_pick];refine⟨.ref _,_,I4.laid (t':=s3.toks) (o:=.lst xs.reverse) (λ b ob q=>lH _ q) (lS _) ?_,rfl,q _ (I4.hok.fresh (lS _))⟩;exact⟨by rw[List.length_reverse];exact hz,_,0,zHA r,lI _ rfl⟩
theorem zL8 {x:Str}{g:TG}{tb:TS}{D:Ends}{σ:L2.St}{H:Hp}(Pv:Nat->L2.St->Hp->Prop) (h0:Pv 0 σ H)
  (hs:∀i c σ H,x.cps[i]?=some c->Pv i σ H->g (.str ⟨#[c]⟩) σ H λ σ2 H2=>tb { D with nx:=Pv (i+1),ct:=Pv (i+1),bk:=D.nx } σ2 H2) (hd:∀σ H,Pv x.cps.size σ H->D.nx σ H) :
  ∃W:Nat->Nat->L2.St->Hp->Prop,(∃m,W 0 m σ H)/\∀i m σ H,W i m σ H ->
   ((Its x).stop i H/\D.nx σ H)\/((Its x).go i H/\∃N:L2.St->Hp->Prop,95/\∀x' H',(Its x).yld i H x' H'->g x' σ H' λ σ2 H2=>tb { D with nx:=N,ct:=N,bk:=D.nx } σ2 H2):=by
 refine⟨λ i m σ H=>m=x.cps.size - i/\i<=x.cps.size/\Pv i σ H,⟨x.cps.size,by simp,mB _,h0⟩,?_⟩;rintro i m σ H ⟨rfl,hi,p⟩
 by_cases hlt:i<x.cps.size
 ·refine .inr ⟨hlt,Pv (i+1),λ σ' H' p'=>⟨x.cps.size - (i+1),by lia,rfl,hlt,p'⟩,λ v H' y=>?_⟩
  obtain⟨e,c,hc,ex⟩:=y;subst e ex;exact hs i c σ _ hc p
 ·have e:i=x.cps.size:=by lia
  subst e;exact .inl ⟨lS _,hd σ H p⟩
noncomputable def Itel (K:W.Frag) (a:Addr):It :=
 ⟨λ i H=>∃xs x,SqL K H a xs/\xs[i]?=some x,λ i H x H'=>∃T y,H T=none/\x = .ref T/\H'=upd H T (.tup [.int i,y])/\∀xs,SqL K H a xs->xs[i]?=some y,λ i H=>∃xs,SqL K H a xs/\xs.length<=i⟩
theorem zH2 {P:Program}{w:World}{K:W.Frag}{es:List Expr}{k:Nat}{pos:Pos}(a e it:Addr) (hei:e≠it) :
  Turn P w K (.Tuple es k pos) (Itel K a) [e,it] e (λ i h=>(∃old,IsEnum h e it i old)/\h.IsListIter it a i) where
 mem:=by simp
 obj:=λ i h st b hb=>by
  obtain⟨⟨old,z⟩,o,e',c,d⟩:=st;rcases lO.mp hb with y|y
  ·subst y;exact⟨_,z,λ v q=>by have q':Data.fields _=Data.cell v:=q;cases q'⟩
  ·cases mQ.mp y
   exact⟨o,e',λ v q=>by rw[d] at q;cases q⟩
 keep:=λ i h h' st k=>by
  obtain⟨⟨old,z⟩,o,e',r⟩:=st;exact⟨⟨old,k e 68 _ z⟩,o,k it 68 o e',r⟩
 item:=by
  intro X hP hw hK hc i jP s σ H E I hf st hg;subst hP hw hK;obtain⟨xs,x,hq,hx⟩:=hg;obtain⟨its,rv,p,hz⟩:=I.list hq;obtain⟨u,hu,ru⟩:=rv.get hx;obtain⟨⟨old,he⟩,hit⟩:=st;have p':s.heap.IsList a its.toArray:=p.isList
  have hai:a≠it:=λ z=>by
   obtain⟨o1,q1,c1,_⟩:=p';obtain⟨o2,q2,c2,_⟩:=hit;rw[z,q2] at q1;cases q1;rw[c2] at c1;injection c1 with c3;exact absurd c3 69
  have hae:a≠e:=λ z=>by
   obtain⟨o1,q1,c1,_⟩:=p';rw[z] at q1;have he':s.heap.get? e=some _:=he;rw[he'] at q1;cases q1;injection c1 with c3;exact absurd c3 69
  have hilt:i<its.toArray.size:=by
   have:=(lK.mp hu).1;simpa using this
  refine wpAny_pyNext_enum_itemD (Draws.list (A:=X.A.in1) (I.ok.hd hc) it a hai its.toArray) he ⟨hit,p'⟩ hilt hei (by simp[hei,Ne.symm hae]) λ y h1 tk hy ho hst hT hsz hk=>?_
  have hyu:y=u:=by
   have:(its.toArray)[i]?=some u:=by simpa using hu
   rw[hy] at this;exact mG this
  subst hyu;refine⟨_,rfl,?_⟩;have hn:H s.heap.objs.size=none:=I.fresh
  have I1:Inv X jP σ (upd H s.heap.objs.size (.tup [.int i,x])) { s with heap:=h1,toks:=tk+1 }:=I.turnedL (ch:=[e,it]) (λ b o hb q=>hk b o (λ z=>hb (by simp[z])) (λ z=>hb (by simp[z])) q) hf (lS _)
   ⟨Nat.le_of_lt (zAR (show 2<=1000 by decide)),[.int i tk,y],.cons 72 (.cons ru .nil),_,hT,rfl,_,rfl⟩
  have neT:∀b∈[e,it],b≠s.heap.objs.size:=λ b hb=>by
   rcases lO.mp hb with z|z
   ·subst z;exact lT (lJ (show s.heap.get? b=some _ from he))
   ·cases mQ.mp z
    obtain⟨o2,q2,_⟩:=hit;exact lT (lJ q2)
  refine wpAny_letOwnedTupleGo_enum (s:={ s with heap:=h1,toks:=tk+1 }) ho λ h2 he2 hs2=>⟨.ref s.heap.objs.size,_,?_,rfl,⟨_,x,hn,rfl,rfl,λ ys hy'=>by rw[I.list_inj hy' hq];exact hx⟩,⟨⟨_,he2⟩,?_⟩,λ b hb=>?_⟩
  ·refine I1.turnedN (t':=tk+1) (ch:=[e]) (λ b o hb q=>(hs2.2 b (λ z=>hb (by simp[z]))).trans q) λ b hb=>?_
   have eb:=mQ.mp hb;subst eb;obtain⟨f0,f⟩:=hf b 68;exact⟨by rw[zAd (neT b 68)];exact f0,f⟩
  ·obtain⟨o2,q2,r2⟩:=hst.1
   exact⟨o2,(hs2.2 it hei.symm).trans q2,r2⟩
  ·rw[zAd (neT b hb)];exact(hf b hb).1
 done:=by
  intro X hP hw hK hc i jP s σ H E I hf st hg;subst hP hw hK;obtain⟨xs,hq,hx⟩:=hg;obtain⟨its,rv,p,hz⟩:=I.list hq;obtain⟨⟨old,he⟩,hit⟩:=st;have p':s.heap.IsList a its.toArray:=p.isList
  have hai:a≠it:=λ z=>by
   obtain⟨o1,q1,c1,_⟩:=p';obtain⟨o2,q2,c2,_⟩:=hit;rw[z,q2] at q1;cases q1;rw[c2] at c1;injection c1 with c3;exact absurd c3 69
  have hl:=rv.length;have hT:s.TypeIs (.ref e) "enumerate" := ⟨_,he,rfl⟩;unfold pyNext;refine lC 85;show wpAny _ _ (field (.ref e) 2 >>= _) _ _ _;refine lC (wpAny_field he rfl (x:=.ref it) rfl ?_);refine lC (wpAny_nextOf_list_end (I.ok.hd hc) hit p' (by simp;lia) λ h1 x hx1 ⟨o,ho,hc'⟩=>?_);refine lC (wpAny_isInstance (T := "StopIteration") (b:=true) ⟨o,ho,hc'⟩ isSubtype_stop ?_);exact lD ⟨rfl,I.turnedN (t':=s.toks) (ch:=[it]) (λ b o hb q=>hx1 b o (λ z=>hb (by simp[z])) q) λ b hb=>hf b (by simp at hb ⊢;exact .inr hb)⟩
 self:=λ Ω Ω Ω Ω Ω st h=>let ⟨⟨_,he⟩,_⟩:=st;wpAny_pyIter_enum he h
def zMv (K:W.Frag) (ta:TA):TI:=λ σ H R=>ta σ H λ vs H1=>∃a,vs=[.ref a]/\(∃xs,SqL K H1 a xs)/\R (Itel K a) H1
theorem zKP {X:Cx}{es:List Expr}{k:Nat}{tpos:Pos}{a:Expr}{ta:TA}{p pos:Pos}(hg:Gl X "enumerate") (hm:X.mg "enumerate" = none) (ha:PA X [a] ta) (hs:starEach [a] X.env=[(false,eval a X.env)]:=by rfl) :
  PI X (.Tuple es k tpos) (.Call (.Name "enumerate" p) [a] [] pos) (zMv X.K ta):=by
 intro jP s σ H R I h;refine Call_ (zCI I hg hm boot_enumerate (PyProof.Rows.callWith_type1 98 hs rfl));obtain⟨b,e,⟨xs,hq⟩,q⟩:=q1;subst e;obtain⟨u,rfl,ru⟩:=vals1 r1;cases ru;obtain⟨its,rv,tp,hz⟩:=I1.list hq;refine call_enumerate_list tp.isList λ h' he hit hsz hk=>?_;refine wpAny_pyIter_enum he ⟨_,[s1.heap.objs.size+1,s1.heap.objs.size],_,_,H1,rfl,I1.kept (t':=s1.toks) hk,zH2 b _ _ (Nat.succ_ne_self _),⟨⟨_,he⟩,hit⟩,λ c hc=>?_,q⟩
 have ge:s1.heap.objs.size<=c:=by
  rcases lO.mp hc with z|z
  ·rw[z];exact Nat.le_succ _
  ·rw[mQ.mp z];exact lS _
 exact I1.fpOk ge (I1.hok.fresh ge)
theorem zJn {K:W.Frag}{a:Addr}{xs:List V}{g:TG}{tb:TS}{D:Ends}{σ:St}{H:Hp}(Pv:Nat->St->Hp->Prop) (h0:Pv 0 σ H) (hl:∀i σ H,i<=xs.length->Pv i σ H->SqL K H a xs)
  (hs:∀i x T σ H,xs[i]?=some x->Pv i σ H->H T=none->g (.ref T) σ (upd H T (.tup [.int i,x])) λ σ2 H2=>tb { D with nx:=Pv (i+1),ct:=Pv (i+1),bk:=D.nx } σ2 H2) (hd:∀σ H,Pv xs.length σ H->D.nx σ H) :
  ∃W:Nat->Nat->St->Hp->Prop,(∃m,W 0 m σ H)/\∀i m σ H,W i m σ H ->
   ((Itel K a).stop i H/\D.nx σ H)\/((Itel K a).go i H/\∃N:St->Hp->Prop,95/\∀x H',(Itel K a).yld i H x H'->g x σ H' λ σ2 H2=>tb { D with nx:=N,ct:=N,bk:=D.nx } σ2 H2):=by
 refine⟨λ i m σ H=>m=xs.length - i/\i<=xs.length/\Pv i σ H,⟨xs.length,by simp,mB _,h0⟩,?_⟩;rintro i m σ H ⟨rfl,hi,p⟩;have q:=hl i σ H hi p
 by_cases hlt:i<xs.length
 ·refine .inr ⟨⟨xs,xs[i],q,by simp[hlt]⟩,Pv (i+1),λ σ' H' p'=>⟨xs.length - (i+1),by lia,rfl,hlt,p'⟩,λ x H' y=>?_⟩
  obtain⟨T,z,hT,ex,eH,y⟩:=y;subst ex eH;exact hs i z T σ H (y xs q) p hT
 ·have e:i=xs.length:=by lia
  subst e;exact .inl ⟨⟨xs,q,lS _⟩,hd σ H p⟩
theorem zIX {u p x:Tr}(hp:p∈u.subs) (hx:x∈p.subs):x∈u.subs:=by
 rw[zB9] at hp;rcases lO.mp hp with rfl|hp
 ·exact hx
 ·obtain⟨r,hr,hp⟩:=mW.mp hp
  have:=zAv hr;exact zDX hr (zIX hp hx)
termination_by u.size
theorem zFn {u p:Tr}(hp:p∈u.subs):p.size<=u.size:=by
 rw[zB9] at hp;rcases lO.mp hp with rfl|hp
 ·exact lS _
 ·obtain⟨r,hr,hp⟩:=mW.mp hp
  have:=zAv hr;have:=zFn hp
  lia
termination_by u.size
abbrev RlF:=Tr × (Str->V)
open Classical in
noncomputable def hitR (R:List RlF) (n:Nat) (t:Tr):List Int:=(R.zipIdx n).flatMap λ x=>if Fits x.1.2 x.1.1 t then [(x.2:Int)] else []
noncomputable def dueS (R:List RlF) (pl:List Int) (t:Tr):List (Int × List Int):=(psub pl t).flatMap λ x=>(hitR R 0 x.2).map λ k=>(k,x.1)
def StV (H:Hp) (x:Int × List Int) (v:V):Prop:=∃b c,v = .ref b/\H b=some (.tup [.int x.1,.ref c])/\H c=some (.tup (x.2.map V.int))
theorem StV.mono {H H':Hp}(k:Tk H H') {x:Int × List Int}{v:V}:StV H x v->StV H' x v
 |⟨b,c,e,h1,h2⟩=>⟨b,c,e,k _ _ h1,k _ _ h2⟩
theorem zDh (R:List RlF) (n:Nat) (t:Tr):(hitR R n t).length<=R.length:=by
 induction R generalizing n with
 |nil=>simp[hitR]
 |cons r R ih =>
  have:=ih (n+1);unfold hitR at this ⊢;rw[List.zipIdx_cons,rD,mK,mM];split
  ·simp only[List.length_singleton];lia
  ·simp only[List.length_nil];lia
theorem zDg {R:List RlF}{n j:Nat}{r:RlF}(t:Tr) (h:R[j]?=some r):hitR (R.take (j+1)) n t=hitR (R.take j) n t++hitR [r] (n+j) t:=by
 obtain⟨hj,_⟩:=lK.mp h;unfold hitR;rw[zAY h,List.zipIdx_append,nJ,mN,Nat.min_eq_left (Nat.le_of_lt hj)]
theorem zJk {r:RlF}{n:Nat}{t:Tr}(h:Fits r.2 r.1 t):hitR [r] n t=[(n:Int)]:=by
 unfold hitR;simp[h]
theorem zLK {r:RlF}{n:Nat}{t:Tr}(h:¬Fits r.2 r.1 t):hitR [r] n t=[]:=by
 unfold hitR;simp[h]
theorem zCV {n d:Nat}{v:Int}(h0:0<=v) (h1:v<=n):HT.sIx n d (some v)=v.toNat:=by
 have e:((v.toNat:Nat):Int)=v:=by lia
 rw[←e,HT.sIx_nat,Int.toNat_natCast]
 lia
theorem zEg {ns:List Int}{lo hi:Option Int}{i j:Nat}(h1:HT.sIx ns.length 0 lo=i) (h2:HT.sIx ns.length ns.length hi=j) (h:j<=ns.length):∃ms:List Int,cutV (ns.map V.int) lo hi=ms.map V.int/\ms.length=j - i:=by
 refine⟨(ns.drop i).take (j - i),?_,?_⟩
 ·unfold cutV
  rw[lE,h1,h2,←List.map_drop,←List.map_take]
 ·rw[mN,mV]
  lia
theorem zLT {α:Type}{xs:List α}{i:Int}(h0:0<=i) (h1:i<xs.length):∃v,v∈xs/\atI xs i=some v:=by
 have hl:i.toNat<xs.length:=by lia
 have e:((i.toNat:Nat):Int)=i:=by lia
 refine⟨xs[i.toNat],List.getElem_mem hl,?_⟩;have:=zAS (xs:=xs) (j:=i.toNat) (v:=xs[i.toNat]) (lY hl)
 rwa [e] at this
theorem zBi {ns:List Int}{i:Int}(h0:0<=i) (h1:i<ns.length):∃n,atI (ns.map V.int) i=some (.int n):=by
 obtain⟨v,hv,e⟩:=zLT (xs:=ns.map V.int) h0 (by rw[lE];exact h1);obtain⟨n,_,rfl⟩:=mE.mp hv;exact⟨n,e⟩
theorem zJP (x y:Str):(x++y).length=x.length+y.length:=strLen_append x y
theorem zGE {L:Str}(h:L.length=26) (ab:∀c∈L.cps.toList,97<=c/\c<=122) (z:Int):∃c:Nat,atI L.cps.toList (z % 26)=some c/\97<=c/\c<=122:=by
 have hl:((L.cps.toList).length:Int)=26:=by
  rw[Array.length_toList]
  exact_mod_cast h
 obtain⟨v,hv,e⟩:=zLT (xs:=L.cps.toList) (i:=z % 26) 61 61;exact⟨v,e,ab v hv⟩
noncomputable def nm (ws:List Str) (i:Int):Str:=ws.getD i.toNat ⟨#[]⟩
theorem nm_at {ws:List Str}{k:Nat}(hk:ws.length=k) (h0:0<k) (z:Int):atI (ws.map V.str) (z % (k:Int))=some (.str (nm ws (z % (k:Int)))):=by
 have h1:=nY z (show (k:Int)≠0 by lia);have h2:=nZ z (show (0:Int)<(k:Int) by lia);have hl:(z % (k:Int)).toNat<ws.length:=by lia
 have e:(((z % (k:Int)).toNat:Nat):Int)=z % (k:Int):=by lia
 have:=zAS (xs:=ws.map V.str) (j:=(z % (k:Int)).toNat) (v:=.str ws[(z % (k:Int)).toNat]) (by simp[hl]);rw[e] at this;rw[this];congr 2;unfold nm;rw[List.getD_eq_getElem?_getD,nN hl,Option.getD_some]
theorem zMz:∀j:Nat,j<8->(0:Int)<64 * (0+(j:Int)+1) * (0+(j:Int)+2)/\64 * (0+(j:Int)+1) * (0+(j:Int)+2)<1073741824:=by right
theorem zFY (x:Str) (bs:List Str):inV (.str x) (bs.map V.str)=decide (x∈bs):=by
 unfold inV;rw[Bool.eq_iff_iff,List.any_eq_true,decide_eq_true_iff];constructor
 ·rintro⟨v,hv,h⟩
  obtain⟨y,hy,rfl⟩:=mE.mp hv;rw[zJr] at h;exact h▸hy
 ·intro h
  exact⟨_,mE.mpr ⟨x,h,rfl⟩,(zJr _ _).mpr rfl⟩
noncomputable def keptS:List Str:=["let", "in", "if", "then", "else", "say", "ask", "stop", "where", "quiet", "number"]
structure GW (x:Str):Prop where
 lo:1<=x.length
 hi:x.length<=8
 kp:x∉keptS
 ab:∀c∈x.cps.toList,97<=c/\c<=122
theorem zL3 {x:Str}(h:inV (.str x) [.str "let", .str "in", .str "if", .str "then", .str "else", .str "say", .str "ask", .str "stop", .str "where", .str "quiet", .str "number"]=true):x∈keptS:=by
 have:inV (.str x) (keptS.map V.str)=true:=h;rw[zFY] at this;exact lU this
noncomputable instance:DecidablePred GW:=λ x=>decidable_of_iff (1<=x.length/\x.length<=8/\x∉keptS/\∀c∈x.cps.toList,97<=c/\c<=122) ⟨λ h=>⟨h.1,h.2.1,h.2.2.1,h.2.2.2⟩,λ h=>⟨h.lo,h.hi,h.kp,h.ab⟩⟩
theorem zMt:∀y∈keptS,GW (y++Str.ofString "z"):=by right
theorem zHz {x:Str}(h:∀c∈x.cps.toList,97<=c/\c<=122) {v:Nat}(hv:97<=v/\v<=122):∀c∈(x++(⟨#[v]⟩:Str)).cps.toList,97<=c/\c<=122:=λ cc hcc=>by
 have hcc':cc∈(x.cps++#[v]).toList:=hcc;rw[Array.toList_append] at hcc';rcases lM.mp hcc' with z|z
 ·exact h cc z
 ·have:cc=v:=by simpa using z
  rw[this];exact hv
theorem zMH:∀c,97<=c->c<=122->(Builtin.Str.occurrences "abcdefghijklmnopqrstuvwxyz" ⟨#[c]⟩ 0 (Str.ofString "abcdefghijklmnopqrstuvwxyz").length 1).isEmpty=false:=by
 have h:∀i<26,(Builtin.Str.occurrences "abcdefghijklmnopqrstuvwxyz" ⟨#[97+i]⟩ 0 (Str.ofString "abcdefghijklmnopqrstuvwxyz").length 1).isEmpty=false:=by right
 intro c h1 h2;have:=h (c - 97) 61
 rwa [show 97+(c - 97)=c by lia] at this
noncomputable def Tr.gps:Tr->List Str
 |.gap g _=>[g]
 |.say a=>a.gps
 |.bin _ a b=>a.gps++b.gps
 |.ite a b c=>a.gps++(b.gps++c.gps)
 |.lett _ a b=>a.gps++b.gps
 |_=>[]
theorem viaP {G:Prop}{E:Hp->Prop}(A:Hp->Prop) (h:(∀H2,A H2->E H2)->G) (r:∀H2,A H2->E H2):G:=h r
theorem viaS {G:Prop}{E:L2.St->Hp->Prop}(A:L2.St->Hp->Prop) (h:(∀σ H2,A σ H2->E σ H2)->G) (r:∀σ H2,A σ H2->E σ H2):G:=h r
theorem zJi {kvs:List (Key × V)}{k:Key}{v:V}{p:Key × V}(h:p∈putK kvs k v):p=(k,v)\/p∈kvs:=by
 unfold putK at h;split at h
 ·obtain⟨q,hq,e⟩:=mE.mp h
  by_cases z:q.1=k
  ·rw[if_pos z,z] at e
   exact .inl e.symm
  ·rw[if_neg z] at e
   exact .inr (e▸hq)
 ·rcases lM.mp h with h|h
  ·exact .inr h
  ·exact .inl (mQ.mp h)
set_option tactic.hygienic true in
theorem zLF {kvs:List (Key × V)}(k:Key) (v:V) (nd:(kvs.map (·.1)).Nodup):((putK kvs k v).map (·.1)).Nodup:=by
 unfold putK;split
 ·have e:(kvs.map λ kv=>if kv.1=k then (kv.1,v) else kv).map (·.1)=kvs.map (·.1):=by
   rw[nQ];refine List.map_congr_left λ q Ω=>?_;show (if q.1=k then (q.1,v) else q).1=q.1;split<;>rfl
  rw[e];exact nd
 ·rename_i h
  rw[mP,List.nodup_append];refine⟨nd,by simp,λ a ha b hb e=>h ?_⟩;obtain⟨q,hq,rfl⟩:=mE.mp ha;simp at hb;rw[List.any_eq_true];exact⟨q,hq,lW (e.trans hb)⟩
theorem zEB {kvs:List (Key × V)}{k:Key}:(valV kvs k).isSome=true↔∃p∈kvs,p.1=k:=by
 unfold valV;rw[Option.isSome_map,List.find?_isSome];exact⟨λ⟨p,h,e⟩=>⟨p,h,lU e⟩,λ⟨p,h,e⟩=>⟨p,h,lW e⟩⟩
theorem zEy:∀(more kvs:List (Key × V)) (k:Key),(valV (zAt kvs more) k).isSome=true↔(valV kvs k).isSome=true\/(valV more k).isSome=true
 |[],kvs,k=>⟨λ h=>.inl h,λ h=>h.elim id λ z=>by cases z⟩
 |p::more,kvs,k=>by
  show (valV (zAt (putK kvs p.1 p.2) more) k).isSome=true↔_;rw[zEy more,zDU];rw[zEB (kvs:=p::more),zEB (kvs:=more)]
  by_cases h:k=p.1
  ·rw[if_pos h]
   exact⟨λ Ω=>.inr ⟨p,lP,h.symm⟩,λ Ω=>.inl rfl⟩
  ·rw[if_neg h]
   constructor
   ·rintro (z|⟨q,hq,e⟩)
    ·exact .inl z
    ·exact .inr ⟨q,lQ _ hq,e⟩
   ·rintro (z|⟨q,hq,e⟩)
    ·exact .inl z
    ·rcases lO.mp hq with rfl|hq
     ·exact absurd e.symm h
     ·exact .inr ⟨q,hq,e⟩
structure GD (S:List Str) (kvs:List (Key × V)):Prop where
 nm:∀p∈kvs,∃(g:Str) (n:Int),p=((Sum.inr g:Key),V.int n)
 vl:∀g:Str,(valV kvs (Sum.inr g:Key)).isSome=true↔g∈S
 nd:(kvs.map (·.1)).Nodup
theorem GD.nil:GD [] []:=⟨by simp,λ g=>⟨87,87⟩,List.nodup_nil⟩
theorem GD.put {S:List Str}{kvs:List (Key × V)}(h:GD S kvs) (x:Str) (n:Int):GD (x::S) (putK kvs (Sum.inr x:Key) (.int n)):=by
 refine⟨λ p hp=>?_,λ g=>?_,zLF _ _ h.nd⟩
 ·rcases zJi hp with z|z
  ·exact⟨x,n,z⟩
  ·exact h.nm p z
 ·rw[zDU]
  by_cases z:g=x
  ·subst z
   rw[if_pos rfl];exact⟨λ Ω=>lP,λ Ω=>rfl⟩
  ·have z':¬(Sum.inr g:Key)=Sum.inr x:=λ w=>z (Sum.inr.inj w)
   rw[if_neg z',h.vl g,nM];exact⟨.inr,λ w=>w.resolve_left z⟩
theorem GD.merge {S T:List Str}{more:List (Key × V)}(k:GD T more):∀{kvs:List (Key × V)},GD S kvs->GD (S++T) (zAt kvs more):=by
 intro kvs h
 have key:∀(m:List (Key × V)) (kvs:List (Key × V)),(∀p∈m,∃(g:Str) (n:Int),p=((Sum.inr g:Key),V.int n))->(∀p∈kvs,∃(g:Str) (n:Int),p=((Sum.inr g:Key),V.int n))->(kvs.map (·.1)).Nodup ->
   (∀p∈zAt kvs m,∃(g:Str) (n:Int),p=((Sum.inr g:Key),V.int n))/\((zAt kvs m).map (·.1)).Nodup:=by
  intro m
  induction m with
  |nil=>exact λ kvs Ω b c=>⟨b,c⟩
  |cons q m ih =>
   intro kvs a b c;refine ih (putK kvs q.1 q.2) (λ p hp=>a p (lQ _ hp)) (λ p hp=>?_) (zLF _ _ c);rcases zJi hp with z|z
   ·rw[z];exact a q lP
   ·exact b p z
 obtain⟨r1,r2⟩:=key more kvs k.nm h.nm h.nd;refine⟨r1,λ g=>?_,r2⟩;rw[zEy,h.vl,k.vl,nL]
noncomputable def ownS:Tr->List Str
 |.gap g _=>[g]
 |_=>[]
theorem zJm (t:Tr):∀g,g∈t.gps↔g∈ownS t++t.parts.flatMap Tr.gps:=λ g=>by
 cases t<;>simp[Tr.gps,ownS,Tr.parts]
theorem GD.congr {S T:List Str}{kvs:List (Key × V)}(h:GD S kvs) (e:∀g,g∈T↔g∈S):GD T kvs:=⟨h.nm,λ g=>(h.vl g).trans (e g).symm,h.nd⟩
def Ld (t:Tr):Prop:=∃p∈t.subs,p.kd.loud=true
theorem ld_eq (t:Tr):Ld t↔t.kd.loud=true\/∃p∈t.parts,Ld p:=by
 unfold Ld;rw[zB9];constructor
 ·rintro⟨p,hp,h⟩
  rcases lO.mp hp with rfl|hp
  ·exact .inl h
  ·obtain⟨r,hr,hp⟩:=mW.mp hp
   exact .inr ⟨r,hr,p,hp,h⟩
 ·rintro (h|⟨r,hr,p,hp,h⟩)
  ·exact⟨t,lP,h⟩
  ·exact⟨p,lQ _ (mW.mpr ⟨r,hr,hp⟩),h⟩
theorem zFe (us vs:List V) (n:Nat) (h0:0<n) (hn:vs.length=n):cutV (us++vs) none (some (-(n:Int)))=us:=by
 have e:HT.sIx (us++vs).length 0 none=0:=rfl;unfold cutV;rw[zGo h0 (by simp;lia),e];simp[hn]
theorem zCb (us vs:List V) {n j:Nat}{v:V}(h0:0<n) (hn:n<=vs.length) (e:vs[vs.length - n]?=some v):atI (us++vs) (-(n:Int))=some v:=by
 have e1:ixN (us++vs).length (-(n:Int))=some (us.length+(vs.length - n)):=by
  unfold ixN;rw[mK,if_neg 61,if_pos 61];congr 1
  lia
 unfold atI;rw[e1];show (us++vs)[us.length+(vs.length - n)]?=some v;rw[mT 61,Nat.add_sub_cancel_left];exact e
theorem zKk (us:List V) (x:V):ixN (us++[x]).length (-1)=some us.length:=by
 unfold ixN;rw[mK,if_neg 69,if_pos (by simp;lia)];congr 1;simp
 lia
theorem zBE {α:Type}{F:α->V->Prop}{as:List α}{us:List V}(p:Paired F as us):0<us.length->∃as0 us0 a u,as=as0++[a]/\us=us0++[u]/\Paired F as0 us0/\F a u:=by
 induction p with
 |nil=>exact λ h=>absurd h (Nat.lt_irrefl _)
 |cons r q ih =>
  cases q with
  |nil=>exact λ U=>⟨[],[],_,_,rfl,rfl,.nil,r⟩
  |cons r2 q=>obtain⟨as0,us0,a,u,e1,e2,p,f⟩:=ih 68;exact λ U=>⟨_::as0,_::us0,a,u,by rw[e1];rfl,by rw[e2];rfl,.cons r p,f⟩
noncomputable def Tr.odd:Tr->List Str
 |.name x=>[x]
 |.gap g (_::_)=>[g]
 |.say a=>a.odd
 |.bin _ a b=>a.odd++b.odd
 |.ite a b c=>a.odd++(b.odd++c.odd)
 |.lett x a b=>x::(a.odd++b.odd)
 |_=>[]
def GS (S:List Str) (ts:List Tr):Prop:=∀t∈ts,∀g∈t.odd,g∈S
theorem GS.app {S:List Str}{a b:List Tr}(h:GS S a) (k:GS S b):GS S (a++b):=λ t ht=>by
 rcases lM.mp ht with z|z
 ·exact h t z
 ·exact k t z
theorem GS.left {S:List Str}{a b:List Tr}(h:GS S (a++b)):GS S a:=λ t ht=>h t (lM.mpr (.inl ht))
theorem GS.right {S:List Str}{a b:List Tr}(h:GS S (a++b)):GS S b:=λ t ht=>h t (lM.mpr (.inr ht))
theorem GS.one {S:List Str}{t:Tr}(h:∀g∈t.odd,g∈S):GS S [t]:=λ u hu=>by rw[mQ.mp hu];exact h
theorem via {G:Prop}{E:Hp->Prop}{H1:Hp}(h:(∀H2,Same H1 H2->E H2)->G) (r:∀H2,Same H1 H2->E H2):G:=h r
theorem zMD (z:Int):∃o:Bin,atI [V.str "add", .str "sub", .str "mul", .str "then"] (z % 4)=some (.str o.s):=by
 have h0:=nY z (show (4:Int)≠0 by decide);have h1:=nZ z (show (0:Int)<4 by decide);have h:z % 4=0\/z % 4=1\/z % 4=2\/z % 4=3:=by lia
 rcases h with h|h|h|h<;>rw[h]
 ·exact⟨.add,rfl⟩
 ·exact⟨.sub,rfl⟩
 ·exact⟨.mul,rfl⟩
 ·exact⟨.thn,rfl⟩
theorem zKd {t p:Tr}(h:p∈t.parts):∀g∈p.odd,g∈t.odd:=by
 intro g hg;cases t<;>simp[Tr.parts] at h
 ·subst h;exact hg
 ·rcases h with rfl|rfl<;>simp[Tr.odd,hg]
 ·rcases h with rfl|rfl|rfl<;>simp[Tr.odd,hg]
 ·rcases h with rfl|rfl<;>simp[Tr.odd,hg]
theorem zJB {t p:Tr}(h:p∈t.subs):∀g∈p.odd,g∈t.odd:=by
 rw[zB9] at h;rcases lO.mp h with rfl|h
 ·exact λ g hg=>hg
 ·obtain⟨r,hr,hp⟩:=mW.mp h
  have:=zAv hr;exact λ g hg=>zKd hr g (zJB hp g hg)
termination_by t.size
theorem zJC {t:Tr}(h:∀g∈t.odd,g∈([]:List Str)):PlS t:=λ p hp=>by
 have hn:=zJB hp;refine⟨λ z=>?_,λ z=>?_,λ g as e=>?_⟩
 ·obtain⟨x,a,b,rfl⟩:=kdS (k:=.lett) z
  exact nomatch h x (hn x (by simp[Tr.odd]))
 ·obtain⟨x,rfl⟩:=kdS (k:=.name) z
  exact nomatch h x (hn x (by simp[Tr.odd]))
 ·subst e
  cases as with
  |nil=>rfl
  |cons a r=>exact nomatch h g (hn g (by simp[Tr.odd]))
theorem GD.keys {S:List Str}:∀{kvs:List (Key × V)},GD S kvs->∃ks:List Str,kvs.map (·.1)=ks.map Sum.inr/\ks.Nodup/\ks.length=kvs.length/\∀g,g∈ks↔g∈S:=by
 intro kvs h
 have ex:∀l:List (Key × V),(∀p∈l,∃(g:Str) (n:Int),p=((Sum.inr g:Key),V.int n))->∃ks:List Str,l.map (·.1)=ks.map Sum.inr:=by
  intro l
  induction l with
  |nil=>exact λ Ω=>⟨[],rfl⟩
  |cons p l ih =>
   intro a;obtain⟨ks,e⟩:=ih λ q hq=>a q (lQ _ hq);obtain⟨g,n,e2⟩:=a p lP;exact⟨g::ks,by rw[mL,e,e2];rfl⟩
 obtain⟨ks,e⟩:=ex kvs h.nm;refine⟨ks,e,?_,?_,λ g=>?_⟩
 ·have:=h.nd
  rw[e] at this;exact(List.pairwise_map.mp this).imp λ h e=>h (congrArg _ e)
 ·have:=congrArg List.length e
  simpa using this.symm
 ·rw[←h.vl g,zEB]
  constructor
  ·intro hg
   have:(Sum.inr g:Key)∈kvs.map (·.1):=by rw[e];exact mE.mpr ⟨g,hg,rfl⟩
   obtain⟨p,hp,ep⟩:=mE.mp this;exact⟨p,hp,ep⟩
  ·rintro⟨p,hp,ep⟩
   have:(Sum.inr g:Key)∈ks.map Sum.inr:=by rw[←e];exact mE.mpr ⟨p,hp,ep⟩
   obtain⟨g',hg',eg⟩:=mE.mp this;rw[←Sum.inr.inj eg];exact hg'
theorem GD.int {S:List Str}{kvs:List (Key × V)}(h:GD S kvs) {g:Str}(hg:g∈S):∃n:Int,valV kvs (Sum.inr g:Key)=some (.int n):=by
 have:=(h.vl g).mpr hg;cases e:valV kvs (Sum.inr g:Key) with
 |none=>rw[e] at this;cases this
 |some v =>
  obtain⟨p,hp,ep⟩:=lX.mp (show (kvs.find? λ kv=>decide (kv.1=(Sum.inr g:Key))).map (·.2)=some v from e);obtain⟨g',n,e'⟩:=h.nm p (List.mem_of_find?_eq_some hp);refine⟨n,?_⟩;rw[←ep,e']
theorem zJG {ss:List Str}(nd:ss.Nodup) {i:Nat}{g:Str}(h:ss[i]?=some g):g∉ss.take i:=λ z=>by
 obtain⟨j,hj⟩:=List.getElem?_of_mem z
 have hji:j<i:=by
  have:=(lK.mp hj).1;rw[mN] at this
  lia
 rw[List.getElem?_take_of_lt hji] at hj;exact absurd (zHc nd hj h) 61
noncomputable def kdD (kds:List (Str × Str)):List Dt:=kds.map λ p=>.tup [.str p.1,.str p.2]
theorem zLH {H:Hp}:∀{kds:List (Str × Str)}{ys:List V},Paired (PrV H) ys (kdV kds)->DRs H (kdD kds) ys
 |[],_,h=>by
  cases h;exact .nil
 |p::kds,_,h=>by
  cases h with
  |cons r q =>
   obtain⟨b,rfl,hb⟩:=r;exact .cons (.tup hb (.cons (.str _) (.cons (.str _) .nil))) (zLH q)
theorem zJa:∀kds:List (Str × Str),Dt.deeps (kdD kds)<=1
 |[]=>mB _
 |p::kds=>by
  have ih:=zJa kds;show max (Dt.deep (.tup [.str p.1,.str p.2])) (Dt.deeps (kdD kds))<=1;exact Nat.max_le.mpr ⟨by simp[Dt.deep,Dt.deeps],ih⟩
theorem zMI (g x:Str):(valV (zAt [] [((Sum.inr g:Key),V.int 2)]) (Sum.inr x:Key)).getD (.int 1) = .int (((if x=g then 2 else 1:Nat)):Int):=by
 show (valV (putK [] (Sum.inr g:Key) (V.int 2)) (Sum.inr x:Key)).getD (.int 1)=_;rw[zDU]
 by_cases h:x=g
 ·rw[if_pos (by rw[h]),if_pos h];rfl
 ·rw[if_neg (λ z=>h (Sum.inr.inj z)),if_neg h];rfl
def KdN (k:Str):Prop:=k = "quiet" \/ k = "number"
noncomputable def Kd.many:Kd->Nat
 |.say=>1|.add=>2|.sub=>2|.mul=>2|.thn=>2|.ite=>3|.lett=>2
 |_=>0
theorem zEa (k:Kd):k.many<=3:=by cases k<;>decide
noncomputable def headV (kd:Kd) (x:Str):List V:=if kd = .lett then [.str kd.s,.str x] else [.str kd.s]
theorem node {kd:Kd}(hk:kd.leaf=false) {ts:List Tr}(hl:ts.length=kd.many) (x:Str):∃t:Tr,t.kd=kd/\t.parts=ts/\(∀x' a b,t = .lett x' a b->x'=x)/\∀(us:List V) (H:Hp) (p:Addr),Paired (Rep H) ts us->H p=some (.tup (headV kd x++us))->Rep H t (.ref p):=by
 have two:∀o:Bin,ts.length=2->∃t:Tr,t.kd=o.kd/\t.parts=ts/\(∀x' a b,t = .lett x' a b->x'=x)/\∀(us:List V) (H:Hp) (p:Addr),Paired (Rep H) ts us->H p=some (.tup (headV o.kd x++us))->Rep H t (.ref p):=λ o hl=>by
  match ts,hl with
  |[a,b],_ =>
   refine⟨.bin o a b,by cases o<;>rfl,rfl,(λ Ω Ω Ω z=>nomatch z),λ us H p pr e=>?_⟩
   cases pr with
   |cons r q =>
    cases q with
    |cons r2 q =>
     cases q;have eh:headV o.kd x=[.str o.s]:=by cases o<;>rfl
     rw[eh] at e;exact⟨p,_,_,rfl,e,r,r2⟩
 cases kd with
 |num=>cases hk
 |name=>cases hk
 |ask=>cases hk
 |stop=>cases hk
 |gap=>cases hk
 |add=>exact two .add hl
 |sub=>exact two .sub hl
 |mul=>exact two .mul hl
 |thn=>exact two .thn hl
 |say =>
  match ts,hl with
  |[a],_ =>
   refine⟨.say a,rfl,rfl,(λ Ω Ω Ω z=>nomatch z),λ us H p pr e=>?_⟩
   cases pr with
   |cons r q =>
    cases q;exact⟨p,_,rfl,e,r⟩
 |lett =>
  match ts,hl with
  |[a,b],_ =>
   refine⟨.lett x a b,rfl,rfl,(λ Ω Ω Ω z=>by cases z;rfl),λ us H p pr e=>?_⟩;cases pr with
   |cons r q =>
    cases q with
    |cons r2 q =>
     cases q;exact⟨p,_,_,rfl,e,r,r2⟩
 |ite =>
  match ts,hl with
  |[a,b,c],_ =>
   refine⟨.ite a b c,rfl,rfl,(λ Ω Ω Ω z=>nomatch z),λ us H p pr e=>?_⟩
   cases pr with
   |cons r q =>
    cases q with
    |cons r2 q =>
     cases q with
     |cons r3 q =>
      cases q;exact⟨p,_,_,_,rfl,e,r,r2,r3⟩
theorem zHW {t:Tr}(h1:¬t.kd = .lett) (h2:t.kd.leaf=false) (h:∀p∈t.parts,PlS p):PlS t:=λ p hp=>by
 rw[zB9] at hp;rcases lO.mp hp with rfl|hp
 ·refine⟨h1,λ z=>?_,λ g as e=>?_⟩
  ·rw[z] at h2;cases h2
  ·rw[e] at h2;cases h2
 ·obtain⟨r,hr,hp⟩:=mW.mp hp
  exact h r hr p hp
def Nd (t:Tr):Prop:=t.kd.leaf=false/\¬t.kd = .lett
theorem Nd.rep {H:Hp}{t:Tr}{v:V}(n:Nd t) (r:Rep H t v):∃(a:Addr) (us:List V),v = .ref a/\H a=some (.tup (.str t.kd.s::us))/\Paired (Rep H) t.parts us:=by
 obtain⟨n1,n2⟩:=n;cases t with
 |say a =>
  obtain⟨p,u,e,h,r⟩:=r;exact⟨p,_,e,h,.cons r .nil⟩
 |bin o a b =>
  obtain⟨p,u,w,e,h,r,r2⟩:=r;exact⟨p,_,e,by cases o<;>exact h,.cons r (.cons r2 .nil)⟩
 |ite a b c =>
  obtain⟨p,u,w,x,e,h,r,r2,r3⟩:=r;exact⟨p,_,e,h,.cons r (.cons r2 (.cons r3 .nil))⟩
 |lett x a b=>exact absurd rfl n2
 |_=>cases n1
theorem zBc (t:Tr):t.parts.length=t.kd.many:=by
 cases t with
 |bin o a b=>cases o<;>rfl
 |_=>rfl
noncomputable def sixV:List V:=[.str "add", .str "sub", .str "mul", .str "then", .str "if", .str "say"]
noncomputable def zJH:List V:=[.int 2,.int 2,.int 2,.int 2,.int 3,.int 1]
theorem zLk (z:Int):∃kd:Kd,kd.leaf=false/\¬kd = .lett/\atI sixV (z % 6)=some (.str kd.s)/\atI zJH (z % 6)=some (.int (kd.many:Int)):=by
 have h0:=nY z (show (6:Int)≠0 by decide);have h1:=nZ z (show (0:Int)<6 by decide);have h:z % 6=0\/z % 6=1\/z % 6=2\/z % 6=3\/z % 6=4\/z % 6=5:=by lia
 rcases h with h|h|h|h|h|h<;>rw[h]
 ·exact⟨.add,rfl,87,rfl,rfl⟩
 ·exact⟨.sub,rfl,87,rfl,rfl⟩
 ·exact⟨.mul,rfl,87,rfl,rfl⟩
 ·exact⟨.thn,rfl,87,rfl,rfl⟩
 ·exact⟨.ite,rfl,87,rfl,rfl⟩
 ·exact⟨.say,rfl,87,rfl,rfl⟩
def Lvs (lv:List Tr):Prop:=∀t∈lv,t.size=1/\t.odd=[]
theorem Lvs.app {a b:List Tr}(h:Lvs a) (k:Lvs b):Lvs (a++b):=λ t ht=>(lM.mp ht).elim (h t) (k t)
theorem Lvs.gs {a:List Tr}(h:Lvs a):GS [] a:=λ t ht g hg=>by rw[(h t ht).2] at hg;exact hg
theorem nm3 {ws:List Str}(hw:ws.length=3) (z:Int):atI (ws.map V.str) (z % 3)=some (.str (nm ws (z % 3))):=nm_at hw 69 z
theorem zDs {α:Type}{F:α->V->Prop}:∀{as:List α}{us:List V},Paired F as us->Paired F as.reverse us.reverse
 |_,_,.nil=>.nil
 |_,_,.cons r q=>by
  rw[List.reverse_cons,List.reverse_cons];exact zAK (zDs q) (.cons r .nil)
def GdT (t:Tr):Prop:=∀p∈t.subs,¬p.kd = .gap/\∀x a b,p = .lett x a b->GW x
theorem zFZ {t:Tr}(h1:¬t.kd = .gap) (h2:∀x a b,t = .lett x a b->GW x) (h:∀p∈t.parts,GdT p):GdT t:=λ p hp=>by
 rw[zB9] at hp;rcases lO.mp hp with rfl|hp
 ·exact⟨h1,h2⟩
 ·obtain⟨r,hr,hp⟩:=mW.mp hp
  exact h r hr p hp
def RG (H:Hp) (t:Tr) (v:V):Prop:=Rep H t v/\GdT t
theorem RG.mono {H H':Hp}(k:Tk H H') {t:Tr}{v:V}:RG H t v->RG H' t v
 |⟨r,g⟩=>⟨r.mono k,g⟩
def PR (H:Hp) (t:Tr) (v:V):Prop:=∃(p:Addr) (u:V) (d:Int),v = .ref p/\H p=some (.tup [u,.int d])/\RG H t u
theorem PR.mono {H H':Hp}(k:Tk H H') {t:Tr}{v:V}:PR H t v->PR H' t v
 |⟨p,u,d,e,h,r⟩=>⟨p,u,d,e,k _ _ h,r.mono k⟩
theorem zE9 {α:Type}{F:α->V->Prop}{Pp:α->Prop}(h:∀a u,F a u->Pp a):∀{as:List α}{us:List V},Paired F as us->∀a∈as,Pp a
 |_,_,.nil,_,m=>nomatch m
 |_,_,.cons r q,a,m=>by
  rcases lO.mp m with rfl|m
  ·exact h _ _ r
  ·exact zE9 h q a m
theorem nm_in {ws:List Str}(h:ws.length=3) (z:Int):nm ws (z % 3)∈ws:=by
 have h1:=nY z (show (3:Int)≠0 by decide);have h2:=nZ z (show (0:Int)<3 by decide);have hl:(z % 3).toNat<ws.length:=by lia
 unfold nm;rw[List.getD_eq_getElem?_getD,nN hl,Option.getD_some];exact List.getElem_mem hl
theorem zKq {us:List V}{n:Nat}(h0:0<n) (h:n<=us.length):cutV us (some (-(n:Int))) none=us.drop (us.length - n):=by
 have e:HT.sIx us.length us.length none=us.length:=rfl;unfold cutV;rw[zGo h0 h,e];exact mU (by rw[mV];lia)
theorem zKr {us:List V}{n:Nat}(h0:0<n) (h:n<=us.length):cutV us none (some (-(n:Int)))=us.take (us.length - n):=by
 have e:HT.sIx us.length 0 none=0:=rfl;unfold cutV;rw[zGo h0 h,e];rfl
theorem zCl {α:Type}{F:α->V->Prop}:∀{as:List α}{us:List V}(k:Nat),Paired F as us->Paired F (as.take k) (us.take k)/\Paired F (as.drop k) (us.drop k)
 |_,_,_,.nil=>by simp;exact .nil
 |_,_,0,.cons r q=>⟨.nil,.cons r q⟩
 |_,_,k+1,.cons r q=>⟨.cons r (zCl k q).1,(zCl k q).2⟩
noncomputable def sgsV:List V:=[.str "say", .str "add", .str "sub", .str "mul", .str "then", .str "if", .str "let"]
noncomputable def mnyV:List V:=[.int 1,.int 2,.int 2,.int 2,.int 2,.int 3,.int 2]
theorem zLj {z:Int}(h0:0<=z) (h1:z<=6):∃kd:Kd,kd.leaf=false/\atI sgsV z=some (.str kd.s)/\atI mnyV z=some (.int (kd.many:Int)):=by
 have h:z=0\/z=1\/z=2\/z=3\/z=4\/z=5\/z=6:=by lia
 rcases h with rfl|rfl|rfl|rfl|rfl|rfl|rfl
 ·exact⟨.say,rfl,rfl,rfl⟩
 ·exact⟨.add,rfl,rfl,rfl⟩
 ·exact⟨.sub,rfl,rfl,rfl⟩
 ·exact⟨.mul,rfl,rfl,rfl⟩
 ·exact⟨.thn,rfl,rfl,rfl⟩
 ·exact⟨.ite,rfl,rfl,rfl⟩
 ·exact⟨.lett,rfl,rfl,rfl⟩
theorem zKg {kd:Kd}(h:kd.leaf=false):0<kd.many:=by cases kd<;>first|decide|cases h
theorem zKE {α:Type}{as:List α}{i:Nat}{a b:α}(h:as[2 * i]?=some a) (h':as[2 * i+1]?=some b):as.take (2 * (i+1))=as.take (2 * i)++[a,b]:=by
 rw[show 2 * (i+1)=2 * i+1+1 by lia,zAY h',zAY h,mX];rfl
theorem zME {xs:List V}{v:V}{n:Nat}(h:xs.length=n+1) (e:xs[n]?=some v):atI xs (-1)=some v:=by
 have e1:xs=xs.take n++[v]:=by
  rw[←zAY e,mU 61]
 rw[e1];exact zHv _ _
theorem zED {x:Str}:∀{rs:List Str}{k:Nat},lookB x rs=some k->k<rs.length
 |[],_,h=>by cases h
 |y::r,k,h=>by
  rw[lookB] at h;split at h
  ·cases h;simp
  ·cases e:lookB x r with
   |none=>rw[e] at h;cases h
   |some m =>
    rw[e] at h;have:=zED e;simp at h ⊢
    lia
noncomputable def farI (x:Str) (bs:List Str):Int:=match lookB x bs.reverse with
 |some k=>(bs.length:Int) - 1 - (k:Int)
 |none=>-1
theorem zJp (x y:Str) (bs:List Str):farI x (bs++[y])=if y=x then (bs.length:Int) else farI x bs:=by
 unfold farI;rw[nV,List.reverse_singleton,List.singleton_append,lookB]
 by_cases h:y=x
 ·rw[if_pos h,if_pos h]
  simp
 ·rw[if_neg h,if_neg h]
  cases e:lookB x bs.reverse with
  |none=>rfl
  |some k =>
   show ((bs++[y]).length:Int) - 1 - ((k+1:Nat):Int)=_;simp
   lia
theorem zMA {x y:Str}{bs cs:List Str}(h:bs.length=cs.length):bareN x bs=bareN y cs↔farI x bs=farI y cs/\(x=y\/0<=farI y cs):=by
 unfold bareN farI;rw[zHg];unfold keyB;cases e1:lookB x bs.reverse with
 |none =>
  cases e2:lookB y cs.reverse with
  |none=>simp
  |some k =>
   have:=zED e2;rw[List.length_reverse] at this;simp
   lia
 |some k =>
  have l1:=zED e1;rw[List.length_reverse] at l1;cases e2:lookB y cs.reverse with
  |none =>
   simp
   lia
  |some m =>
   have l2:=zED e2;rw[List.length_reverse] at l2;simp
   lia
theorem zL6 {t u:Tr}(h:t.kd=u.kd):t.head=u.head:=by
 have e:∀t:Tr,t.head=(match t.kd with|.say=>1|.add=>1|.sub=>1|.mul=>1|.thn=>1|.ite=>1|.gap=>3|_=>2):=λ t=>by
  cases t with
  |bin o a b=>cases o<;>rfl
  |_=>rfl
 rw[e,e,h]
theorem GdT.part {t p:Tr}(h:GdT t) (hp:p∈t.parts):GdT p:=λ x hx=>h x (zDX hp hx)
theorem zJ6 {t u:Tr}{bs cs:List Str}(hk:t.kd=u.kd) (h1:t.kd.leaf=false) (h2:¬t.kd = .lett):bare t bs=bare u cs↔∀(i:Nat) (p q:Tr),t.parts[i]?=some p->u.parts[i]?=some q->bare p bs=bare q cs:=by
 have one:∀{p q:Tr},(∀(i:Nat) (x y:Tr),[p][i]?=some x->[q][i]?=some y->bare x bs=bare y cs)↔bare p bs=bare q cs:=λ{p q}=>⟨λ h=>h 0 p q rfl rfl,λ h i x y hx hy=>by
  match i with
  |0=>cases hx;cases hy;exact h
  |_+1=>simp at hx⟩
 have two:∀{p q p' q':Tr},(∀(i:Nat) (x y:Tr),[p,p'][i]?=some x->[q,q'][i]?=some y->bare x bs=bare y cs)↔bare p bs=bare q cs/\bare p' bs=bare q' cs:=λ{p q p' q'}=>⟨λ h=>⟨h 0 p q rfl rfl,h 1 p' q' rfl rfl⟩,λ h i x y hx hy=>by
  match i with
  |0=>cases hx;cases hy;exact h.1
  |1=>cases hx;cases hy;exact h.2
  |_+2=>simp at hx⟩
 have thr:∀{p q p' q' p2 q2:Tr},(∀(i:Nat) (x y:Tr),[p,p',p2][i]?=some x->[q,q',q2][i]?=some y->bare x bs=bare y cs)↔bare p bs=bare q cs/\bare p' bs=bare q' cs/\bare p2 bs=bare q2 cs:=λ{p q p' q' p2 q2}=>⟨λ h=>⟨h 0 p q rfl rfl,h 1 p' q' rfl rfl,h 2 p2 q2 rfl rfl⟩,λ h i x y hx hy=>by
  match i with
  |0=>cases hx;cases hy;exact h.1
  |1=>cases hx;cases hy;exact h.2.1
  |2=>cases hx;cases hy;exact h.2.2
  |_+3=>simp at hx⟩
 cases t with
 |say a =>
  obtain⟨b,rfl⟩:=kdS (k:=.say) hk.symm;rw[show (Tr.say a).parts=[a] from rfl,show (Tr.say b).parts=[b] from rfl,one];simp[bare]
 |bin o a b =>
  cases u with
  |bin o' c d =>
   have:o=o':=by cases o<;>cases o'<;>first|rfl|cases hk
   subst this;rw[show (Tr.bin o a b).parts=[a,b] from rfl,show (Tr.bin o c d).parts=[c,d] from rfl,two];simp[bare]
  |_=>cases o<;>cases hk
 |ite a b c =>
  obtain⟨d,e,f,rfl⟩:=kdS (k:=.ite) hk.symm;rw[show (Tr.ite a b c).parts=[a,b,c] from rfl,show (Tr.ite d e f).parts=[d,e,f] from rfl,thr];simp[bare]
 |lett x a b=>exact absurd rfl h2
 |_=>cases h1
theorem zEZ:∀(l kvs:List (Key × V)) (k:Key),(l.map (·.1)).Nodup->(∀p∈l,p.1=k->valV (zAt kvs l) k=some p.2)/\((∀p∈l,p.1≠k)->valV (zAt kvs l) k=valV kvs k)
 |[],kvs,k,_=>⟨(λ p hp=>nomatch hp),λ Ω=>rfl⟩
 |q::l,kvs,k,nd=>by
  rw[mL,rA] at nd;obtain⟨i1,i2⟩:=zEZ l (putK kvs q.1 q.2) k nd.2;have e:zAt kvs (q::l)=zAt (putK kvs q.1 q.2) l:=rfl;rw[e];refine⟨λ p hp hk=>?_,λ h=>?_⟩
  ·rcases lO.mp hp with rfl|hp
   ·rw[i2 λ r hr z=>nd.1 (by rw[hk,←z];exact mE.mpr ⟨r,hr,rfl⟩),zDU,if_pos hk.symm]
   ·exact i1 p hp hk
  ·rw[i2 λ r hr=>h r (List.mem_cons_of_mem _ hr),zDU,if_neg (λ z=>h q List.mem_cons_self z.symm)]
theorem zLI {kds:List (Str × Str)}(nd:(kds.map (·.1)).Nodup):((kdV kds).map (·.1)).Nodup:=by
 have e:(kdV kds).map (·.1)=(kds.map (·.1)).map (Sum.inr:Str->Key):=by unfold kdV;rw[nQ,nQ];rfl
 rw[e];exact List.pairwise_map.mpr (nd.imp λ h z=>h (Sum.inr.inj z))
theorem zG9 {kds:List (Str × Str)}(nd:(kds.map (·.1)).Nodup) {p:Str × Str}(h:p∈kds):wKd kds p.1 = .str p.2:=by
 unfold wKd;rw[(zEZ (kdV kds) [] (Sum.inr p.1) (zLI nd)).1 (Sum.inr p.1,.str p.2) (mE.mpr ⟨p,h,rfl⟩) rfl];rfl
theorem zKw {kds:List (Str × Str)}(nd:(kds.map (·.1)).Nodup) {g:Str}(h:∀p∈kds,p.1≠g):wKd kds g = .non:=by
 unfold wKd
 rw[(zEZ (kdV kds) [] (Sum.inr g) (zLI nd)).2 λ q hq z=>by
  obtain⟨p,hp,rfl⟩:=mE.mp hq;exact h p hp (Sum.inr.inj z)]
 rfl
theorem qu_ld {t:Tr}(g:GdT t):QuT t↔¬Ld t:=by
 constructor
 ·rintro h ⟨p,hp,e⟩
  rw[(h p hp).1] at e;cases e
 ·intro h p hp
  refine⟨?_,(g p hp).1⟩;cases e:p.kd.loud with
  |false=>rfl
  |true=>exact absurd ⟨p,hp,e⟩ h
def KOk (k:Str) (t:Tr):Prop:=(k = "number" -> t.kd = .num)/\¬Ld t
theorem zJT {k:Str}{t:Tr}(g:GdT t) (hk:KdN k):KOk k t↔OfK (.str k) t:=by
 have nn:¬("quiet" : Str) = "number" := by right
 have nl:t.kd = .num->¬Ld t:=λ z=>by
  obtain⟨n,rfl⟩:=kdS (k:=.num) z;rintro⟨p,hp,e⟩;have:p = .num n:=by simpa[Tr.subs] using hp
  rw[this] at e;cases e
 unfold KOk OfK;rcases hk with rfl|rfl
 ·rw[←qu_ld g]
  constructor
  ·exact λ h=>.inr (.inl ⟨rfl,h.2⟩)
  ·rintro (h|⟨_,h⟩|⟨h,_⟩)
   ·cases h
   ·exact⟨λ z=>absurd z nn,h⟩
   ·exact absurd (V.str.inj h) nn
 ·constructor
  ·exact λ h=>.inr (.inr ⟨rfl,h.1 rfl⟩)
  ·rintro (h|⟨h,_⟩|⟨_,h⟩)
   ·cases h
   ·exact absurd (V.str.inj h).symm nn
   ·exact⟨λ Ω=>h,nl h⟩
structure FlT (H:Hp) (φ:List (Str × Tr)) (kvs:List (Key × V)):Prop where
 pr:Paired (λ(q:Str × Tr) (kv:Key × V)=>kv.1=Sum.inr q.1/\Rep H q.2 kv.2) φ kvs
 nd:(φ.map (·.1)).Nodup
 gd:∀q∈φ,GdT q.2
theorem FlT.mono {H H':Hp}(k:Tk H H') {φ:List (Str × Tr)}{kvs:List (Key × V)}(h:FlT H φ kvs):FlT H' φ kvs:=⟨Paired.mapP h.pr λ Ω Ω z=>⟨z.1,z.2.mono k⟩,h.nd,h.gd⟩
theorem zLN {H:Hp}{g:Str}{φ:List (Str × Tr)}{kvs:List (Key × V)}(h:Paired (λ(q:Str × Tr) (kv:Key × V)=>kv.1=Sum.inr q.1/\Rep H q.2 kv.2) φ kvs) (e:valV kvs (Sum.inr g:Key)=none):∀u,(g,u)∉φ:=by
 induction h with
 |nil=>exact λ u m=>nomatch m
 | @cons q kv _ _ r _ ih =>
  intro u m
  by_cases c:kv.1=(Sum.inr g:Key)
  ·rw[zBB c] at e
   cases e
  ·rw[zBC c] at e
   rcases lO.mp m with z|z
   ·rw[←z] at r
    exact c r.1
   ·exact ih e u z
theorem zMw {H:Hp}{g:Str}{v:V}{φ:List (Str × Tr)}{kvs:List (Key × V)}(h:Paired (λ(q:Str × Tr) (kv:Key × V)=>kv.1=Sum.inr q.1/\Rep H q.2 kv.2) φ kvs) (e:valV kvs (Sum.inr g:Key)=some v):∃t,(g,t)∈φ/\Rep H t v:=by
 induction h with
 |nil=>cases e
 | @cons q kv _ _ r _ ih =>
  by_cases c:kv.1=(Sum.inr g:Key)
  ·rw[zBB c] at e
   cases e;have:q.1=g:=Sum.inr.inj (r.1.symm.trans c);subst this;exact⟨q.2,lP,r.2⟩
  ·rw[zBC c] at e
   obtain⟨t',m,p⟩:=ih e;exact⟨t',lQ _ m,p⟩
theorem FlT.put {H:Hp}{φ:List (Str × Tr)}{kvs:List (Key × V)}(h:FlT H φ kvs) {g:Str}{t:Tr}{v:V}(e:valV kvs (Sum.inr g:Key)=none) (r:Rep H t v) (gt:GdT t):FlT H (φ++[(g,t)]) (putK kvs (Sum.inr g) v):=by
 have e2:putK kvs (Sum.inr g:Key) v=kvs++[(Sum.inr g,v)]:=by
  unfold putK;rw[if_neg];rw[List.any_eq_true];rintro⟨p,hp,z⟩;have z':=lU z;have:(valV kvs (Sum.inr g:Key)).isSome=true:=zEB.mpr ⟨p,hp,z'⟩;rw[e] at this;cases this
 rw[e2];refine⟨zDR h.pr (.cons ⟨rfl,r⟩ .nil),?_,λ q hq=>?_⟩
 ·rw[mP,List.nodup_append]
  refine⟨h.nd,by simp,λ a ha b hb z=>?_⟩;obtain⟨q,hq,rfl⟩:=mE.mp ha;have hb':b=g:=by simpa using hb
  have:q=(g,q.2):=by rw[←hb',←z]
  exact zLN h.pr e q.2 (this▸hq)
 ·rcases lM.mp hq with z|z
  ·exact h.gd q z
  ·rw[mQ.mp z];exact gt
theorem zL4 {κ:Str->V}{A B:List (Tr × Tr)}{φ:List (Str × Tr)}:Jn κ (A++B) φ↔Jn κ (B++A) φ:=Jn.iff λ x=>by simp[or_comm]
theorem zDx {α β:Type}{f g:α->List β}:∀{l:List α},(∀x∈l,f x=g x)->l.flatMap f=l.flatMap g
 |[],_=>rfl
 |a::l,h=>by
  rw[rD,rD,h a List.mem_cons_self,zDx λ x hx=>h x (List.mem_cons_of_mem _ hx)]
theorem zJV (a pl:List Int) (t:Tr):kidsP (a++pl,t)=(kidsP (pl,t)).map λ x=>(a++x.1,x.2):=by
 unfold kidsP;rw[nQ];refine List.map_congr_left λ q Ω=>?_;show ((a++pl)++[_],_)=(a++(pl++[_]),_);rw[mX]
theorem zE2 (a:List Int) (t:Tr) (pl:List Int):psub (a++pl) t=(psub pl t).map λ x=>(a++x.1,x.2):=by
 rw[zEO,zEO pl,mL,zJV,List.flatMap_map,List.map_flatMap];congr 1;refine zDx λ x hx=>?_;obtain⟨q,hq,rfl⟩:=mE.mp hx;have hm:q.1∈t.parts:=List.fst_mem_of_mem_zipIdx hq;have:=zAv hm;exact zE2 a q.1 _
termination_by t.size
noncomputable def putI (i:Int) (y:Int × List Int):Int × List Int:=(y.1,i::y.2)
theorem zFD (R:List RlF) (i:Int) (t:Tr):dueS R [i] t=(dueS R [] t).map (putI i):=by
 have e:=zE2 [i] t [];rw[nP] at e;unfold dueS;rw[e,List.flatMap_map,List.map_flatMap];refine zDx λ x Ω=>?_;rw[nQ];rfl
theorem zMB (R:List RlF) (t:Tr):dueS R [] t=(hitR R 0 t).map (λ k=>(k,[]))++(kidsP ([],t)).flatMap λ x=>dueS R x.1 x.2:=by
 unfold dueS;rw[zEO,rD,List.flatMap_assoc]
theorem zJo {α β:Type}{f:α->List β}{n:Nat}:∀{l:List α},(∀x∈l,(f x).length<=n)->(l.flatMap f).length<=n * l.length
 |[],_=>by simp
 |a::l,h=>by
  rw[rD,mK,mM,Nat.mul_add];have h1:=h a lP;have h2:=zJo (l:=l) λ x hx=>h x (lQ _ hx)
  lia
theorem zHm {R:List RlF}(h:R.length<=3) (pl:List Int) (t:Tr):(dueS R pl t).length<=3 * t.size:=by
 have:=zJo (f:=λ(x:PlT)=>(hitR R 0 x.2).map λ k=>(k,x.1)) (n:=3) (l:=psub pl t) λ x Ω=>by
  rw[lE];exact mI (zDh R 0 x.2) h
 rw[zBQ] at this;exact this
theorem zFz (t:Tr) (pl:List Int):∀p∈psub pl t,p.1.length+1<=pl.length+t.size:=by
 intro p hp;rw[zEO] at hp;have:=zA3 t;rcases lO.mp hp with rfl|hp
 ·show pl.length+1<=_
  lia
 ·obtain⟨x,hx,hp⟩:=mW.mp hp
  obtain⟨q,hq,rfl⟩:=mE.mp hx;have hm:q.1∈t.parts:=List.fst_mem_of_mem_zipIdx hq;have h1:=zAv hm;have h2:=zFz q.1 _ p hp;simp at h2
  lia
termination_by t.size
theorem zGP {R:List RlF}{t:Tr}{y:Int × List Int}(h:y∈dueS R [] t):y.2.length+1<=t.size:=by
 obtain⟨x,hx,hy⟩:=mW.mp h;obtain⟨k,_,rfl⟩:=mE.mp hy;have:=zFz t [] x hx;simpa using this
theorem zIh {H H':Hp}{d:Addr}{o:HO}(hd:H d=none) (sb:SbD d (upd H d o) H'):Same H H':=λ b u e=>sb b u (zAV e hd) (by rw[zAd (zAV e hd)];exact e)
theorem zGW {X:Cx}(K:W.Frag) (hK:X.K=K):CallR X (.builtin "isinstance") (rIsi K):=hK▸zHr
def rEqLT:R2:=λ x y H Q=>E5 λ(p r:Addr) (xs ys:List V) (ds:List Dt)=>A8 (x = .ref p) (y = .ref r) (H p=some (.lst xs)) (H r=some (.lst ys)) (DRs H ds xs) (DRs H ds ys) (Dt.deeps ds<=100) (Q (.bl true) H)
theorem zLp {X:Cx}(hu:X.A.units+150<cLine):OpR X (compareOp .Eq) rEqLT:=by
 intro jP s σ H x y v u Q I rx ry h;obtain⟨p,r,xs,ys,ds,rfl,rfl,hp,hr,dx,dy,hdp,q⟩:=h;cases rx;cases ry;obtain⟨_,its,n,r1,l1,e1⟩:=I.lstM hp;obtain⟨_,its2,n2,r2,l2,e2⟩:=I.lstM hr;have L1:s.heap.IsList p its.toArray:=⟨_,e1,rfl,_,rfl⟩;have L2:s.heap.IsList r its2.toArray:=⟨_,e2,rfl,_,rfl⟩;have m1:=dx.length;have m2:=dy.length;have k1:=r1.length;have k2:=r2.length;refine SeqAt.eq_listAt (e:=λ Ω=>true) L1 L2 (by simp;lia) 61 (λ j h1 h2=>?_) ?_
 ·have g1:j<xs.length:=by rw[k1];simpa using h1
  have g2:j<ys.length:=by rw[k2];simpa using h2
  obtain⟨u1,eu,q1⟩:=r1.get (lY g1);obtain⟨u2,ev,q2⟩:=r2.get (lY g2);obtain⟨d1,ed,rd1⟩:=dx.get (lY g1);obtain⟨d2,ed2,rd2⟩:=dy.get (lY g2);have z1:its.toArray[j]=u1:=by obtain⟨_,q⟩:=lK.mp eu;simpa using q
  have z2:its2.toArray[j]=u2:=by obtain⟨_,q⟩:=lK.mp ev;simpa using q
  have ed12:d1=d2:=by rw[ed] at ed2;exact mG ed2
  subst ed12;rw[z1,z2];have key:=zGz I 100 X.A.in1 (mI (zEH ed) hdp) rd1 rd2 q1 q2 (by rw[show X.A.in1.units=X.A.units+1 from rfl];lia);rw[show Dt.beq d1 d1=true from Dt.beq_iff.mpr rfl] at key;exact key
 ·have:((List.range its.toArray.size).all λ Ω=>true)=true:=by simp
  rw[this];exact⟨.bl true,H,I,rfl,q⟩
def rNeRL:R2:=λ x y H Q=>E3 λ(p r:Addr) (xs:List V)=>A6 (x = .ref p) (y = .ref r) (H p=some (.lst xs)) (H r=some (.lst xs)) (∀x∈xs,∃b,x = .ref b) (Q (.bl false) H)
theorem zIv {X:Cx}(hu:X.A.units<cLine):OpR X (compareOp .NotEq) rNeRL:=by
 intro jP s σ H x y v u Q I rx ry h;obtain⟨p,r,xs,rfl,rfl,hp,hr,hx,q⟩:=h;cases rx;cases ry;obtain⟨_,its,n,r1,l1,e1⟩:=I.lstM hp;obtain⟨_,its2,n2,r2,l2,e2⟩:=I.lstM hr;have L1:s.heap.IsList p its.toArray:=⟨_,e1,rfl,_,rfl⟩;have L2:s.heap.IsList r its2.toArray:=⟨_,e2,rfl,_,rfl⟩;refine SeqAt.RcNeAt.lists (e:=λ Ω=>true) L1 L2 (by simp;lia) hu (λ j h1 h2=>?_) _ _ _ _ ?_
 ·have k1:=r1.length
  have k2:=r2.length;have g1:j<xs.length:=by rw[k1];simpa using h1
  obtain⟨u1,eu,q1⟩:=r1.get (lY g1);obtain⟨u2,ev,q2⟩:=r2.get (lY g1);obtain⟨b,eb⟩:=hx _ (List.getElem_mem g1);rw[eb] at q1 q2;cases q1;cases q2;have z1:its.toArray[j] = .ref b:=by obtain⟨_,q⟩:=lK.mp eu;simpa using q
  have z2:its2.toArray[j] = .ref b:=by obtain⟨_,q⟩:=lK.mp ev;simpa using q
  rw[z1,z2];exact SeqAt.EqAt.same _
 ·have:((List.range its.toArray.size).all λ Ω=>true)=true:=by simp
  rw[this];exact⟨.bl false,H,I,rfl,q⟩
noncomputable def stD (x:Int × List Int):Dt:=.tup [.int x.1,.tup (x.2.map Dt.int)]
theorem zHj (H:Hp):∀l:List Int,DRs H (l.map Dt.int) (l.map V.int)
 |[]=>.nil
 |i::l=>.cons (.int i) (zHj H l)
theorem zKz {H:Hp}{S:List (Int × List Int)}{us:List V}(h:Paired (StV H) S us):DRs H (S.map stD) us:=by
 induction h with
 |nil=>exact .nil
 |cons r _ ih =>
  obtain⟨b,c,rfl,hb,hc⟩:=r;exact .cons (.tup hb (.cons (.int _) (.cons (.tup hc (zHj H _)) .nil))) ih
theorem zGN:∀l:List Int,Dt.deeps (l.map Dt.int)=0
 |[]=>rfl
 |i::l=>by
  show max (Dt.deep (.int i)) (Dt.deeps (l.map Dt.int))=0;rw[zGN l];rfl
theorem zIZ:∀S:List (Int × List Int),Dt.deeps (S.map stD)<=2
 |[]=>mB _
 |x::S=>by
  show max (Dt.deep (stD x)) (Dt.deeps (S.map stD))<=2;refine Nat.max_le.mpr ⟨?_,zIZ S⟩;have:=zGN x.2;simp[stD,Dt.deep,Dt.deeps,this]
theorem cut40 (ns:List Int):∃ms:List Int,cutV (ns.map V.int) (some 30) (some 70)=ms.map V.int/\ms.length<=40:=by
 have e1:HT.sIx ns.length 0 (some 30)=min 30 ns.length:=HT.sIx_nat ns.length 0 30;have e2:HT.sIx ns.length ns.length (some 70)=min 70 ns.length:=HT.sIx_nat ns.length ns.length 70;refine⟨(ns.drop (min 30 ns.length)).take (min 70 ns.length - min 30 ns.length),?_,?_⟩
 ·unfold cutV
  rw[lE,e1,e2,←List.map_drop,←List.map_take]
 ·rw[mN]
  lia
theorem zDt {α β:Type}{F:α->V->Prop}{G:β->V->Prop}{f:α->β}(h:∀a v,F a v->G (f a) v) {as:List α}{us:List V}(p:Paired F as us):Paired G (as.map f) us:=by
 induction p with
 |nil=>exact .nil
 |cons r _ ih=>exact .cons (h _ _ r) ih
end L2
namespace K23
open PySem PySem.Spec L2 PyProof.Rows
section
variable {P:Program}{w:World}{K:W.Frag}{mg:Str->Option Value}{base:Heap}{k n:Nat}{f g g1 g2 g3 g4 g5 g6 g7 la lv:Addr}{fd gd gd1 gd2 gd3 gd4 gd5 gd6 gd7:FuncData}
def top (i:Nat):Stmt:=PySem.Challenge.pw_recastle_k23_all_steps.main.body.getD i (.Pass ⟨0,0,0,0⟩)
abbrev zCN:Stmt:=top 2
theorem zEn:zAW ["tree"] ["tree"] (zAM zCN):=scI
abbrev zGm:Stmt:=top 3
theorem zKH:zAW ["tree"] ["tree"] (zAM zGm):=scI
abbrev zDG:Stmt:=top 12
theorem zD2:zAW ["one", "other", "pairs", "pair"] ["one", "other", "pairs"] (zAM zDG):=scI
abbrev zBf:Stmt:=top 13
theorem zCg:zAW ["one", "other", "pairs"] ["one", "other", "pairs"] (zAM zBf):=scI
abbrev zCU:Stmt:=top 14
theorem zEp:zAW ["one", "other", "pairs"] ["one", "other", "pairs"] (zAM zCU):=scI
abbrev zBt:Stmt:=top 15
theorem zC5:zAW ["one", "other", "pairs"] ["one", "other", "pairs"] (zAM zBt):=scI
abbrev zCt:Stmt:=top 16
theorem zEL:zAW ["one", "other", "number", "pairs"] ["one", "other", "number", "pairs"] (zAM zCt):=scI
noncomputable def zEj (t:Tr):Int:=t.head
def zCz:Sp:=λ vs H Q Ω=>E2 λ t v=>A3 (vs=[v]) (Rep H t v) (Q (.int (zEj t)) H)
theorem zEq {k:Nat}{f:Addr}{fd:FuncData}{lv:Addr}(F:Fun K "parts_begin" "parts_begin" zCN f fd) (z_len:mg "len" = none) (zM2:mg "LEAF_SIGNS" = some (.ref lv)) (hL:zDj K lv) :
  FnOk P w K mg base CX0 (k+1) f fd ["tree"] zCz:=by
 refine F.ok zEn 75 66
 ·obtain⟨t,v,rfl,_⟩:=h
  rfl
 obtain⟨t,v,rfl,hR,q⟩:=h
 refine⟨_,(zAF (ps_if (zAJ (r:=rIn K false) zCH 67 (zFT (v:=.ref _) 102 zM2 102) rfl) (zAE (zAU (cL z_len (zAA (pv 0) zAD)))) zAN)
  (zAF (ps_if (zAJ op_eq 67 zAe 91) (zAE (zAU zAH)) zAN)
  (zAE (zAU zAH)))),?_⟩
 obtain⟨a,hs,us,rfl,ha,hl,hp⟩:=hR.all;have h0:atI (V.str t.kd.s::hs++us) 0=some (.str t.kd.s):=zAS (j:=0) rfl;refine⟨_,rfl,a,_,0,_,rfl,rfl,SqT.of ha,h0,lv,zCE,rfl,.inr (.inr hL),rfl,rfl,_,rfl,?_⟩;show if inV (.str t.kd.s) zCE=true then _ else _
 rw[zEG];refine ite2 77 77
 ·refine⟨_,rfl,a,_,rfl,.inr (SqT.of ha),?_⟩
  have e:((V.str t.sign::hs++us).length:Int)=zEj t:=by
   have hu:us.length=0:=by
    rw[←hp.length];cases t with
    |bin o a b=>cases o<;>cases c
    |_=>first|rfl|cases c
   rw[mK,mM,hu];unfold zEj
   lia
  rw[e];exact q
 ·refine⟨_,rfl,a,_,0,_,rfl,rfl,SqT.of ha,h0,rfl,_,rfl,?_⟩
  refine ite2 (λ d=>?_) (λ d=>?_)
  ·have z:t.kd = .lett:=Kd.eq_iff.mp (lU d)
   have e:zEj t=2:=by
    cases t with
    |lett x a b=>rfl
    |bin o a b=>cases o<;>cases z
    |_=>cases z
   rw[e] at q;exact q
  ·have e:zEj t=1:=by
    cases t with
    |lett x a b=>exact absurd rfl d
    |bin o a b=>rfl
    |ite a b c=>rfl
    |say a=>rfl
    |_=>exact absurd rfl c
   rw[e] at q;exact q
def zA0:Sp:=λ vs H Q Ω=>E2 λ t v=>A3 (vs=[v]) (Rep H t v) (∀p H' us,Same H H'->H' p=some (.tup us)->Paired (Rep H') t.parts us->Q (.ref p) H')
theorem zKZ (F:Fun K "parts" "parts" zGm f fd) (zM3:FnB P w K mg base k "parts_begin" g gd ["tree"] zCz) :
  FnOk P w K mg base CX0 (k+1) f fd ["tree"] zA0:=by
 refine F.ok zKH 75 66
 ·obtain⟨t,v,rfl,_⟩:=h
  rfl
 obtain⟨t,v,rfl,hR,q⟩:=h;refine⟨_,(zAE (zAU (zA1 zGk (pv 0) (zAs (pe_cl zM3 hr (zAA (pv 0) zAD))) zB4))),?_⟩;obtain⟨a,hs,us,rfl,ha,hl,hp⟩:=hR.all;have hn:(V.str t.sign::hs++us).length=t.head+us.length:=by rw[mK,mM];lia
 have h1:=zKn t
 have e1:HT.sIx (V.str t.sign::hs++us).length 0 (some (zEj t))=t.head:=by
  show HT.sIx _ 0 (some ((t.head:Nat):Int))=_;rw[HT.sIx_nat,hn]
  lia
 have e2:cutV (V.str t.sign::hs++us) (some (zEj t)) none=us:=by
  unfold cutV;rw[e1,HT.sIx_none,hn]
  have:(V.str t.sign::hs++us).drop t.head=us:=by
   rw[←hl];exact List.drop_left' rfl
  rw[this,mU 61]
 refine⟨_,rfl,_,rfl,t,_,rfl,hR,_,rfl,a,_,rfl,ha,λ z=>?_,λ p H' g e=>?_⟩
 ·rw[e1] at z
  lia
 ·rw[e2] at e
  exact q p H' us g e (Paired.mapP hp λ Ω Ω r=>r.mono g.tk)
def zD1:Sp:=λ vs H Q Ω=>E4 λ(x y:Str) (b:Addr) (ps:List (Str × Str))=>A3 (vs=[.str x,.str y,.ref b]) (PsRep H ps b) (∀H',Same H H'->Q (.bl (sn x y ps.reverse)) H')
theorem zF7 (F:Fun K "same_name" "same_name" zDG f fd) (z_reversed:mg "reversed" = none):FnOk P w K mg base CX0 (k+1) f fd ["one", "other", "pairs"] zD1:=by
 refine F.ok zD2 75 66
 ·obtain⟨x,y,b,ps,rfl,_⟩:=h
  rfl
 obtain⟨x,y,b,ps,rfl,⟨us,hb,hp⟩,q⟩:=h;have hu5:=hu150 hr
 refine⟨_,(zAF (zAr PassesOwn.never rfl (zLm 102 z_reversed (zAA (pv 2) zAD)) (pGn (i:=3) zD2.nd) (zAE (ps_if (pw_or (zAJ op_eq (iC (r:=rIxT K) zAL (pv 3)) (pv 0) 91) (zCF (zAJ op_eq (iC (r:=rIxT K) zAL (pv 3)) (pv 1) 91))).pt (zAE (zAU (zAx (zHZ hu5) (pv 3) (zAZ (zAA (pv 0) (zAA (pv 1) zAD)):PE _ _ _) 91))) zAN)))
  (zAE (zAU (zAx op_eq (pv 0) (pv 1) 91)))),?_⟩
 refine⟨_,rfl,b,rfl,us,SqT.of hb,?_⟩;refine zL9 (xs:=us) (λ i σ' H'=>∃s3,A3 (σ'=[some (.str x),some (.str y),some (.ref b),s3]) (H'=H) (∀p∈ps.reverse.take i,p.1≠x/\p.2≠y)) ?_ ?_ ?_ ?_
 ·exact⟨none,rfl,rfl,by simp⟩
 ·rintro i σ1 H1 _ ⟨s3,rfl,rfl,_⟩
  exact SqT.of hb
 ·rintro i v σ1 H1 hi hx ⟨s3,rfl,rfl,hall⟩
  obtain⟨p,ep,c,rfl,hc⟩:=zAP hp hx;have lp:=hp.length
  have er:ps.reverse[i]?=some p:=by
   rw[List.getElem?_reverse 61,lp];exact ep
  have dr:ps.reverse.drop i=p::ps.reverse.drop (i+1):=by
   obtain⟨hl,e⟩:=lK.mp er;rw[List.drop_eq_getElem_cons hl,e]
  have hsn:=zGj x y ps.reverse i hall;rw[dr,sn] at hsn
  have fin:(p.1=x\/p.2=y)->∀t,H1 t=none->rEqD false (.ref c) (.ref t) (upd H1 t (.tup [.str x,.str y])) Q:=by
   intro ho t ht;have g:=zAC (o:=.tup [.str x,.str y]) ht;refine⟨[.str p.1,.str p.2],[.str x,.str y],.tup (g _ _ hc) (.cons (.str _) (.cons (.str _) .nil)),.tup zAB (.cons (.str _) (.cons (.str _) .nil)),(by show 1<=150;decide),?_⟩;have q':=q _ g;rw[hsn,if_pos ho] at q'
   have e:Dt.beqs [.str p.1,.str p.2] [.str x,.str y]=decide (p.1=x/\p.2=y):=by
    rw[Bool.eq_iff_iff,Dt.beqs_iff,decide_eq_true_iff];simp
   rw[if_neg Bool.false_ne_true,e];exact q'
  refine⟨_,rfl,c,_,0,_,rfl,rfl,SqT.of hc,rfl,_,rfl,rfl,_,rfl,?_⟩;refine ite2 (λ d=>?_) (λ d=>?_)
  ·have d':p.1=x:=V.str.inj (lU d)
   refine iteT ⟨_,rfl,_,rfl,_,rfl,(by show 2<=sizeLine;decide),λ t ht=>?_⟩;exact fin (.inl d') t ht
  ·have d':p.1≠x:=λ z=>d (by rw[z];exact lW rfl)
   refine⟨_,rfl,c,_,1,_,rfl,rfl,SqT.of hc,rfl,_,rfl,rfl,_,rfl,?_⟩;refine ite2 (λ d2=>?_) (λ d2=>?_)
   ·have d3:p.2=y:=V.str.inj (lU d2)
    refine⟨_,rfl,_,rfl,_,rfl,(by show 2<=sizeLine;decide),λ t ht=>?_⟩;exact fin (.inr d3) t ht
   ·have d3:p.2≠y:=λ z=>d2 (by rw[z];exact lW rfl)
    refine⟨some (.ref c),rfl,rfl,λ r hr'=>?_⟩;rw[zAY er,nL,mQ] at hr';rcases hr' with h|h
    ·exact hall r h
    ·subst h;exact⟨d',d3⟩
 ·rintro σ1 H1 ⟨s3,rfl,rfl,hall⟩
  refine⟨_,rfl,_,rfl,rfl,?_⟩
  have e:sn x y ps.reverse=decide (x=y):=by
   rw[zGj x y ps.reverse us.length hall,List.drop_of_length_le (by rw[List.length_reverse,hp.length];exact lS _)];rfl
  have q':=q H1 (.refl _);rw[e] at q';show Q (V.bl (decide (V.str x=V.str y))) H1;rw[zFc];exact q'
def zB1:Sp:=λ vs H Q Ω=>E6 λ(l m:Lf) (u v:V) (b:Addr) (ps:List (Str × Str))=>A5 (vs=[u,v,.ref b]) (LfRep H l u) (LfRep H m v) (PsRep H ps b) (∀H',Same H H'->Q (.bl (decide (bareL l (ps.map Prod.fst)=bareL m (ps.map Prod.snd)))) H')
theorem zEY (F:Fun K "alike_leaves" "alike_leaves" zBf f fd) (zM4:FnB P w K mg base k "same_name" g1 gd1 ["one", "other", "pairs"] zD1):FnOk P w K mg base CX0 (k+1) f fd ["one", "other", "pairs"] zB1:=by
 refine F.ok zCg 75 66
 ·obtain⟨l,m,u,v,b,ps,rfl,_⟩:=h
  rfl
 obtain⟨l,m,u,v,b,ps,rfl,hl,hm,hb,q⟩:=h;have hu5:=hu150 hr
 refine⟨_,(zAF (ps_if (zB3 (zAJ op_eq 67 zAe 91) (zBa (zAJ op_eq 80 zAe 91))).pt (zAE (zAU (pe_cl zM4 hr (zAA 67 (zAA 80 (zAA (pv 2) zAD)))))) zAN)
  (zAE (zAU (zAx (zHZ hu5) (pv 0) (pv 1) 91)))),?_⟩
 obtain⟨a1,r1,rfl,h1⟩:=hl.all;obtain⟨a2,r2,rfl,h2⟩:=hm.all
 have other:¬(l.isName=true/\m.isName=true)->rEqD false (.ref a1) (.ref a2) H Q:=by
  intro hn;refine⟨_,_,hl.dr,hm.dr,?_,?_⟩
  ·cases l<;>(first|(show 1<=150;decide)|(show 2<=150;decide))
  ·rw[if_neg Bool.false_ne_true,zKt hn]
   exact q H (.refl H)
 refine⟨_,rfl,a1,_,0,_,rfl,rfl,SqT.of h1,(zAS (j:=0) rfl:atI (V.str l.sg::r1) 0=some (.str l.sg)),rfl,_,rfl,?_⟩;refine ite2 (λ d=>?_) (λ d=>?_)
 ·refine⟨_,rfl,a2,_,0,_,rfl,rfl,SqT.of h2,(zAS (j:=0) rfl:atI (V.str m.sg::r2) 0=some (.str m.sg)),rfl,_,rfl,?_⟩
  refine ite2 (λ d2=>?_) (λ d2=>?_)
  ·obtain⟨x,rfl⟩:=zIf d
   obtain⟨y,rfl⟩:=zIf d2;obtain⟨c1,e1,k1⟩:=hl;obtain⟨c2,e2,k2⟩:=hm;cases e1;cases e2;refine⟨_,rfl,_,_,1,_,rfl,rfl,SqT.of k1,rfl,_,rfl,_,_,1,_,rfl,rfl,SqT.of k2,rfl,_,rfl,x,y,b,ps,rfl,hb,λ H' g=>?_⟩;have q':=q H' g;rw[zLa];exact q'
  ·refine⟨_,rfl,_,rfl,other λ z=>?_⟩
   exact d2 (zGM z.2)
 ·refine iteF ⟨_,rfl,_,rfl,other λ z=>?_⟩
  exact d (zGM z.1)
def zC1:Sp:=λ vs H Q Ω=>E8 λ(as bs:List Atom) (a1 a2 b:Addr) (us ws:List V) (ps:List (Str × Str))=>A8 (vs=[.ref a1,.ref a2,.ref b]) (H a1=some (.tup us)) (Paired (AtRep H) as us) (us.length<=1000) (H a2=some (.tup ws)) (Paired (AtRep H) bs ws) (PsRep H ps b) (∀H',Same H H'->Q (.bl (decide (as.map (bareA (ps.map Prod.fst))=bs.map (bareA (ps.map Prod.snd))))) H')
theorem zEs (F:Fun K "alike_atoms" "alike_atoms" zCU f fd) (z_len:mg "len" = none) (z_all:mg "all" = none) (z_zip:mg "zip" = none) (zM5:FnB P w K mg base k "alike_leaves" g1 gd1 ["one", "other", "pairs"] zB1):FnOk P w K mg base CX0 (k+1) f fd ["one", "other", "pairs"] zC1:=by
 refine F.ok zEp 75 66
 ·obtain⟨as,bs,a1,a2,b,us,ws,ps,rfl,_⟩:=h
  rfl
 obtain⟨as,bs,a1,a2,b,us,ws,ps,rfl,h1,p1,hz,h2,p2,hb,q⟩:=h;have l1:=p1.length;have l2:=p2.length
 refine⟨_,(zAF (ps_if (zAJ op_ne (cL z_len (zAA (pv 0) zAD)) (cL z_len (zAA (pv 1) zAD)) 91) (zAE (zAU pe_bl)) zAN)
  (zAE (zAU (zBL (zJ3 rfl) 102 z_all PyProof.Rows.boot_all (zAA (zBg ["mine", "its", "pairs"] [none,none,some 2] rfl (zMY 102 z_zip (zAA (pv 0) (zAA (pv 1) zAD))) (λ Ω Ω Ω Ω Ω=>(zEQ (K:=K) (n:=2) rfl rfl (zAa (zA4 (i:=0) (show List.Nodup (["mine", "its", "pairs"]:List Str) by right) rfl (Or.inl rfl)) (zAa (zA4 (i:=1) (show List.Nodup (["mine", "its", "pairs"]:List Str) by right) rfl (Or.inl rfl)) zBK)))) (λ Ω Ω Ω Ω Ω=>zBb) (λ Ω Ω Ω Ω Ω=>(pe_cl zM5 hr (zAA (pv 0) (zAA (pv 1) (zAA (pv 2) zAD))))) rfl) zAD))))),?_⟩
 refine⟨_,rfl,a1,_,rfl,.inr (SqT.of h1),_,rfl,a2,_,rfl,.inr (SqT.of h2),rfl,_,rfl,?_⟩;refine ite2 (λ d=>?_) (λ d=>?_)
 ·have ne:us.length≠ws.length:=λ z=>by rw[z] at d;simp at d
  have q':=q H (.refl H);have e:¬(as.map (bareA (ps.map Prod.fst))=bs.map (bareA (ps.map Prod.snd))):=λ z=>ne (by have:=congrArg List.length z;simpa[l1,l2] using this);rw[decide_eq_false e] at q';exact q'
 ·have eq:us.length=ws.length:=by
   by_cases z:us.length=ws.length
   ·exact z
   ·exact absurd (show (!decide (V.int (us.length:Int)=V.int (ws.length:Int)))=true by
     rw[decide_eq_false (λ y=>z (by have:=V.int.inj y;lia))];rfl) d
  refine⟨_,rfl,_,rfl,a1,a2,us,ws,rfl,h1,h2,λ acc hacc=>?_⟩;refine zJz (xs:=us) (ys:=ws) (λ i H'=>Same H H'/\H' acc=some (.lst ((((as.zip bs).take i).map λ p=>decide (bareA (ps.map Prod.fst) p.1=bareA (ps.map Prod.snd) p.2)).map V.bl))) ⟨zAC hacc,zAB⟩ (λ i H' Ω h=>⟨h.1 _ _ h1,h.1 _ _ h2⟩) ?_ ?_
  ·rintro j x y T Hx hx hy ⟨gx,ezs⟩ hT
   obtain⟨m,em,rm⟩:=zAP p1 hx;obtain⟨m',em',rm'⟩:=zAP p2 hy;have g8:=zAC (o:=.tup [x,y]) hT;have gz:=gx.trans g8;refine⟨T,_,rfl,SqT.of zAB,rfl,_,_,rfl,_,_,rfl,rfl,.skip (.skip (.keep .nil)),?_⟩;refine⟨_,rfl,_,rfl,_,rfl,m.lf,m'.lf,x,y,b,ps,rfl,(rm.mono gz.tk).lf,(rm'.mono gz.tk).lf,hb.mono gz.tk,λ H' g9=>?_⟩;have ga:=gz.trans g9;refine⟨_,g9 _ _ (g8 _ _ ezs),zAR ?_,zAb ga hacc,?_⟩
   ·simp only[lE,mN,List.length_zip]
    lia
   ·have ez:(as.zip bs)[j]?=some (m,m'):=by rw[List.getElem?_zip_eq_some];exact⟨em,em'⟩
    rw[zAB,zAY ez,mP,mP];rfl
  ·rintro H5 ⟨g5,e5⟩
   refine⟨acc,_,rfl,e5,?_⟩;rw[mU (by simp only[List.length_zip];lia),zJ8 _ _ _ _ 61];exact q H5 g5
abbrev zGn:Stmt:=top 17
theorem zBr:zAW ["one", "other", "level", "deeper", "mine", "its", "pairs", "number", "both"] ["one", "other"] (zAM zGn):=scI
def zC0:Sp:=λ vs H Q Ω=>E6 λ(t u:Tr) (v1 v2:V) (b:Addr) (ps:List (Str × Str))=>A5 (vs=[v1,v2,.ref b]) (Rep H t v1) (Rep H u v2) (PsRep H ps b) (∀H',Same H H'->Q (.bl (hdA t u ps)) H')
theorem zEr (F:Fun K "alike_heads" "alike_heads" zBt f fd) (zM2:mg "LEAF_SIGNS" = some (.ref lv)) (hL:zDj K lv)
  (zM6:FnB P w K mg base k "alike_atoms" g1 gd1 ["one", "other", "pairs"] zC1) (zM5:FnB P w K mg base k "alike_leaves" g2 gd2 ["one", "other", "pairs"] zB1):FnOk P w K mg base CX0 (k+1) f fd ["one", "other", "pairs"] zC0:=by
 refine F.ok zC5 75 66
 ·obtain⟨t,u,v1,v2,b,ps,rfl,_⟩:=h
  rfl
 obtain⟨t,u,v1,v2,b,ps,rfl,hR,hS,hb,q⟩:=h
 refine⟨_,(zAF (ps_if (zAJ op_ne 67 80 91) (zAE (zAU pe_bl)) zAN)
  (zAF (ps_if (zAJ op_eq 67 zAe 91) (zAE (zAU (zF4 (zAx op_eq 67 80 91) (zCk (pe_cl zM6 hr (zAA 67 (zAA 80 (zAA (pv 2) zAD)))))))) zAN)
  (zAE (zAU (pe_or (zAx (r:=rIn K true) zCm 67 (zFT (v:=.ref _) 102 zM2 102) rfl) (zCk (pe_cl zM5 hr (zAA (pv 0) (zAA (pv 1) (zAA (pv 2) zAD)))))))))),?_⟩
 obtain⟨a1,hs1,us1,rfl,h1,hl1,hp1⟩:=hR.all;obtain⟨a2,hs2,us2,rfl,h2,hl2,hp2⟩:=hS.all;have h01:atI (V.str t.kd.s::hs1++us1) 0=some (.str t.kd.s):=zAS (j:=0) rfl;have h02:atI (V.str u.kd.s::hs2++us2) 0=some (.str u.kd.s):=zAS (j:=0) rfl;refine⟨_,rfl,a1,_,0,_,rfl,rfl,SqT.of h1,h01,_,rfl,a2,_,0,_,rfl,rfl,SqT.of h2,h02,rfl,_,rfl,?_⟩;refine ite2 (λ d=>?_) (λ d=>?_)
 ·have ne:¬t.kd=u.kd:=λ z=>by rw[z] at d;simp at d
  have q':=q H (.refl H);unfold hdA at q';rw[decide_eq_false ne,Bool.false_and] at q';exact q'
 ·have hk:t.kd=u.kd:=by
   by_cases z:t.kd=u.kd
   ·exact z
   ·exact absurd (show (!decide (V.str t.kd.s=V.str u.kd.s))=true by rw[decide_eq_false (λ y=>z (Kd.eq_iff.mp y))];rfl) d
  have q0:∀H',Same H H'->Q (.bl (hdG t u ps)) H':=λ H' g=>by
   have q':=q H' g;unfold hdA at q';rw[decide_eq_true hk,Bool.true_and] at q';exact q'
  refine⟨_,rfl,a1,_,0,_,rfl,rfl,SqT.of h1,h01,rfl,_,rfl,?_⟩;refine ite2 77 77
  ·have z:t.kd = .gap:=Kd.eq_iff.mp (lU c)
   rcases zCo hk with ⟨n,m,rfl,rfl⟩|⟨n,m,rfl,rfl⟩|⟨n,m,rfl,rfl⟩|⟨n,m,rfl,rfl⟩|⟨g,as,g',as',rfl,rfl⟩|⟨a,a',rfl,rfl⟩|⟨o,a,b,a',b',rfl,rfl⟩|⟨a,b,c,a',b',c',rfl,rfl⟩|⟨x,a,b,y,a',b',rfl,rfl⟩
   ·cases z
   ·cases z
   ·cases z
   ·cases z
   ·obtain⟨c1,b1,us,e1,k1,k2,hz,hp⟩:=hR
    obtain⟨c2,b2,ws,e2,m1,m2,hz2,hp'⟩:=hS;cases e1;cases e2;refine⟨_,rfl,a1,_,1,_,rfl,rfl,SqT.of k1,rfl,_,rfl,a2,_,1,_,rfl,rfl,SqT.of m1,rfl,rfl,_,rfl,?_⟩;rw[zFc];refine ite2 (λ e=>?_) (λ e=>?_)
    ·refine⟨_,rfl,a1,_,2,_,rfl,rfl,SqT.of k1,rfl,_,rfl,a2,_,2,_,rfl,rfl,SqT.of m1,rfl,_,rfl,as,as',b1,b2,b,us,ws,ps,rfl,k2,hp,hz,m2,hp',hb,λ H' gg=>?_⟩
     have q':=q0 H' gg;unfold hdG at q';dsimp only at q';rw[show decide (g=g')=true by simpa using e,Bool.true_and] at q';exact q'
    ·have q':=q0 H (.refl H)
     unfold hdG at q';dsimp only at q';rw[show decide (g=g')=false by simpa using e,Bool.false_and] at q';exact q'
   ·cases z
   ·cases o<;>cases z
   ·cases z
   ·cases z
  ·have nz:t.kd ≠ .gap:=λ z=>c (by rw[z];exact lW rfl)
   refine⟨_,rfl,a1,_,0,_,rfl,rfl,SqT.of h1,h01,lv,zCE,rfl,.inr (.inr hL),rfl,rfl,_,rfl,?_⟩;show if (!inV (.str t.kd.s) zCE)=true then _ else _
   rw[zEG]
   have inner:t.kd.leaf=false->hdG t u ps=true:=by
    intro hlf;unfold hdG;split
    ·exact absurd rfl nz
    ·rw[hlf];rfl
   refine ite2 (λ e=>?_) (λ e=>?_)
   ·have hlf:t.kd.leaf=false:=by simpa using e
    have q':=q0 H (.refl H);rw[inner hlf] at q';exact q'
   ·have hlf:t.kd.leaf=true:=by simpa using e
    rcases zCo hk with ⟨n,m,rfl,rfl⟩|⟨n,m,rfl,rfl⟩|⟨n,m,rfl,rfl⟩|⟨n,m,rfl,rfl⟩|⟨g,as,g',as',rfl,rfl⟩|⟨a,a',rfl,rfl⟩|⟨o,a,b,a',b',rfl,rfl⟩|⟨a,b,c,a',b',c',rfl,rfl⟩|⟨x,a,b,y,a',b',rfl,rfl⟩
    ·exact⟨_,rfl,_,rfl,_,rfl,.num n,.num m,_,_,b,ps,rfl,hR,hS,hb,λ H' g=>q0 H' g⟩
    ·exact⟨_,rfl,_,rfl,_,rfl,.name n,.name m,_,_,b,ps,rfl,hR,hS,hb,λ H' g=>q0 H' g⟩
    ·exact⟨_,rfl,_,rfl,_,rfl,.ask n,.ask m,_,_,b,ps,rfl,hR,hS,hb,λ H' g=>q0 H' g⟩
    ·exact⟨_,rfl,_,rfl,_,rfl,.stop n,.stop m,_,_,b,ps,rfl,hR,hS,hb,λ H' g=>q0 H' g⟩
    ·exact absurd rfl nz
    ·cases hlf
    ·cases o<;>cases hlf
    ·cases hlf
    ·cases hlf
def zEJ:Sp:=λ vs H Q Ω=>E7 λ(t u:Tr) (v1 v2:V) (i:Int) (b:Addr) (ps:List (Str × Str))=>A7 (vs=[v1,v2,.int i,.ref b]) (Rep H t v1) (Rep H u v2) (t.kd=u.kd) (PsRep H ps b) (ps.length<=900) (∀p H',Same H H'->PsRep H' (pIn t u i ps) p->Q (.ref p) H')
theorem zGs (F:Fun K "pairs_in" "pairs_in" zCt f fd):FnOk P w K mg base CX0 (k+1) f fd ["one", "other", "number", "pairs"] zEJ:=by
 refine F.ok zEL 75 66
 ·obtain⟨t,u,v1,v2,i,b,ps,rfl,_⟩:=h
  rfl
 obtain⟨t,u,v1,v2,i,b,ps,rfl,hR,hS,hk,hb,hlen,q⟩:=h
 refine⟨_,(zAF (ps_if (zB3 (zAJ op_eq 67 zAe 91) (zBa (zAJ op_eq (pv 2) zAH 91))).pt (zAE (zAU (pe_op zCB (pv 3) (zAZ (zAA (zAZ (zAA 67 (zAA 80 zAD)):PE _ _ _) zAD):PE _ _ _)))) zAN)
  (zAE (zAU (pv 3)))),?_⟩
 obtain⟨a,hs,us,rfl,ha,hl,hp⟩:=hR.all;have h0:atI (V.str t.kd.s::hs++us) 0=some (.str t.kd.s):=zAS (j:=0) rfl;refine⟨_,rfl,a,_,0,_,rfl,rfl,SqT.of ha,h0,rfl,_,rfl,?_⟩;refine ite2 77 77
 ·have z:t.kd = .lett:=Kd.eq_iff.mp (lU c)
  refine⟨_,rfl,rfl,_,rfl,?_⟩;rcases zCo hk with ⟨n,m,rfl,rfl⟩|⟨n,m,rfl,rfl⟩|⟨n,m,rfl,rfl⟩|⟨n,m,rfl,rfl⟩|⟨g,as,g',as',rfl,rfl⟩|⟨a,a',rfl,rfl⟩|⟨o,a,b,a',b',rfl,rfl⟩|⟨a,b,c,a',b',c',rfl,rfl⟩|⟨x,a',b',y,a'',b'',rfl,rfl⟩
  ·cases z
  ·cases z
  ·cases z
  ·cases z
  ·cases z
  ·cases z
  ·cases o<;>cases z
  ·cases z
  ·obtain⟨c1,u1,w1,e1,k1,_⟩:=hR
   obtain⟨c2,u2,w2,e2,k2,_⟩:=hS;cases e1;subst e2;refine ite2 (λ d=>?_) (λ d=>?_)
   ·have d':i=1:=V.int.inj (lU d)
    subst d';obtain⟨vs,hb1,hb2⟩:=hb;have lvs:=hb2.length;refine⟨_,rfl,_,rfl,a,_,1,_,rfl,rfl,SqT.of k1,rfl,_,rfl,c2,_,1,_,rfl,rfl,SqT.of k2,rfl,(by show 2<=sizeLine;decide),λ p hpn=>⟨(by show 1<=sizeLine;decide),λ p2 hp2=>?_⟩⟩;have g1:=zAC (o:=.tup [.str x,.str y]) hpn;have g2:=zAC (o:=.tup [.ref p]) hp2;have g12:=g1.trans g2;refine⟨b,p2,_,[.ref p],rfl,rfl,g12 _ _ hb1,zAB,zAf (by show vs.length+1<=1000;lia),λ r H' g e=>?_⟩;refine q r H' (g12.trans g) ⟨_,e,?_⟩;show Paired (PrRep H') (if (1:Int)=1 then ps++[(x,y)] else ps) _;rw[if_pos rfl];exact zAK (Paired.mapP hb2 λ Ω Ω z=>z.mono (g12.trans g).tk) (.cons ⟨p,rfl,g _ _ (g2 _ _ zAB)⟩ .nil)
   ·have d':¬i=1:=λ z=>d (by rw[z];exact lW rfl)
    refine⟨_,rfl,q b H (.refl H) ?_⟩;show PsRep H (if i=1 then ps++[(x,y)] else ps) b;rw[if_neg d'];exact hb
 ·refine iteF ?_
  refine⟨_,rfl,q b H (.refl H) ?_⟩
  have e:pIn t u i ps=ps:=by
   cases t with
   |lett x s t=>exact absurd rfl c
   |_=>rfl
  rw[e];exact hb
theorem zFl (l:List Trip) (h:∀q∈l,hdA q.1 q.2.1 q.2.2=true):tot2 (l.flatMap λ q=>kids2 q.1 q.2.1 q.2.2)+l.length=tot2 l:=by
 induction l with
 |nil=>rfl
 |cons a r ih =>
  rw[rD,zC8,zEI,mM];have hk:a.1.kd=a.2.1.kd:=by have:=h a 68;unfold hdA at this;simp at this;exact this.1
  have:=zGH (ps:=a.2.2) hk;have:=ih λ q hq=>h q (by simp[hq])
  lia
theorem zIT (l:List Trip) (i:Nat):tot2 (l.take i)<=tot2 l:=by
 conv=>rhs;rw[←List.take_append_drop i l]
 rw[zC8]
 lia
theorem zFV:∀l:List Trip,l.length<=tot2 l
 |[]=>lS _
 |q::l=>by
  have:=zCe q.1;have:=zFV l;rw[zEI,mM]
  lia
def zHQ:Sp:=λ vs H Q Ω=>E4 λ(t u:Tr) (v1 v2:V)=>A5 (vs=[v1,v2]) (Rep H t v1) (Rep H u v2) (t.size<=500) (∀H',Same H H'->Q (.bl (decide (bare t []=bare u []))) H')
theorem zKc (F:Fun K "alike" "alike" zGn f fd) (z_enumerate:mg "enumerate" = none) (z_zip:mg "zip" = none)
  (zM7:FnB P w K mg base k "alike_heads" g1 gd1 ["one", "other", "pairs"] zC0) (zM8:FnB P w K mg base k "parts" g2 gd2 ["tree"] zA0) (zM9:FnB P w K mg base k "pairs_in" g3 gd3 ["one", "other", "number", "pairs"] zEJ):FnOk P w K mg base CX0 (k+1) f fd ["one", "other"] zHQ:=by
 refine F.ok zBr 75 66
 ·obtain⟨t,u,v1,v2,rfl,_⟩:=h
  rfl
 obtain⟨t,u,v1,v2,rfl,hR,hS,hsz,q⟩:=h
 have qA:∀(b:Bool) H',Same H H'->(b=true↔Alk (t,u,[]))->Q (.bl b) H':=λ b H' g hb=>by
  have q':=q H' g
  have e:decide (bare t []=bare u [])=b:=by
   rw[Bool.eq_iff_iff,decide_eq_true_iff,hb];rfl
  rw[e] at q';exact q'
 refine⟨_,(zAF (pS (i:=2) zBr.nd (zA8 (zAA (zAZ (zAA (pv 0) (zAA (pv 1) (zAA (zAZ zAD:PE _ _ _) zAD))):PE _ _ _) zAD):PE _ _ _))
  (zAF (zCY PassesOwn.never (zCW (pv 2) (λ Ω=>rfl)) (zAF (pS (i:=3) zBr.nd (zA8 zAD:PE _ _ _))
  (zAF (zAr PassesOwn.never rfl (zBD (pv 2)) (zCG rfl (zAa (pGn (i:=4) zBr.nd) (zAa (pGn (i:=5) zBr.nd) (zAa (pGn (i:=6) zBr.nd) zBK)))) (zAF (ps_if (zBO (zA7 (pe_cl zM7 hr (zAA (pv 4) (zAA (pv 5) (zAA (pv 6) zAD)))))) (zAE (zAU pe_bl)) zAN)
  (zAE (zAr PassesOwn.never rfl (zE5 102 z_enumerate 102 z_zip (zAA (pe_cl zM8 hr (zAA (pv 4) zAD)) (zAA (pe_cl zM8 hr (zAA (pv 5) zAD)) zAD))) (zCG rfl (zAa (pGn (i:=7) zBr.nd) (zAa (pGn (i:=8) zBr.nd) zBK))) (zAE (pAp (pv 3) (zAZ (zAA (iC (r:=rIxT K) zAL (pv 8)) (zAA (iC (r:=rIxT K) zAL (pv 8)) (zAA (pe_cl zM9 hr (zAA (pv 4) (zAA (pv 5) (zAA (pv 7) (zAA (pv 6) zAD))))) zAD))):PE _ _ _)))))))
  (zAE (pS (i:=2) zBr.nd (pv 3))))))
  (zAE (zAU pe_bl)))),?_⟩
 refine⟨_,rfl,_,rfl,94,λ e he=>⟨(by show 3<=sizeLine;decide),λ pr hpr=>⟨(by show 1<=sizeLine;decide),λ l hl=>?_⟩⟩⟩;have g2:=zAC (o:=.tup []) he;have g3:=zAC (o:=.tup [v1,v2,.ref e]) hpr;have g4:=zAC (o:=.lst [.ref pr]) hl;have gAll:=g2.trans (g3.trans g4);have hlH:H l=none:=(g2.trans g3).free hl
 refine⟨(λ m σ' H'=>E9 λ(l:Addr) (ps:List V) (lev:List Trip) (s3 s4 s5 s6 s7 s8:Option V)=>A9 (σ'=[some v1,some v2,some (.ref l),s3,s4,s5,s6,s7,s8]) (Same H H') (H l=none) (H' l=some (.lst ps)) (Paired (zD0 H') lev ps) (m=tot2 lev) (tot2 lev<=500) (∀q∈lev,q.2.2.length+q.1.size<=500) ((∀q∈lev,Alk q)↔Alk (t,u,[]))),
  ⟨t.size,l,_,[(t,u,[])],none,none,none,none,none,none,rfl,gAll,hlH,zAB,.cons ⟨pr,v1,v2,e,rfl,g4 _ _ zAB,hR.mono gAll.tk,hS.mono gAll.tk,[],g4 _ _ (g3 _ _ zAB),.nil⟩ .nil,by simp[tot2],by simpa[tot2] using hsz,by simpa using hsz,by simp⟩,?_⟩
 rintro m σ' Hw ⟨l,ps,lev,s3,s4,s5,s6,s7,s8,rfl,gw,hl,el,hp,rfl,htot,hdeep,hset⟩;refine⟨_,rfl,_,.inl ⟨ps,SqL.of el,rfl⟩,?_⟩;refine ite2 77 77
 ·refine⟨_,λ Ω Ω h=>h,94,λ dp hdp=>⟨_,rfl,l,rfl,⟨ps,SqL.of (zAC hdp _ _ el)⟩,?_⟩⟩
  have gd:=zAC (o:=.lst []) hdp;have hdpH:H dp=none:=gw.free hdp;have ndl:dp≠l:=Ne.symm (zAV el hdp);refine zBR (xs:=ps) (λ i σ' H'=>E6 λ(dps:List V) (s4 s5 s6 s7 s8:Option V)=>A7 (σ'=[some v1,some v2,some (.ref l),some (.ref dp),s4,s5,s6,s7,s8]) (Same H H') (Tk Hw H') (H' l=some (.lst ps)) (H' dp=some (.lst dps)) (Paired (zD0 H') ((lev.take i).flatMap λ q=>kids2 q.1 q.2.1 q.2.2) dps) (∀q∈lev.take i,hdA q.1 q.2.1 q.2.2=true)) ?_ ?_ ?_ ?_
  ·exact⟨[],s4,s5,s6,s7,s8,rfl,gw.trans gd,gd.tk,gd _ _ el,zAB,.nil,by simp⟩
  ·rintro i σ1 H1 _ ⟨dps,s4,s5,s6,s7,s8,rfl,g1,k1,el1,edp1,hp1,hh1⟩
   exact SqL.of el1
  ·rintro i x σ1 H1 hx ⟨dps,s4,s5,s6,s7,s8,rfl,g1,k1,el1,edp1,hp1,hh1⟩
   obtain⟨⟨tq,uq,pq⟩,eq,rq⟩:=zAP hp hx;have hmem:(tq,uq,pq)∈lev:=lN eq;have hdq:=hdeep _ hmem;have spq:=zCe tq;dsimp only at hdq;obtain⟨a,u1,w1,b,rfl,ha,ru,rw1,hb⟩:=rq.mono k1;refine⟨a,_,rfl,SqT.of ha,rfl,_,_,rfl,_,_,rfl,_,_,rfl,rfl,?_⟩;refine⟨_,rfl,_,rfl,_,rfl,tq,uq,u1,w1,b,pq,rfl,ru,rw1,hb,λ H2 g2=>⟨_,rfl,?_⟩⟩;refine ite2 (λ d=>?_) (λ d=>?_)
   ·have hd0:hdA tq uq pq=false:=by simpa using d
    refine qA false _ (g1.trans g2) ⟨λ z=>(nomatch z),λ z=>?_⟩
    have:=((zG5 tq uq pq).mp (hset.mpr z _ hmem)).1;rw[hd0] at this;exact this
   ·have hd1:hdA tq uq pq=true:=by simpa using d
    have hk:tq.kd=uq.kd:=by unfold hdA at hd1;simp at hd1;exact hd1.1
    refine⟨_,rfl,tq,u1,rfl,ru.mono g2.tk,λ pt H3 us g3 e3 hus=>⟨_,rfl,uq,w1,rfl,(rw1.mono g2.tk).mono g3.tk,λ pt2 H4 us2 g4 e4 hus2=>⟨pt,pt2,us,us2,rfl,g4 _ _ e3,e4,?_⟩⟩⟩;have g24:=g2.trans (g3.trans g4);have kl:=zJW (ps:=pq) hk;have lus:=hus.length;have lus2:=hus2.length;have hb4:=hb.mono g24.tk;have ru4:=ru.mono g24.tk;have rw4:=rw1.mono g24.tk;refine zLM (xs:=us) (ys:=us2) (λ j σ' H'=>E3 λ(dps':List V) (s7 s8:Option V)=>A6 (σ'=[some v1,some v2,some (.ref l),some (.ref dp),some u1,some w1,some (.ref b),s7,s8]) (Same H H') (Tk H4 H') (H' l=some (.lst ps)) (H' dp=some (.lst dps')) (Paired (zD0 H') (((lev.take i).flatMap λ q=>kids2 q.1 q.2.1 q.2.2)++(kids2 tq uq pq).take j) dps')) ?_ ?_ ?_ ?_
    ·exact⟨dps,s7,s8,rfl,g1.trans g24,.refl _,g24 _ _ el1,g24 _ _ edp1,by
      rw[List.take_zero,nP];exact Paired.mapP hp1 λ Ω Ω z=>z.mono g24.tk⟩
    ·rintro j σ3 H5 _ ⟨dps5,s7,s8,rfl,g5,k5,el5,edp5,hp5⟩
     exact⟨k5 _ _ (g4 _ _ e3),k5 _ _ e4⟩
    ·rintro j x y T U σ3 H5 hx hy ⟨dps5,s7,s8,rfl,g5,k5,el5,edp5,hp5⟩ hU hT
     have gU:=zAC (o:=.tup [x,y]) hU;have gT:=zAC (o:=.tup [.int j,.ref U]) hT;have gUT:=gU.trans gT;obtain⟨cx,ecx,rcx⟩:=zAP hus hx;obtain⟨cy,ecy,rcy⟩:=zAP hus2 hy;have kk:=zJX (ps:=pq) hk ecx ecy;have hj:j<us.length:=(lK.mp hx).1;refine⟨T,_,rfl,SqT.of zAB,rfl,_,_,rfl,_,_,rfl,rfl,?_⟩;have edp6:=gUT _ _ edp5;have hU6:(upd (upd H5 U (.tup [x,y])) T (.tup [.int j,.ref U])) U=some (.tup [x,y]):=gT _ _ zAB;refine⟨_,rfl,.inl ⟨rfl,_,SqL.of edp6⟩,_,rfl,U,_,0,_,rfl,rfl,SqT.of hU6,rfl,_,rfl,U,_,1,_,rfl,rfl,SqT.of hU6,rfl,_,rfl,_,rfl,_,rfl,_,rfl,tq,uq,u1,w1,j,b,pq,rfl,ru4.mono (k5.trans gUT.tk),rw4.mono (k5.trans gUT.tk),hk,hb4.mono (k5.trans gUT.tk),by lia,λ p H6 g6 e6=>⟨(by show 3<=sizeLine;decide),λ pr hpr=>?_⟩⟩;have gq:=zAC (o:=.tup [x,y,.ref p]) hpr;have gA:=gUT.trans (g6.trans gq);have edp7:=gA _ _ edp5
     have tot:dps5.length<=500:=by
      rw[←hp5.length,mK,mN];have l1:=zFV ((lev.take i).flatMap λ q=>kids2 q.1 q.2.1 q.2.2);have l2:=zFl (lev.take i) hh1;have l3:tot2 (lev.take (i+1))<=tot2 lev:=zIT lev _;rw[zAY eq,zC8,zEI] at l3;have l4:=zGH (ps:=pq) hk;have l5:=zFV (kids2 tq uq pq);dsimp only at l3
      lia
     refine⟨dp,_,_,rfl,rfl,edp7,zAR 61,?_⟩;have kset:Tk H5 (upd (upd H6 pr (.tup [x,y,.ref p])) dp (.lst (dps5++[.ref pr]))):=gA.tk.trans (Tk.lst edp7);refine⟨_,_,_,rfl,zAb (g5.trans gA) hdpH,k5.trans kset,by rw[zAd (Ne.symm ndl)];exact gA _ _ el5,zAB,?_⟩;rw[zAY kk,←mX];refine zAK (Paired.mapP hp5 λ Ω Ω z=>z.mono kset) (.cons ⟨pr,x,y,p,rfl,Tk.lst edp7 _ _ zAB,(rcx.mono g4.tk).mono (k5.trans kset),rcy.mono (k5.trans kset),(e6.mono gq.tk).mono (Tk.lst edp7)⟩ .nil)
    ·rintro σ3 H5 ⟨dps5,s7,s8,rfl,g5,k5,el5,edp5,hp5⟩
     refine⟨dps5,some u1,some w1,some (.ref b),s7,s8,rfl,g5,k1.trans (g24.tk.trans k5),el5,edp5,?_,λ z hz=>?_⟩
     ·rw[show min us.length us2.length=(kids2 tq uq pq).length by lia,mO] at hp5
      rw[zAY eq,nJ];simpa using hp5
     ·rw[zAY eq,nL,mQ] at hz
      rcases hz with h|h
      ·exact hh1 z h
      ·subst h;exact hd1
  ·rintro σ1 H1 ⟨dps,s4,s5,s6,s7,s8,rfl,g1,k1,el1,edp1,hp1,hh1⟩
   have hlen:ps.length=lev.length:=hp.length.symm;rw[hlen,mO] at hp1 hh1
   have pos:0<lev.length:=by
    rw[←hlen];cases ps with
    |nil=>simp at c
    |cons _ _=>simp
   have lk:=zFl lev hh1;refine⟨_,rfl,_,?_,dp,dps,_,some (.ref dp),s4,s5,s6,s7,s8,rfl,g1,hdpH,edp1,hp1,rfl,by lia,λ q' hq'=>?_,?_⟩
   ·lia
   ·obtain⟨r,hr',hq''⟩:=mW.mp hq'
    have hk:r.1.kd=r.2.1.kd:=by have:=hh1 r hr';unfold hdA at this;simp at this;exact this.1
    exact zIH hk (hdeep r hr') q' hq''
   ·rw[←hset]
    constructor
    ·intro h q' hq'
     exact(zG5 q'.1 q'.2.1 q'.2.2).mpr ⟨hh1 q' hq',λ r hr'=>h r (mW.mpr ⟨q',hq',hr'⟩)⟩
    ·intro h q' hq'
     obtain⟨r,hr',hq''⟩:=mW.mp hq';exact((zG5 r.1 r.2.1 r.2.2).mp (h r hr')).2 q' hq''
 ·have e0:ps=[]:=by
   cases ps with
   |nil=>rfl
   |cons _ _=>exact absurd rfl c
  subst e0;cases hp;exact qA true _ gw ⟨λ Ω=>hset.mp 68,λ Ω=>rfl⟩
abbrev zDP:Stmt:=top 4
theorem zBW:zAW ["tree", "found", "level", "deeper", "part"] ["tree"] (zAM zDP):=scI
abbrev zCA:Stmt:=top 5
theorem zAk:zAW ["tree", "found", "level", "deeper", "place", "part", "number", "inner"] ["tree"] (zAM zCA):=scI
def zK7:Sp:=λ vs H Q Ω=>E2 λ(t:Tr) (v:V)=>A4 (vs=[v]) (Rep H t v) (t.size<=300) (∀(l:Addr) (us:List V) (F:List Tr) (H':Hp),Same H H'->H' l=some (.lst us)->Paired (Rep H') F us->F.Perm t.subs->Q (.ref l) H')
theorem zMm (F:Fun K "all_parts" "all_parts" zDP f fd) (zM8:FnB P w K mg base k "parts" g1 gd1 ["tree"] zA0):FnOk P w K mg base CX0 (k+1) f fd ["tree"] zK7:=by
 refine F.ok zBW 75 66
 ·obtain⟨t,v,rfl,_⟩:=h
  rfl
 obtain⟨t,v,rfl,hR,hsz,q⟩:=h
 refine⟨_,(zAF (pS (i:=1) zBW.nd (zA8 zAD:PE _ _ _))
  (zAF (pS (i:=2) zBW.nd (zA8 (zAA (pv 0) zAD):PE _ _ _))
  (zAF (zCY PassesOwn.never (zCW (pv 2) (λ Ω=>rfl)) (zAF (zDq (pe_bm rO rS rT zF9 (pv 1) (zAA (pv 2) zAD)))
  (zAF (pS (i:=3) zBW.nd (zA8 zAD:PE _ _ _))
  (zAF (zAr PassesOwn.never rfl (zBD (pv 2)) (pGn (i:=4) zBW.nd) (zAE (zDq (pe_bm rO rS rT zH9 (pv 3) (zAA (pe_cl zM8 hr (zAA (pv 4) zAD)) zAD)))))
  (zAE (pS (i:=2) zBW.nd (pv 3)))))))
  (zAE (zAU (pv 1)))))),?_⟩
 refine⟨94,λ fo hfo=>⟨_,rfl,(by show 1<=sizeLine;decide),λ l hl=>?_⟩⟩;have g1:=zAC (o:=.lst []) hfo;have g2:=zAC (o:=.lst [v]) hl
 refine⟨(λ m σ' H'=>E7 λ(l:Addr) (ls fs:List V) (L Fd:List Tr) (s3 s4:Option V)=>A11 (σ'=[some v,some (.ref fo),some (.ref l),s3,s4]) (Same H H') (H l=none) (l≠fo) (H' fo=some (.lst fs)) (H' l=some (.lst ls)) (Paired (Rep H') Fd fs) (Paired (Rep H') L ls) (m=szT L) ((Fd++L.flatMap Tr.subs).Perm t.subs) (Fd.length+szT L<=t.size)),
  ⟨t.size,l,[v],[],[t],[],none,none,rfl,g1.trans g2,g1.free hl,Ne.symm (zAV (zAB (H:=H) (a:=fo) (o:=.lst [])) hl),g2 _ _ zAB,zAB,.nil,.cons (hR.mono (g1.trans g2).tk) .nil,by simp[szT],by simp,by simp[szT]⟩,?_⟩
 rintro m σ' Hw ⟨l,ls,fs,L,Fd,s3,s4,rfl,gw,hl,hlf,ef,el,pF,pL,rfl,hmem,hcnt⟩;have lL:ls.length=L.length:=zAG pL;have lF:fs.length=Fd.length:=zAG pF;have hZ:=zDW L;refine⟨_,rfl,_,.inl ⟨ls,SqL.of el,rfl⟩,?_⟩;refine ite2 77 77
 ·refine⟨_,λ Ω Ω h=>h,?_⟩
  refine⟨_,rfl,.inl ⟨rfl,_,SqL.of ef⟩,_,rfl,fo,l,fs,ls,rfl,rfl,ef,el,zAf 61,?_⟩;have ef1:=@zAB Hw fo (.lst (fs++ls));have el1:(upd Hw fo (.lst (fs++ls))) l=some (.lst ls):=by rw[zAd hlf];exact el
  have gw1:Same H (upd Hw fo (.lst (fs++ls))):=zAb gw hfo;have tk1:Tk Hw (upd Hw fo (.lst (fs++ls))):=Tk.lst ef;show tSeq _ _ _ _ (upd Hw fo (.lst (fs++ls)));generalize upd Hw fo _=H1 at ef1 el1 gw1 tk1 ⊢;refine⟨94,λ dp hdp=>?_⟩;have g4:=zAC (o:=.lst []) hdp;have hdpH:H dp=none:=gw1.free hdp;have ndf:dp≠fo:=Ne.symm (zAV ef1 hdp);have ndl:dp≠l:=Ne.symm (zAV el1 hdp);refine⟨_,rfl,l,rfl,⟨ls,SqL.of (g4 _ _ el1)⟩,?_⟩;refine zBR (xs:=ls) (λ i σ' H'=>E2 λ(dps:List V) (s4:Option V)=>A7 (σ'=[some v,some (.ref fo),some (.ref l),some (.ref dp),s4]) (Same H H') (Tk H1 H') (H' fo=some (.lst (fs++ls))) (H' l=some (.lst ls)) (H' dp=some (.lst dps)) (Paired (Rep H') ((L.take i).flatMap Tr.parts) dps)) ?_ ?_ ?_ ?_
  ·exact⟨[],s4,rfl,gw1.trans g4,g4.tk,g4 _ _ ef1,g4 _ _ el1,zAB,.nil⟩
  ·rintro i σ1 H2 _ ⟨dps,s4,rfl,g5,k5,ef5,el5,ed5,p5⟩
   exact SqL.of el5
  ·rintro i x σ1 H2 hx ⟨dps,s4,rfl,g5,k5,ef5,el5,ed5,p5⟩
   obtain⟨tq,eq,rq⟩:=zAP pL hx;refine⟨_,rfl,.inl ⟨rfl,_,SqL.of ed5⟩,_,rfl,tq,x,rfl,rq.mono (tk1.trans k5),λ pp H3 us g6 ep hus=>?_⟩
   have hflat:((L.take (i+1)).flatMap Tr.parts)=((L.take i).flatMap Tr.parts)++tq.parts:=by
    rw[zAY eq,nJ];simp
   have hlen:dps.length+us.length<=1000:=by
    have z0:=zAG p5;have z1:=zAG hus;have z2:=zB8 ((L.take (i+1)).flatMap Tr.parts);have z3:=zDW (L.take (i+1));have z4:=zHE L (i+1);rw[hflat,mK] at z2;rw[hflat] at z3
    lia
   have ed6:=g6 _ _ ed5;refine⟨dp,pp,dps,us,rfl,rfl,ed6,SqT.of ep,zAf hlen,?_⟩;have tkz:Tk H3 (upd H3 dp (.lst (dps++us))):=Tk.lst ed6;refine⟨dps++us,_,rfl,zAb (g5.trans g6) hdpH,k5.trans (g6.tk.trans tkz),by rw[zAd (Ne.symm ndf)];exact g6 _ _ ef5,by rw[zAd (Ne.symm ndl)];exact g6 _ _ el5,zAB,?_⟩;rw[hflat];exact zAK (Paired.mapP p5 λ Ω Ω z=>z.mono (g6.tk.trans tkz)) (Paired.mapP hus λ Ω Ω z=>z.mono tkz)
  ·rintro σ1 H2 ⟨dps,s4,rfl,g5,k5,ef5,el5,ed5,p5⟩
   rw[mU 61] at p5
   have hpos:0<L.length:=by
    rw[←lL];cases ls with
    |nil=>simp at c
    |cons _ _=>simp
   refine⟨_,rfl,szT (L.flatMap Tr.parts),by lia,dp,dps,fs++ls,L.flatMap Tr.parts,Fd++L,some (.ref dp),s4,rfl,g5,hdpH,ndf,ef5,ed5,zAK (Paired.mapP pF λ Ω Ω z=>z.mono (tk1.trans k5)) (Paired.mapP pL λ Ω Ω z=>z.mono (tk1.trans k5)),p5,rfl,?_,?_⟩
   ·rw[mX];exact((zE6 L).symm.append_left Fd).trans hmem
   ·rw[mK]
    lia
 ·have e0:ls=[]:=by
   cases ls with
   |nil=>rfl
   |cons _ _=>simp at c
  have eL:L=[]:=by
   subst e0;cases L with
   |nil=>rfl
   |cons _ _=>simp at lL
  subst eL;refine⟨_,rfl,q fo fs Fd Hw gw ef pF ?_⟩;simpa using hmem
def PPl (H:Hp) (x:PlT) (v:V):Prop:=∃u,PlV H (x.1,u) v/\Rep H x.2 u
theorem PPl.mono {H H':Hp}(k:Tk H H') {x:PlT}{v:V}:PPl H x v->PPl H' x v
 |⟨u,h,r⟩=>⟨u,h.mono k,r.mono k⟩
theorem zJN {α β:Type}(g:α->β):∀{qs l:List β},qs.Perm l->∀{Z:List α},Z.map g=l->∃Z':List α,Z'.Perm Z/\Z'.map g=qs:=by
 intro qs l h
 induction h with
 |nil =>
  intro Z e;have:Z=[]:=List.map_eq_nil_iff.mp e;subst this;exact⟨[],.nil,rfl⟩
 |cons x _ ih =>
  intro Z e;obtain⟨z,Z2,rfl,e1,e2⟩:=List.map_eq_cons_iff.mp e;obtain⟨Z',h1,h2⟩:=ih e2;exact⟨z::Z',h1.cons z,by simp[e1,h2]⟩
 |swap x y l =>
  intro Z e;obtain⟨z,Z2,rfl,e1,e2⟩:=List.map_eq_cons_iff.mp e;obtain⟨z2,Z3,rfl,e3,e4⟩:=List.map_eq_cons_iff.mp e2;exact⟨z2::z::Z3,.swap _ _ _,by simp[e1,e3,e4]⟩
 |trans _ _ ih1 ih2 =>
  intro Z e;obtain⟨Z1,h1,h2⟩:=ih2 e;obtain⟨Z2,h3,h4⟩:=ih1 h2;exact⟨Z2,h3.trans h1,h4⟩
theorem zF1 {H:Hp}{F:List PlT}{us:List V}(h:Paired (PPl H) F us):∃Z:List (PlT × V),Z.map (·.1)=F/\Paired (PlV H) (Z.map λ z=>(z.1.1,z.2)) us/\∀z∈Z,Rep H z.1.2 z.2:=by
 induction h with
 |nil=>exact⟨[],rfl,.nil,λ z h=>nomatch h⟩
 |cons r q ih =>
  obtain⟨Z,h1,h2,h3⟩:=ih;obtain⟨u,hu,ru⟩:=r;refine⟨(_,u)::Z,by simp[h1],.cons hu h2,λ z hz=>?_⟩;rcases nM.mp hz with rfl|hz
  ·exact ru
  ·exact h3 z hz
theorem zF2 {H:Hp}:∀{Z:List (PlT × V)}{us:List V},Paired (PlV H) (Z.map λ z=>(z.1.1,z.2)) us->(∀z∈Z,Rep H z.1.2 z.2)->Paired (PPl H) (Z.map (·.1)) us
 |[],_,h,_=>by
  cases h;exact .nil
 |z::Z,_,h,k=>by
  rw[mL] at h ⊢;cases h with
  |cons r q=>exact .cons ⟨z.2,r,k z lP⟩ (zF2 q λ y hy=>k y (lQ _ hy))
def zFr:Sp:=λ vs H Q Ω=>E2 λ(t:Tr) (v:V)=>A4 (vs=[v]) (Rep H t v) (t.size<=300) (∀(l:Addr) (us:List V) (H':Hp),Same H H'->H' l=some (.lst us)->Paired (PPl H') (psub [] t) us->Q (.ref l) H')
theorem zI1 (F:Fun K "placed_parts" "placed_parts" zCA f fd) (z_enumerate:mg "enumerate" = none) (z_sorted:mg "sorted" = none) (zM8:FnB P w K mg base k "parts" g1 gd1 ["tree"] zA0):FnOk P w K mg base CX0 (k+1) f fd ["tree"] zFr:=by
 refine F.ok zAk 75 66
 ·obtain⟨t,v,rfl,_⟩:=h
  rfl
 obtain⟨t,v,rfl,hR,hsz,q⟩:=h;have hu5:=hu150 hr
 refine⟨_,(zAF (pS (i:=1) zAk.nd (zA8 zAD:PE _ _ _))
  (zAF (pS (i:=2) zAk.nd (zA8 (zAA (zAZ (zAA (zAZ zAD:PE _ _ _) (zAA (pv 0) zAD)):PE _ _ _) zAD):PE _ _ _))
  (zAF (zCY PassesOwn.never (zCW (pv 2) (λ Ω=>rfl)) (zAF (zDq (pe_bm rO rS rT zF9 (pv 1) (zAA (pv 2) zAD)))
  (zAF (pS (i:=3) zAk.nd (zA8 zAD:PE _ _ _))
  (zAF (zAr PassesOwn.never rfl (zBD (pv 2)) (zCG rfl (zAa (pGn (i:=4) zAk.nd) (zAa (pGn (i:=5) zAk.nd) zBK))) (zAE (zAr PassesOwn.never rfl (zIq 102 z_enumerate (zAA (pe_cl zM8 hr (zAA (pv 5) zAD)) zAD)) (zCG rfl (zAa (pGn (i:=6) zAk.nd) (zAa (pGn (i:=7) zAk.nd) zBK))) (zAE (pAp (pv 3) (zAZ (zAA (pe_op zCB (pv 4) (zAZ (zAA (pv 6) zAD):PE _ _ _)) (zAA (pv 7) zAD)):PE _ _ _))))))
  (zAE (pS (i:=2) zAk.nd (pv 3)))))))
  (zAE (zAU (zBL (zFf hu5) 102 z_sorted PyProof.Rows.boot_sorted (zAA (pv 1) zAD))))))),?_⟩
 have d2:2<=sizeLine:=by decide
 refine⟨94,λ fo hfo=>⟨94,λ pe hpe=>⟨_,rfl,d2,λ pr hpr=>⟨(by show 1<=sizeLine;decide),λ l hl=>?_⟩⟩⟩⟩;have g1:=zAC (o:=.lst []) hfo;have g2:=zAC (o:=.tup []) hpe;have g3:=zAC (o:=.tup [.ref pe,v]) hpr;have g4:=zAC (o:=.lst [.ref pr]) hl;have g23:=g2.trans g3;have gA:=g1.trans (g23.trans g4)
 refine⟨(λ m σ' H'=>E10 λ(l:Addr) (ls fs:List V) (L Fd:List PlT) (s3 s4 s5 s6 s7:Option V)=>A11 (σ'=[some v,some (.ref fo),some (.ref l),s3,s4,s5,s6,s7]) (Same H H') (H l=none) (l≠fo) (H' fo=some (.lst fs)) (H' l=some (.lst ls)) (Paired (PPl H') Fd fs) (Paired (PPl H') L ls) (m=szP L) ((Fd++allP L).Perm (psub [] t)) (∀x∈L,x.1.length+x.2.size<=300)),
  ⟨szP [([],t)],l,[.ref pr],[],[([],t)],[],none,none,none,none,none,rfl,gA,(g1.trans g23).free hl,?_,g4 _ _ (g23 _ _ zAB),zAB,.nil,.cons ⟨v,⟨pr,pe,rfl,g4 _ _ zAB,g4 _ _ (g3 _ _ zAB)⟩,hR.mono gA.tk⟩ .nil,rfl,by simp[allP],by simpa using hsz⟩,?_⟩
 ·exact Ne.symm (zAV (g23 _ _ (zAB (H:=H) (a:=fo) (o:=.lst []))) hl)
 rintro m σ' Hw ⟨l,ls,fs,L,Fd,s3,s4,s5,s6,s7,rfl,gw,hl,hlf,ef,el,pF,pL,rfl,hperm,hdp0⟩;have lL:ls.length=L.length:=zAG pL;have lF:fs.length=Fd.length:=zAG pF;have hZ:=zFm L
 have hcnt:Fd.length+szP L<=300:=by
  have:=hperm.length_eq;rw[mK,zKv,zBQ] at this
  lia
 refine⟨_,rfl,_,.inl ⟨ls,SqL.of el,rfl⟩,?_⟩;refine ite2 77 77
 ·refine⟨_,λ Ω Ω h=>h,?_⟩
  refine⟨_,rfl,.inl ⟨rfl,_,SqL.of ef⟩,_,rfl,fo,l,fs,ls,rfl,rfl,ef,el,zAf 61,?_⟩;have ef1:=@zAB Hw fo (.lst (fs++ls));have el1:(upd Hw fo (.lst (fs++ls))) l=some (.lst ls):=by rw[zAd hlf];exact el
  have gw1:Same H (upd Hw fo (.lst (fs++ls))):=zAb gw hfo;have tk1:Tk Hw (upd Hw fo (.lst (fs++ls))):=Tk.lst ef;show tSeq _ _ _ _ (upd Hw fo (.lst (fs++ls)));generalize upd Hw fo _=H1 at ef1 el1 gw1 tk1 ⊢;refine⟨94,λ dp hdp=>?_⟩;have g4:=zAC (o:=.lst []) hdp;have hdpH:H dp=none:=gw1.free hdp;have ndf:dp≠fo:=Ne.symm (zAV ef1 hdp);have ndl:dp≠l:=Ne.symm (zAV el1 hdp);refine⟨_,rfl,l,rfl,⟨ls,SqL.of (g4 _ _ el1)⟩,?_⟩;refine zBR (xs:=ls) (λ i σ' H'=>E5 λ(dps:List V) (s4 s5 s6 s7:Option V)=>A7 (σ'=[some v,some (.ref fo),some (.ref l),some (.ref dp),s4,s5,s6,s7]) (Same H H') (Tk H1 H') (H' fo=some (.lst (fs++ls))) (H' l=some (.lst ls)) (H' dp=some (.lst dps)) (Paired (PPl H') ((L.take i).flatMap kidsP) dps)) ?_ ?_ ?_ ?_
  ·exact⟨[],s4,s5,s6,s7,rfl,gw1.trans g4,g4.tk,g4 _ _ ef1,g4 _ _ el1,zAB,.nil⟩
  ·rintro i σ1 H2 _ ⟨dps,s4,s5,s6,s7,rfl,g5,k5,ef5,el5,ed5,p5⟩
   exact SqL.of el5
  ·rintro i x σ1 H2 hx ⟨dps,s4,s5,s6,s7,rfl,g5,k5,ef5,el5,ed5,p5⟩
   obtain⟨⟨pl,tq⟩,eq,rq⟩:=zAP pL hx;obtain⟨u,⟨b,c',rfl,hb,hc'⟩,ru⟩:=rq.mono (tk1.trans k5);dsimp only at hb hc' ru;refine⟨b,_,rfl,SqT.of hb,rfl,_,_,rfl,_,_,rfl,rfl,?_⟩
   have hflat:((L.take (i+1)).flatMap kidsP)=((L.take i).flatMap kidsP)++kidsP (pl,tq):=by
    rw[zAY eq,nJ];simp
   have hlen:((L.take i).flatMap kidsP).length+(kidsP (pl,tq)).length<=300:=by
    have z2:=zLY ((L.take (i+1)).flatMap kidsP);have z3:=zFm (L.take (i+1));have z4:szP (L.take (i+1))<=szP L:=by unfold szP;rw[List.map_take];exact zHE _ _
    rw[hflat,mK] at z2;rw[hflat] at z3
    lia
   refine⟨_,rfl,tq,u,rfl,ru,λ pp H3 us g6 ep hus=>⟨pp,rfl,⟨us,SqT.of ep⟩,?_⟩⟩;have lus:us.length=tq.parts.length:=zAG hus;refine zHk (xs:=us) (λ j σ' H'=>E3 λ(dps':List V) (s6 s7:Option V)=>A7 (σ'=[some v,some (.ref fo),some (.ref l),some (.ref dp),some (.ref c'),some u,s6,s7]) (Same H H') (Tk H3 H') (H' fo=some (.lst (fs++ls))) (H' l=some (.lst ls)) (H' dp=some (.lst dps')) (Paired (PPl H') (((L.take i).flatMap kidsP)++(kidsP (pl,tq)).take j) dps')) ?_ ?_ ?_ ?_
   ·refine⟨dps,s6,s7,rfl,g5.trans g6,.refl _,g6 _ _ ef5,g6 _ _ el5,g6 _ _ ed5,?_⟩
    rw[List.take_zero,nP];exact Paired.mapP p5 λ Ω Ω z=>z.mono g6.tk
   ·rintro j σ3 H5 _ ⟨dps5,s6,s7,rfl,g7,k7,ef7,el7,ed7,p7⟩
    exact SqT.of (k7 _ _ ep)
   ·rintro j x T σ3 H5 hx ⟨dps5,s6,s7,rfl,g7,k7,ef7,el7,ed7,p7⟩ hT
    have gT:=zAC (o:=.tup [.int j,x]) hT;obtain⟨cc,ec,rc⟩:=zAP hus hx;have kk:=zGG (pl:=pl) ec
    have ld:dps5.length<=300:=by
     rw[zAG p7,mK,mN]
     lia
    refine⟨T,_,rfl,SqT.of zAB,rfl,_,_,rfl,_,_,rfl,rfl,?_⟩;have ed8:=gT _ _ ed7;have hc8:(upd H5 T (.tup [.int j,x])) c'=some (.tup (pl.map V.int)):=gT.tk _ _ (k7 _ _ (g6.tk _ _ hc'));refine⟨_,rfl,.inl ⟨rfl,_,SqL.of ed8⟩,_,rfl,_,rfl,(by show 1<=sizeLine;decide),λ pj hpj=>?_⟩;have gj:=zAC (o:=.tup [.int j]) hpj
    have hpl:pl.length<=300:=by
     have h9:=hdp0 _ (lN eq);dsimp only at h9
     lia
    refine⟨c',pj,_,_,rfl,rfl,gj.tk _ _ hc8,zAB,zAf (by simp;lia),λ pn H6 g9 e9=>?_⟩;refine⟨_,rfl,d2,λ pt hpt=>?_⟩;have g10:=zAC (o:=.tup [.ref pn,x]) hpt;have gB:=gT.trans (gj.trans (g9.trans g10));have ed9:=gB _ _ ed7;refine⟨dp,dps5,_,rfl,rfl,ed9,zAR 61,?_⟩;have tkz:Tk _ _:=Tk.lst (o:=.lst (dps5++[.ref pt])) ed9;have e9':H6 pn=some (.tup ((pl++[(j:Int)]).map V.int)):=by rw[e9,mP];rfl
    refine⟨dps5++[.ref pt],_,_,rfl,zAb (g7.trans gB) hdpH,k7.trans (gB.tk.trans tkz),by rw[zAd (Ne.symm ndf)];exact gB _ _ ef7,by rw[zAd (Ne.symm ndl)];exact gB _ _ el7,zAB,?_⟩;rw[zAY kk,←mX];exact zAK (Paired.mapP p7 λ Ω Ω z=>z.mono (gB.tk.trans tkz)) (.cons ⟨x,⟨pt,pn,rfl,tkz _ _ zAB,tkz _ _ (g10.tk _ _ e9')⟩,rc.mono (k7.trans (gB.tk.trans tkz))⟩ .nil)
   ·rintro σ3 H5 ⟨dps5,s6,s7,rfl,g7,k7,ef7,el7,ed7,p7⟩
    have ek:(kidsP (pl,tq)).take us.length=kidsP (pl,tq):=mU (by rw[zGF];lia);rw[ek,←hflat] at p7;exact⟨dps5,_,_,_,_,rfl,g7,k5.trans (g6.tk.trans k7),ef7,el7,ed7,p7⟩
  ·rintro σ1 H2 ⟨dps,s4,s5,s6,s7,rfl,g5,k5,ef5,el5,ed5,p5⟩
   rw[mU 61] at p5
   have hpos:0<L.length:=by
    rw[←lL];cases ls with
    |nil=>simp at c
    |cons _ _=>simp
   refine⟨_,rfl,szP (L.flatMap kidsP),by lia,dp,dps,fs++ls,L.flatMap kidsP,Fd++L,some (.ref dp),s4,s5,s6,s7,rfl,g5,hdpH,ndf,ef5,ed5,zAK (Paired.mapP pF λ Ω Ω z=>z.mono (tk1.trans k5)) (Paired.mapP pL λ Ω Ω z=>z.mono (tk1.trans k5)),p5,rfl,?_,?_⟩
   ·rw[mX]
    exact((zFK L).symm.append_left Fd).trans hperm
   ·intro x hx
    obtain⟨y,hy,hx⟩:=mW.mp hx;have h9:=hdp0 y hy;unfold kidsP at hx;obtain⟨z,hz,rfl⟩:=mE.mp hx;have h8:z.1∈y.2.parts:=List.fst_mem_of_mem_zipIdx hz;have h7:=zAv h8;simp
    lia
 ·have e0:ls=[]:=by
   cases ls with
   |nil=>rfl
   |cons _ _=>simp at c
  have eL:L=[]:=by
   subst e0;cases L with
   |nil=>rfl
   |cons _ _=>simp at lL
  subst eL;have hperm':Fd.Perm (psub [] t):=by simpa[allP] using hperm
  obtain⟨Z,w1,w2,w3⟩:=zF1 pF;have hfst:((Z.map λ z=>(z.1.1,z.2)).map (·.1))=Fd.map (·.1):=by rw[←w1,nQ,nQ];rfl
  have hlz:Z.length=Fd.length:=by rw[←w1,lE]
  refine⟨_,rfl,fo,fs,Z.map λ z=>(z.1.1,z.2),rfl,ef,w2,?_,by rw[lE];lia,λ l' zs qs hl' pq hq hasc=>?_⟩
  ·rw[hfst]
   exact(hperm'.map _).nodup_iff.mpr (zCX t [])
  ·obtain⟨Z',z1,rfl⟩:=zJN _ hq rfl
   have gl:=zAC (o:=.lst zs) hl'
   have e1:(Z'.map (·.1)).Perm (psub [] t):=by
    refine(z1.map _).trans ?_;rw[w1];exact hperm'
   have e2:(Z'.map (·.1)).Pairwise λ a b=>lexB a.1 b.1=true:=by
    rw[List.pairwise_map] at hasc ⊢;exact hasc
   have e3:(psub [] t).Pairwise λ a b=>lexB a.1 b.1=true:=by
    have:=zBv t []
    rwa [List.pairwise_map] at this
   have e4:Z'.map (·.1)=psub [] t:=List.Perm.eq_of_pairwise (λ a b Ω Ω h1 h2=>by rw[zDf h1] at h2;cases h2) e2 e3 e1;have hj:=Paired.mapP (zF2 pq λ z hz=>w3 z (z1.mem_iff.mp hz)) λ Ω Ω h=>PPl.mono gl.tk h;rw[e4] at hj;exact q l' zs _ (gw.trans gl) zAB hj
abbrev zAu:Stmt:=top 23
theorem zDF:zAW ["tree", "kinds", "told", "part"] ["tree", "kinds"] (zAM zAu):=scI
abbrev zDO:Stmt:=top 25
theorem zFx:zAW ["tree", "kinds"] ["tree", "kinds"] (zAM zDO):=scI
abbrev zCi:Stmt:=top 26
theorem zFO:zAW ["tree", "kind", "kinds"] ["tree", "kind", "kinds"] (zAM zCi):=scI
abbrev zBU:Stmt:=top 28
theorem zCy:zAW ["tree", "atoms", "pairs", "told"] ["tree", "atoms", "pairs"] (zAM zBU):=scI
abbrev zCM:Stmt:=top 30
theorem zBN:zAW ["tree", "atoms", "pairs", "bound", "names", "number", "atom"] ["tree", "atoms", "pairs"] (zAM zCM):=scI
abbrev zDl:Stmt:=top 31
theorem zGl:zAW ["gap", "tree", "pairs"] ["gap", "tree", "pairs"] (zAM zDl):=scI
abbrev zCT:Stmt:=top 32
theorem zBe:zAW ["piece", "tree", "name"] ["piece"] (zAM zCT):=scI
def zHL (K:W.Frag):Sp:=λ vs H Q Ω=>E3 λ(t:Tr) (v:V) (b:Addr)=>A6 (vs=[v,.ref b]) (Rep H t v) (t.size<=300) (NoG t) (SqT K H b []) (∀(z:Bool) (H':Hp),Same H H'->(z=true↔QuT t)->Q (.bl z) H')
theorem zKX (F:FunD K "is_quiet" "is_quiet" zAu f fd [.none]) (z_dict:mg "dict" = none) (zNA:mg "LOUD_SIGNS" = some (.ref la)) (hL:zGc K la) (zNB:FnB P w K mg base k "all_parts" g1 gd1 ["tree"] zK7):FnOk P w K mg base CX0 (k+1) f fd ["tree", "kinds"] (zHL K):=by
 refine F.ok zDF 75 66
 ·obtain⟨t,v,b,rfl,_⟩:=h
  rfl
 obtain⟨t,v,b,rfl,hR,hsz,hG,hb,q⟩:=h;have hu:=hu_of hr
 refine⟨_,(zAF (pS (i:=2) zDF.nd (zBP (zDz rfl) 102 z_dict PyProof.Rows.boot_dict (zAA (zLA (pv 1) (zCk (zFS zAD))) zAD)))
  (zAF (zAr PassesOwn.never rfl (zBD (pe_cl zNB hr (zAA (pv 0) zAD))) (pGn (i:=3) zDF.nd) (zAE (ps_if (pw_or (zAJ (r:=rIn K false) zCH (iC (r:=rIxT K) zAL (pv 3)) (zFT (v:=.ref _) 102 zNA 102) rfl) (zCF (zB3 (zAJ op_eq (iC (r:=rIxT K) zAL (pv 3)) zAe 91) (zBa (zAJ (zIu hu) (iC (r:=rIxT K) zAL (pv 3)) (pv 2) rfl))).pt)).pt (zAE (zAU pe_bl)) zAN)))
  (zAE (zAU pe_bl)))),?_⟩
 refine⟨_,rfl,false,.inr (.inl ⟨[],hb,rfl⟩),iteF ⟨mB _,λ p o hp ho=>?_⟩⟩;refine⟨p,o,[],[],rfl,zAB,ho,.nil,mB _,λ d hd=>?_⟩;have g1:=(zAC (o:=.frz o (.tup [])) hp).trans (zAC (o:=.dK (zAt [] [])) hd);refine⟨_,rfl,t,v,rfl,hR.mono g1.tk,hsz,λ l us F H2 g2 el pF hF=>⟨l,rfl,⟨us,SqL.of el⟩,?_⟩⟩;have g12:=g1.trans g2;refine zBR (xs:=us) (λ i σ' H'=>∃(s3:Option V),A3 (σ'=[some v,some (.ref b),some (.ref d),s3]) (Same H2 H') (∀p∈F.take i,p.kd.loud=false)) ⟨none,rfl,.refl _,λ p hp=>absurd hp 68⟩ ?_ ?_ ?_
 ·rintro i σ' H' _ ⟨s3,rfl,g,_⟩
  exact SqL.of (g _ _ el)
 ·rintro i x σ' H' hx ⟨s3,rfl,g,hq⟩
  obtain⟨tq,eq,rq⟩:=zAP pF hx;have hmem:tq∈t.subs:=hF.mem_iff.mp (lN eq);have q2:=hG tq hmem;obtain⟨pa,hs,us',rfl,hpa,hhl,hparts⟩:=(rq.mono g.tk).all;have at0:atI (V.str tq.kd.s::hs++us') 0=some (.str tq.kd.s):=zAS (j:=0) rfl;refine⟨_,rfl,pa,_,0,_,rfl,rfl,SqT.of hpa,at0,la,loudV,rfl,.inr (.inr hL),rfl,rfl,_,rfl,?_⟩;show if inV (.str tq.kd.s) loudV=true then _ else _
  rw[zJj];refine ite2 (λ c=>iteT (q false _ (g12.trans g) ⟨87,λ z=>?_⟩)) 77
  ·have:=(z tq hmem).1
   rw[this] at c;cases c
  refine⟨_,rfl,pa,_,0,_,rfl,rfl,SqT.of hpa,at0,rfl,_,rfl,ite2 (λ c2=>?_) (λ c2=>?_)⟩
  ·exact absurd (Kd.eq_iff.mp (lU c2)) q2
  ·refine iteF ⟨_,rfl,g,λ p hp=>?_⟩
   rw[zAY eq] at hp;rcases lM.mp hp with h|h
   ·exact hq p h
   ·rw[mQ.mp h]
    simpa using c
 ·rintro σ' H' ⟨s3,rfl,g,hq⟩
  have lu:us.length=F.length:=zAG pF;rw[lu,mO] at hq;exact q true _ (g12.trans g) ⟨λ Ω p hp=>⟨hq p (hF.mem_iff.mpr hp),hG p hp⟩,λ Ω=>rfl⟩
def zHP:Sp:=λ vs H Q Ω=>E3 λ(t:Tr) (v kv:V)=>A4 (vs=[v,kv]) (Rep H t v) (¬t.kd = .gap) (Q (.bl (decide (t.kd = .num))) H)
theorem zKb (F:Fun K "is_number" "is_number" zDO f fd):FnOk P w K mg base CX0 (k+1) f fd ["tree", "kinds"] zHP:=by
 refine F.ok zFx 75 66
 ·obtain⟨t,v,kv,rfl,_⟩:=h
  rfl
 obtain⟨t,v,kv,rfl,hR,hg,q⟩:=h;obtain⟨a,hs,us,rfl,ha,_,_⟩:=hR.all;have at0:atI (V.str t.kd.s::hs++us) 0=some (.str t.kd.s):=zAS (j:=0) rfl
 refine⟨_,(zAF (ps_if (zAJ op_eq 67 zAe 91) zCj zAN)
  (zAE (zAU (zAx op_eq 67 zAe 91)))),?_⟩
 refine⟨_,rfl,a,_,0,_,rfl,rfl,SqT.of ha,at0,rfl,_,rfl,ite2 77 (λ Ω=>?_)⟩
 ·exact absurd (Kd.eq_iff (b:=.gap) |>.mp (lU c)) hg
 refine⟨_,rfl,a,_,0,_,rfl,rfl,SqT.of ha,at0,rfl,?_⟩
 have e:decide (V.str t.kd.s=V.str "num")=decide (t.kd = .num):=by
  rw[decide_eq_decide];exact Kd.eq_iff (b:=.num)
 rw[e];exact q
def KdV (kd:V):Prop:=kd = .non\/kd = .str "quiet" \/ kd = .str "number"
def zFs (K:W.Frag):Sp:=λ vs H Q Ω=>E4 λ(t:Tr) (v kd:V) (b:Addr)=>A7 (vs=[v,kd,.ref b]) (Rep H t v) (t.size<=300) (NoG t) (KdV kd) (SqT K H b []) (∀(z:Bool) (H':Hp),Same H H'->(z=true↔OfK kd t)->Q (.bl z) H')
theorem zI2 (F:Fun K "is_of_kind" "is_of_kind" zCi f fd) (zNC:FnB P w K mg base k "is_number" g1 gd1 ["tree", "kinds"] zHP) (zND:FnD1 P w K mg base k "is_quiet" g2 gd2 ["tree", "kinds"] (zHL K)):FnOk P w K mg base CX0 (k+1) f fd ["tree", "kind", "kinds"] (zFs K):=by
 refine F.ok zFO 75 66
 ·obtain⟨t,v,kd,b,rfl,_⟩:=h
  rfl
 obtain⟨t,v,kd,b,rfl,hR,hsz,hG,hk,hb,q⟩:=h;have ht:t∈t.subs:=by rw[zB9];exact lP
 refine⟨_,(zAF (ps_if (zAJ op_eq (pv 1) zAe 91) (zAE (zAU (pe_cl zNC hr (zAA (pv 0) (zAA (pv 2) zAD))))) zAN)
  (zAE (zAU (pe_or (zAx op_ne (pv 1) zAe 91) (zCk (zEU zND.ok hr 102 zND.gl zND.kp zND.bd0 .nil pass0 (zAA (pv 0) (zAA (pv 2) zAD)))))))),?_⟩
 have nq:¬(V.str (Str.ofString "quiet")=V.str (Str.ofString "number")):=λ z=>absurd (V.str.inj z) (by right);rcases hk with rfl|rfl|rfl
 ·refine⟨_,rfl,rfl,_,rfl,ite2 77 (λ Ω=>?_)⟩
  ·exact absurd (lU c) 87
  ·exact⟨_,rfl,rfl,_,rfl,iteT (q true _ (.refl _) ⟨λ Ω=>.inl rfl,λ Ω=>rfl⟩)⟩
 ·refine⟨_,rfl,rfl,_,rfl,ite2 77 (λ Ω=>?_)⟩
  ·exact absurd (V.str.inj (lU c)) (by right)
  ·refine⟨_,rfl,rfl,_,rfl,ite2 77 (λ Ω=>?_)⟩
   ·rw[decide_eq_true rfl] at c
    cases c
   ·refine⟨_,rfl,_,rfl,t,v,b,rfl,hR,hsz,hG,hb,λ z H' g hz=>q z H' g ⟨λ y=>.inr (.inl ⟨rfl,hz.mp y⟩),λ y=>?_⟩⟩
    rcases y with y|⟨_,y⟩|⟨y,_⟩
    ·cases y
    ·exact hz.mpr y
    ·exact absurd y nq
 ·refine⟨_,rfl,rfl,_,rfl,ite2 (λ Ω=>?_) 77⟩
  ·refine⟨_,rfl,_,rfl,t,v,.ref b,rfl,hR,hG t ht,q _ _ (.refl _) ⟨λ y=>.inr (.inr ⟨rfl,lU y⟩),λ y=>?_⟩⟩
   rcases y with y|⟨y,_⟩|⟨_,y⟩
   ·cases y
   ·exact absurd y.symm nq
   ·exact lW y
  ·exact absurd (lW rfl) c
def zK3 (K:W.Frag):Sp:=λ vs H Q Ω=>E3 λ(v x:V) (b:Addr)=>A3 (vs=[v,x,.ref b]) (SqT K H b []) (Q (.bl true) H)
theorem zMi (F:Fun K "has_no_other_name" "has_no_other_name" zBU f fd):FnOk P w K mg base CX0 (k+1) f fd ["tree", "atoms", "pairs"] (zK3 K):=by
 refine F.ok zCy 75 66
 ·obtain⟨v,x,b,rfl,_⟩:=h
  rfl
 obtain⟨v,x,b,rfl,hb,q⟩:=h
 refine⟨_,(zAF (ps_if (zBO (zCW (pv 2) (λ Ω=>rfl))) (zAE (zAU pe_bl)) zAN)
  zCj),?_⟩
 exact⟨_,rfl,false,.inr (.inl ⟨[],hb,rfl⟩),iteT q⟩
def zFq (K:W.Frag):Sp:=λ vs H Q Ω=>E3 λ(v:V) (x b:Addr)=>A4 (vs=[v,.ref x,.ref b]) (SqT K H x []) (Nul H b) (∀p H',Same H H'->H' p=some (.tup [])->Q (.ref p) H')
theorem zI0 (F:Fun K "piece_names" "piece_names" zCM f fd) (z_dict:mg "dict" = none) (z_enumerate:mg "enumerate" = none) (z_tuple:mg "tuple" = none):FnOk P w K mg base CX0 (k+1) f fd ["tree", "atoms", "pairs"] (zFq K):=by
 refine F.ok zBN 75 66
 ·obtain⟨v,x,b,rfl,_⟩:=h
  rfl
 obtain⟨v,x,b,rfl,hx,⟨o,hb,ho⟩,q⟩:=h;have hu:=hu_of hr
 refine⟨_,(zAF (zF0 (i:=3) zBN.nd rfl (Or.inr rfl) (zBP (zDz rfl) 102 z_dict PyProof.Rows.boot_dict (zAA (pv 2) zAD)))
  (zAF (zEC (jj:=4) ["atom", "bound"] [none,some 3] rfl (zE4 (pv 1)) (λ Ω Ω Ω Ω Ω=>(zA4 (i:=0) (show List.Nodup (["atom", "bound"]:List Str) by right) rfl (Or.inl rfl))) (λ Ω Ω Ω Ω Ω=>zBb) (λ Ω Ω Ω Ω Ω=>(zET hu (pv 1) 67 76)) rfl zBN.nd rfl (Or.inl rfl) (Or.inr rfl))
  (zAF (zAr PassesOwn.never rfl (zIq 102 z_enumerate (zAA (pv 1) zAD)) (zCG rfl (zAa (pGn (i:=5) zBN.nd) (zAa (pGn (i:=6) zBN.nd) zBK))) zCj)
  (zAE (zAU (zBP zBw 102 z_tuple rH (zAA (pv 4) zAD))))))),?_⟩
 refine⟨_,rfl,b,o,[],[],rfl,hb,ho,.nil,mB _,λ d hd=>?_⟩;have g1:=zAC (o:=.dK (zAt [] [])) hd;dsimp only[gName];generalize upd H d _=H1 at g1 ⊢;refine⟨_,rfl,x,rfl,⟨[],g1.seqT hx⟩,λ acc hacc=>?_⟩;refine zGQ (xs:=[]) (λ i H'=>Same H1 H'/\H' acc=some (.lst [])) ⟨zAC hacc,zAB⟩ (λ i H' Ω h=>h.1.seqT (g1.seqT hx)) ?_ ?_
 ·rintro j y Hx hy _
  cases hy
 rintro H2 ⟨g2,e2⟩;have g12:=g1.trans g2;refine⟨_,rfl,x,rfl,⟨[],g12.seqT hx⟩,?_⟩;refine zHk (xs:=[]) (λ i σ' H'=>σ'=[some v,some (.ref x),some (.ref b),some (.ref d),some (.ref acc),none,none]/\H'=H2) ⟨rfl,rfl⟩ ?_ ?_ ?_
 ·rintro i σ1 H1 _ ⟨rfl,rfl⟩
  exact g12.seqT hx
 ·rintro i y T σ1 H1 hy _ _
  cases hy
 ·rintro σ1 H3 ⟨rfl,rfl⟩
  refine⟨_,rfl,acc,[],rfl,.inl ⟨SqL.of e2,λ p hp=>q p _ (g12.trans (zAC hp)) zAB⟩⟩
def zK1 (K:W.Frag):Sp:=λ vs H Q Ω=>E4 λ(g:Str) (gv v:V) (b:Addr)=>A4 (vs=[gv,v,.ref b]) (Rep H (.gap g []) gv) (Nul H b) (∀p nt H',Same H H'->H' p=some (.tup [.ref nt,v])->H' nt=some (.tup [])->Q (.ref p) H')
theorem zMf (F:Fun K "piece_of" "piece_of" zDl f fd) (zNE:FnB P w K mg base k "has_no_other_name" g1 gd1 ["tree", "atoms", "pairs"] (zK3 K)) (zNF:FnB P w K mg base k "piece_names" g2 gd2 ["tree", "atoms", "pairs"] (zFq K)):FnOk P w K mg base CX0 (k+1) f fd ["gap", "tree", "pairs"] (zK1 K):=by
 refine F.ok zGl 75 66
 ·obtain⟨g,gv,v,b,rfl,_⟩:=h
  rfl
 obtain⟨g,gv,v,b,rfl,⟨a,x,us,rfl,ha,hx,_,pas⟩,hb,q⟩:=h;have eu:us=[]:=by cases pas;rfl
 subst eu
 refine⟨_,(zAF (ps_if (zA7 (pe_cl zNE hr (zAA (pv 1) (zAA 67 (zAA (pv 2) zAD))))) (zAE (zAU (zAZ (zAA (pe_cl zNF hr (zAA (pv 1) (zAA 67 (zAA (pv 2) zAD)))) (zAA (pv 1) zAD)):PE _ _ _))) zAN)
  (zAE (zAU zE7))),?_⟩
 refine⟨_,rfl,_,rfl,a,_,2,_,rfl,rfl,SqT.of ha,rfl,_,rfl,v,.ref x,b,rfl,hb.sq,true,rfl,iteT ?_⟩;refine⟨_,rfl,_,rfl,a,_,2,_,rfl,rfl,SqT.of ha,rfl,_,rfl,v,x,b,rfl,SqT.of hx,hb,λ p H1 g1 e1=>⟨_,rfl,(by show 2<=sizeLine;decide),λ p2 hp2=>?_⟩⟩;exact q p2 p _ (g1.trans (zAC hp2)) zAB (zAC hp2 _ _ e1)
def zFu:Sp:=λ vs H Q Ω=>E3 λ(p nt:Addr) (u:V)=>A4 (vs=[.ref p]) (H p=some (.tup [.ref nt,u])) (H nt=some (.tup [])) (Q u H)
theorem zI9 (F:Fun K "bound_piece" "bound_piece" zCT f fd):FnOk P w K mg base CX0 (k+1) f fd ["piece"] zFu:=by
 refine F.ok zBe 75 66
 ·obtain⟨p,nt,u,rfl,_⟩:=h
  rfl
 obtain⟨p,nt,u,rfl,hp,hn,q⟩:=h
 refine⟨_,(zAF (pS (i:=1) zBe.nd 67)
  (zAF (zAr PassesOwn.never rfl (zE4 67) (pGn (i:=2) zBe.nd) (zAE (pS (i:=1) zBe.nd (zAZ (zAA zAe (zAA (pv 2) (zAA (zAZ (zAA zAe (zAA zAH zAD)):PE _ _ _) (zAA (pv 1) zAD)))):PE _ _ _))))
  (zAE (zAU (pv 1))))),?_⟩
 refine⟨_,rfl,p,_,1,_,rfl,rfl,SqT.of hp,rfl,?_⟩;refine⟨_,rfl,p,_,0,_,rfl,rfl,SqT.of hp,rfl,nt,rfl,⟨[],SqT.of hn⟩,?_⟩;refine zFa (xs:=[]) (λ i σ' H'=>σ'=[some (.ref p),some u,none]/\H'=H) ⟨rfl,rfl⟩ ?_ ?_ ?_
 ·rintro i σ1 H1 _ ⟨rfl,rfl⟩
  exact SqT.of hn
 ·rintro i y σ1 H1 hy _
  cases hy
 ·rintro σ1 H1 ⟨rfl,rfl⟩
  exact⟨_,rfl,q⟩
def zK2:Sp:=λ vs H Q Ω=>E5 λ(s t:Tr) (v1 v2 x:V)=>A6 (vs=[v1,v2,x]) (Rep H s v1) (Rep H t v2) (LfN s) (LfN t) (∀z:Bool,(z=true↔s=t)->Q (.bl z) H)
theorem zMg (F:Fun K "alike_leaves" "alike_leaves" zBf f fd):FnOk P w K mg base CX0 (k+1) f fd ["one", "other", "pairs"] zK2:=by
 refine F.ok zCg 75 66
 ·obtain⟨s,t,v1,v2,x,rfl,_⟩:=h
  rfl
 obtain⟨s,t,v1,v2,x,rfl,r1,r2,l1,l2,q⟩:=h;have hu5:=hu150 hr;refine⟨_,(zAF (ps_if (zB3 (zAJ op_eq 67 zAe 91) (zBa (zAJ op_eq 80 zAe 91))).pt zCj zAN) (zAE (zAU (zAx (zHZ hu5) (pv 0) (pv 1) 91)))),?_⟩;have d1:=lf_dr l1 r1;have d2:=lf_dr l2 r2;obtain⟨a1,hs1,us1,rfl,ha1,_,_⟩:=r1.all;have at1:atI (V.str s.kd.s::hs1++us1) 0=some (.str s.kd.s):=zAS (j:=0) rfl
 have nn:¬V.str s.kd.s=V.str "name" := λ z=>by
  have:=Kd.eq_iff (b:=.name) |>.mp z;rcases l1 with h|h|h<;>(rw[h] at this;cases this)
 refine⟨_,rfl,a1,_,0,_,rfl,rfl,SqT.of ha1,at1,rfl,_,rfl,iteN nn (iteF ?_)⟩
 have dp:(Dt.tup (lfD s)).deep<=150:=by
  rcases zEE l1 with ⟨n,rfl⟩|⟨x,rfl⟩|⟨x,rfl⟩<;>simp[lfD,Dt.deep,Dt.deeps]
 refine⟨_,rfl,_,rfl,lfD s,lfD t,d1,d2,dp,?_⟩;exact q (Dt.beqs (lfD s) (lfD t)) (Dt.beqs_iff.trans (zMo l1 l2))
def zK4 (K:W.Frag):Sp:=λ vs H Q Ω=>E5 λ(s t:Tr) (v1 v2 x:V)=>A6 (vs=[v1,v2,x]) (Rep H s v1) (Rep H t v2) (¬s.kd = .gap) (¬s.kd = .name) (∀z:Bool,(z=true↔HdA s t)->Q (.bl z) H)
theorem zMj (F:Fun K "alike_heads" "alike_heads" zBt f fd) (zM2:mg "LEAF_SIGNS" = some (.ref lv)) (hL:zDj K lv) (zM5:FnB P w K mg base k "alike_leaves" g1 gd1 ["one", "other", "pairs"] zK2):FnOk P w K mg base CX0 (k+1) f fd ["one", "other", "pairs"] (zK4 K):=by
 refine F.ok zC5 75 66
 ·obtain⟨s,t,v1,v2,x,rfl,_⟩:=h
  rfl
 obtain⟨s,t,v1,v2,x,rfl,r1,r2,ng,nn,q⟩:=h
 refine⟨_,(zAF (ps_if (zAJ op_ne 67 80 91) (zAE (zAU pe_bl)) zAN)
  (zAF (ps_if (zAJ op_eq 67 zAe 91) zCj zAN)
  (zAE (zAU (pe_or (zAx (r:=rIn K true) zCm 67 (zFT (v:=.ref _) 102 zM2 102) rfl) (zCk (pe_cl zM5 hr (zAA (pv 0) (zAA (pv 1) (zAA (pv 2) zAD)))))))))),?_⟩
 have r10:=r1;have r20:=r2;obtain⟨a1,hs1,us1,rfl,ha1,_,_⟩:=r1.all;obtain⟨a2,hs2,us2,rfl,ha2,_,_⟩:=r2.all;have at1:atI (V.str s.kd.s::hs1++us1) 0=some (.str s.kd.s):=zAS (j:=0) rfl;have at2:atI (V.str t.kd.s::hs2++us2) 0=some (.str t.kd.s):=zAS (j:=0) rfl;refine⟨_,rfl,a1,_,0,_,rfl,rfl,SqT.of ha1,at1,_,rfl,a2,_,0,_,rfl,rfl,SqT.of ha2,at2,rfl,_,rfl,ite2 77 77⟩
 ·have ne:¬s.kd=t.kd:=λ z=>by rw[z] at c;simp at c
  exact q false ⟨87,λ z=>absurd z.1 ne⟩
 have ek:s.kd=t.kd:=by
  refine Classical.byContradiction λ z=>c ?_;have:¬V.str s.kd.s=V.str t.kd.s:=λ y=>z (Kd.eq_iff.mp y);simp[this]
 refine⟨_,rfl,a1,_,0,_,rfl,rfl,SqT.of ha1,at1,rfl,_,rfl,iteN (λ z=>ng (Kd.eq_iff (b:=.gap) |>.mp z)) ?_⟩;refine⟨_,rfl,a1,_,0,_,rfl,rfl,SqT.of ha1,at1,lv,zCE,rfl,.inr (.inr hL),rfl,rfl,_,rfl,?_⟩;show if (!inV (.str s.kd.s) zCE)=true then _ else _
 rw[zEG];refine ite2 (λ e=>?_) (λ e=>?_)
 ·refine q true ⟨λ Ω=>⟨ek,λ z=>?_⟩,λ Ω=>rfl⟩
  rw[z] at e;cases e
 ·have hlf:s.kd.leaf=true:=by simpa using e
  have l1:=zJO hlf ng nn;have l2:=zJO (t:=t) (by rw[←ek];exact hlf) (by rw[←ek];exact ng) (by rw[←ek];exact nn);exact⟨_,rfl,_,rfl,_,rfl,s,t,_,_,_,rfl,r10,r20,l1,l2,λ z hz=>q z ⟨λ y=>⟨ek,λ Ω=>hz.mp y⟩,λ y=>hz.mpr (y.2 hlf)⟩⟩
def zIb:Sp:=λ vs H Q Ω=>E5 λ(s:Tr) (v1 v2:V) (n:Int) (b:V)=>A4 (vs=[v1,v2,.int n,b]) (Rep H s v1) (¬s.kd = .lett) (Q b H)
theorem zLt (F:Fun K "pairs_in" "pairs_in" zCt f fd):FnOk P w K mg base CX0 (k+1) f fd ["one", "other", "number", "pairs"] zIb:=by
 refine F.ok zEL 75 66
 ·obtain⟨s,v1,v2,n,b,rfl,_⟩:=h
  rfl
 obtain⟨s,v1,v2,n,b,rfl,r1,nl,q⟩:=h
 refine⟨_,(zAF (ps_if (zB3 (zAJ op_eq 67 zAe 91) (zBa (zAJ op_eq (pv 2) zAH 91))).pt (zAE (zAU (pe_op zCB (pv 3) (zAZ (zAA (zAZ (zAA 67 (zAA 80 zAD)):PE _ _ _) zAD):PE _ _ _)))) zAN)
  (zAE (zAU (pv 3)))),?_⟩
 obtain⟨a1,hs1,us1,rfl,ha1,_,_⟩:=r1.all;have at1:atI (V.str s.kd.s::hs1++us1) 0=some (.str s.kd.s):=zAS (j:=0) rfl;exact⟨_,rfl,a1,_,0,_,rfl,rfl,SqT.of ha1,at1,rfl,_,rfl,iteN (λ z=>nl (Kd.eq_iff (b:=.lett) |>.mp z)) (iteF ⟨_,rfl,q⟩)⟩
abbrev zCL:Stmt:=top 33
theorem zEm:zAW ["filling", "gap", "piece"] ["filling", "gap", "piece"] (zAM zCL):=scI
def zHH:Sp:=λ vs H Q Ω=>E6 λ(d:Addr) (g:Str) (v:V) (t:Tr) (φ:List (Str × Tr)) (kvs:List (Key × V))=>A8 (vs=[.ref d,.str g,v]) (H d=some (.dK kvs)) (PcR1 H t v) (t.size<=300) (FlR H φ kvs) (φ.length<=300) (∀u z H',(g,u)∈φ->Same H H'->(z=true↔bare t []=bare u [])->Q (.bl z) H') ((∀u,(g,u)∉φ)->FlR H (φ++[(g,t)]) (putK kvs (Sum.inr g) v)->Q (.bl true) (upd H d (.dK (putK kvs (Sum.inr g) v))))
theorem zKT (F:Fun K "takes_piece" "takes_piece" zCL f fd) (zNG:FnB P w K mg base k "alike" g1 gd1 ["one", "other"] zHQ) (zNH:FnB P w K mg base k "bound_piece" g2 gd2 ["piece"] zFu):FnOk P w K mg base CX0 (k+1) f fd ["filling", "gap", "piece"] zHH:=by
 refine F.ok zEm 75 66
 ·obtain⟨d,g,v,t,φ,kvs,rfl,_⟩:=h
  rfl
 obtain⟨d,g,v,t,φ,kvs,rfl,hd,hp,hz,hF,lφ,q1,q2⟩:=h;have hu:=hu_of hr;have hp0:=hp;obtain⟨p,nt,u,rfl,e1,e2,ru⟩:=hp;have lk:kvs.length=φ.length:=by have:=hF.pr.length;lia
 refine⟨_,(zAF (ps_if (zAJ zMd (pv 2) zE7 91) (zAE (zAU pe_bl)) zAN)
  (zAF (ps_if (zAJ (zIx hu) (pv 1) (pv 0) rfl) (zAE (zAU (pe_cl zNG hr (zAA (pe_cl zNH hr (zAA (zET hu (pv 0) (pv 1) 76) zAD)) (zAA (pe_cl zNH hr (zAA (pv 2) zAD)) zAD))))) zAN)
  (zAF (zGq hu (pv 0) (pv 1) (pv 2) rfl)
  (zAE (zAU pe_bl))))),?_⟩
 refine⟨_,rfl,rfl,_,rfl,iteN 87 ?_⟩
 refine⟨_,rfl,_,rfl,d,_,rfl,DGet.k (k:=Sum.inr g) hd,_,rfl,ite2 77 77⟩
 ·cases ev:valV kvs (Sum.inr g:Key) with
  |none=>rw[ev] at c;cases c
  |some v0 =>
   obtain⟨t0,m0,hp00⟩:=FlR.at hF.pr ev;obtain⟨p0,nt0,u0,rfl,f1,f2,r0⟩:=hp00;refine⟨_,rfl,_,rfl,d,.ref p0,rfl,?_,?_⟩
   ·have:=DGet.k (H:=H) (k:=Sum.inr g) hd
    rw[ev] at this;exact this
   refine⟨p0,nt0,u0,rfl,f1,f2,_,rfl,p,nt,u,rfl,e1,e2,t0,t,u0,u,rfl,r0,ru,mI (hF.sz _ m0) 69,λ H1 g1=>?_⟩;refine q1 t0 _ H1 m0 g1 ?_;rw[decide_eq_true_iff];exact⟨Eq.symm,Eq.symm⟩
 ·have ev:valV kvs (Sum.inr g:Key)=none:=by
   cases ev:valV kvs (Sum.inr g:Key) with
   |none=>rfl
   |some v0=>rw[ev] at c;exact absurd rfl c
  refine⟨_,rfl,_,rfl,_,rfl,d,_,rfl,DPut.k (k:=Sum.inr g) hd (zAR 61),?_⟩;exact q2 (FlR.no hF.pr ev) (hF.put ev hp0 hz)
abbrev s_fit:Stmt:=top 34
theorem zCf:zAW ["rule", "tree", "kinds", "wanted", "filling", "level", "deeper", "shape", "part", "pairs", "number", "both"] ["rule", "tree", "kinds"] (zAM s_fit):=scI
def zK5:Sp:=λ vs H Q Ω=>E8 λ(r ka:Addr) (lv rv tv:V) (s t:Tr) (kds:List (Str × Str))=>A11 (vs=[.ref r,tv,.non]) (H r=some (.tup [lv,rv,.ref ka])) (KdsAt H ka kds) (kds.length<=300) (∀g,KdV (wKd kds g)) (Rep H s lv) (s.size<=200) (Rep H t tv) (Pok (s,t)) (Fits (wKd kds) s t->∀d H',Same H H'->Q (.ref d) H') (¬Fits (wKd kds) s t->∀H',Same H H'->Q .non H')
theorem zMk (F:FunD K "fit" "fit" s_fit f fd [.none]) (z_dict:mg "dict" = none) (z_enumerate:mg "enumerate" = none) (z_zip:mg "zip" = none)
  (zNI:FnB P w K mg base k "is_of_kind" g1 gd1 ["tree", "kind", "kinds"] (zFs K)) (zNJ:FnB P w K mg base k "piece_of" g2 gd2 ["gap", "tree", "pairs"] (zK1 K)) (zNK:FnB P w K mg base k "takes_piece" g3 gd3 ["filling", "gap", "piece"] zHH)
  (zM7:FnB P w K mg base k "alike_heads" g4 gd4 ["one", "other", "pairs"] (zK4 K)) (zM8:FnB P w K mg base k "parts" g5 gd5 ["tree"] zA0) (zM9:FnB P w K mg base k "pairs_in" g6 gd6 ["one", "other", "number", "pairs"] zIb):FnOk P w K mg base CX0 (k+1) f fd ["rule", "tree", "kinds"] zK5:=by
 refine F.ok zCf 75 66
 ·obtain⟨r,ka,lv,rv,tv,s,t,kds,rfl,_⟩:=h
  rfl
 obtain⟨r,ka,lv,rv,tv,sh,tr,kds,rfl,hr0,⟨ok,ys,hka,hod,pk⟩,lkd,hkv,rl,hsz,rt,hpk,qy,qn⟩:=h;have hu:=hu_of hr
 refine⟨_,(zAF (pS (i:=3) zCf.nd (zBP (zDz rfl) 102 z_dict PyProof.Rows.boot_dict (zAA 67 zAD)))
  (zAF (pS (i:=4) zCf.nd zCx)
  (zAF (pS (i:=5) zCf.nd (zA8 (zAA (zAZ (zAA 67 (zAA (pv 1) (zAA (zFS zAD) zAD))):PE _ _ _) zAD):PE _ _ _))
  (zAF (zCY PassesOwn.never (zCW (pv 5) (λ Ω=>rfl)) (zAF (pS (i:=6) zCf.nd (zA8 zAD:PE _ _ _))
  (zAF (zAr PassesOwn.never rfl (zBD (pv 5)) (zCG rfl (zAa (pGn (i:=7) zCf.nd) (zAa (pGn (i:=8) zCf.nd) (zAa (pGn (i:=9) zCf.nd) zBK)))) (zAE (ps_if (zAJ op_eq (iC (r:=rIxT K) zAL (pv 7)) zAe 91) (zAF (ps_if (zBO (zA7 (pe_cl zNI hr (zAA (pv 8) (zAA (zKR hu (pv 3) (iC (r:=rIxT K) zAL (pv 7)) ⟨rfl,rfl,rfl,rfl⟩) (zAA (zLA (pv 2) (zCk (zFS zAD))) zAD)))))) (zAE (zAU zE7)) zAN)
  (zAE (ps_if (zBO (zA7 (pe_cl zNK hr (zAA (pv 4) (zAA (iC (r:=rIxT K) zAL (pv 7)) (zAA (pe_cl zNJ hr (zAA (pv 7) (zAA (pv 8) (zAA (pv 9) zAD)))) zAD)))))) (zAE (zAU zE7)) zAN))) (zAE (ps_if (zBO (zA7 (pe_cl zM7 hr (zAA (pv 7) (zAA (pv 8) (zAA (pv 9) zAD)))))) (zAE (zAU zE7)) (zAE (zAr PassesOwn.never rfl (zE5 102 z_enumerate 102 z_zip (zAA (pe_cl zM8 hr (zAA (pv 7) zAD)) (zAA (pe_cl zM8 hr (zAA (pv 8) zAD)) zAD))) (zCG rfl (zAa (pGn (i:=10) zCf.nd) (zAa (pGn (i:=11) zCf.nd) zBK))) (zAE (pAp (pv 6) (zAZ (zAA (iC (r:=rIxT K) zAL (pv 11)) (zAA (iC (r:=rIxT K) zAL (pv 11)) (zAA (pe_cl zM9 hr (zAA (pv 7) (zAA (pv 8) (zAA (pv 10) (zAA (pv 9) zAD))))) zAD))):PE _ _ _))))))))))
  (zAE (pS (i:=5) zCf.nd (pv 6))))))
  (zAE (zAU (pv 4))))))),?_⟩
 refine⟨_,rfl,r,_,2,_,rfl,rfl,SqT.of hr0,rfl,ka,ok,ys,kdV kds,rfl,hka,hod,pk,by unfold kdV;rw[lE];lia,λ wd hwd=>?_⟩;have gA:=zAC (o:=.dK (zAt [] (kdV kds))) hwd;have ewd:=@zAB H wd (.dK (zAt [] (kdV kds)));dsimp only[gName];generalize upd H wd _=Ha at gA ewd ⊢;refine λ d hd=>?_;have gB:=zAC (o:=.dK []) hd;have ed:=@zAB Ha d (.dK []);have hdH:H d=none:=gA.free hd;have nwd:wd≠d:=λ z=>by rw[z,hd] at ewd;cases ewd
 dsimp only[gName];generalize upd Ha d _=Hb at gB ed ⊢;have gAB:=gA.trans gB;have ewd2:=gB _ _ ewd;refine⟨_,rfl,r,_,0,_,rfl,rfl,SqT.of (gAB _ _ hr0),rfl,_,rfl,mB _,λ b ob hb hob=>?_⟩;have gC:=zAC (o:=.frz ob (.tup [])) hb;have nb:Nul (upd Hb b (.frz ob (.tup []))) b:=⟨ob,zAB,hob⟩;have ed0:=gC _ _ ed;have ewd0:=gC _ _ ewd2;have gH0:=gAB.trans gC;generalize upd Hb b _=H0 at gC nb ed0 ewd0 gH0 ⊢;clear gA gB gC gAB ewd ewd2 ed hd hwd
 have nbd:b≠d:=λ z=>by
  obtain⟨o,h,_⟩:=nb;rw[z,ed0] at h;cases h
 have outH:∀H',SbD d H0 H'->Same H H':=λ H' sb c u e=>sb c u (zAV e hdH) (gH0 c u e);refine⟨(by show 3<=sizeLine;decide),λ pr hpr=>⟨(by show 1<=sizeLine;decide),λ l hl=>?_⟩⟩;have g3:=zAC (o:=.tup [lv,tv,.ref b]) hpr;have g4:=zAC (o:=.lst [.ref pr]) hl;have g34:=g3.trans g4;have hlH:H0 l=none:=g3.free hl;have gall:=gH0.trans g34
 refine⟨(λ m σ' H'=>E11 λ(l:Addr) (ps:List V) (lev:List (Tr × Tr)) (kvs:List (Key × V)) (φ:List (Str × Tr)) (s6 s7 s8 s9 s10 s11:Option V)=>A11 (σ'=[some (.ref r),some tv,some .non,some (.ref wd),some (.ref d),some (.ref l),s6,s7,s8,s9,s10,s11]) (SbD d H0 H') (H0 l=none) (H' l=some (.lst ps)) (Paired (Fl2 b H') lev ps) (m=szX lev) (∀q∈lev,Pok q) (H' d=some (.dK kvs)) (FlR H' φ kvs) (φ.length+szX lev<=200) (Fits (wKd kds) sh tr↔Jn (wKd kds) lev φ)),
  ⟨szX [(sh,tr)],l,_,[(sh,tr)],[],[],none,none,none,none,none,none,rfl,g34.sd,hlH,zAB,.cons ⟨pr,lv,tv,rfl,g4 _ _ zAB,rl.mono gall.tk,rt.mono gall.tk⟩ .nil,rfl,by simpa using hpk,g34 _ _ ed0,⟨.nil,List.nodup_nil,(λ p hp=>nomatch hp)⟩,by simp[szX,szT];lia,Iff.rfl⟩,?_⟩
 clear g3 g4 g34 gall hpr hlH;rintro m σ' Hw ⟨l,ps,lev,kvs,φ,s6,s7,s8,s9,s10,s11,rfl,sw,hl,el,hp,rfl,hlg,ekw,fdw,lSw,cov⟩;have nld:l≠d:=λ z=>by rw[z,ed0] at hl;cases hl
 refine⟨_,rfl,_,.inl ⟨ps,SqL.of el,rfl⟩,?_⟩;refine ite2 77 77
 ·refine⟨_,λ Ω Ω h=>h,94,λ dp hdp=>⟨_,rfl,l,rfl,⟨ps,SqL.of (zAC hdp _ _ el)⟩,?_⟩⟩
  have gd:=zAC (o:=.lst []) hdp
  have hdpH:H0 dp=none:=by
   cases e:H0 dp with
   |none=>rfl
   |some o =>
    by_cases z:dp=d
    ·rw[z,ekw] at hdp;cases hdp
    ·rw[sw _ _ z e] at hdp;cases hdp
  have ndl:dp≠l:=Ne.symm (zAV el hdp);have ndd:dp≠d:=λ z=>by rw[z,ekw] at hdp;cases hdp
  refine zBR (xs:=ps) (λ i σ' H'=>E8 λ(dps:List V) (kvs:List (Key × V)) (φ:List (Str × Tr)) (s7 s8 s9 s10 s11:Option V)=>A12 (σ'=[some (.ref r),some tv,some .non,some (.ref wd),some (.ref d),some (.ref l),some (.ref dp),s7,s8,s9,s10,s11]) (SbD d H0 H') (Tk Hw H') (H' l=some (.lst ps)) (H' dp=some (.lst dps)) (Paired (Fl2 b H') ((lev.take i).flatMap kidZ) dps) (H' d=some (.dK kvs)) (FlR H' φ kvs) (φ.length+szX (lev.drop i)+szX ((lev.take i).flatMap kidZ)<=200) (∀q∈(lev.take i).flatMap kidZ,Pok q) (szX ((lev.take i).flatMap kidZ)+i+szX (lev.drop i)<=szX lev) (Fits (wKd kds) sh tr↔Jn (wKd kds) (lev.drop i++(lev.take i).flatMap kidZ) φ)) ?_ ?_ ?_ ?_
  ·exact⟨[],kvs,φ,s7,s8,s9,s10,s11,rfl,sw.trans gd.sd,gd.tk,gd _ _ el,zAB,.nil,gd _ _ ekw,fdw.mono gd.tk,by simpa[szX,szT] using lSw,by simp,by simp[szX,szT],by simpa using cov⟩
  ·rintro i σ1 H1 _ ⟨dps,kv1,φ1,s7,s8,s9,s10,s11,rfl,sb1,k1,el1,_⟩
   exact SqL.of el1
  ·rintro i x σ1 H1 hx ⟨dps,kv1,φ1,s7,s8,s9,s10,s11,rfl,sb1,k1,el1,edp1,hp1,ek1,fd1,lS1,pk1,ms1,cov1⟩
   obtain⟨⟨sq,tq⟩,eq,rq⟩:=zAP hp hx;have hmem:(sq,tq)∈lev:=lN eq;have hlq:=hlg _ hmem;obtain⟨a,u1,w1,rfl,ha,ru,rw1⟩:=rq.mono k1;obtain⟨hil,eil⟩:=lK.mp eq;have hdr:lev.drop i=(sq,tq)::lev.drop (i+1):=by rw[List.drop_eq_getElem_cons hil,eil]
   have htk:(lev.take (i+1)).flatMap kidZ=(lev.take i).flatMap kidZ++kidZ (sq,tq):=by rw[zAY eq,nJ];simp
   rw[hdr] at lS1 cov1 ms1;rw[zHD] at lS1 ms1;dsimp only at lS1 ms1
   have nb1:Nul H1 b:=by
    obtain⟨o,h,dn⟩:=nb;exact⟨o,sb1 _ _ nbd h,dn⟩
   have ewd1:=sb1 _ _ nwd ewd0;have out1:=outH H1 sb1;refine⟨a,_,rfl,SqT.of ha,rfl,_,_,rfl,_,_,rfl,_,_,rfl,rfl,?_⟩;have ru0:Rep H1 sq u1:=ru;obtain⟨a0,hs0,us0,e0,ha0,hl0,hp0⟩:=ru0.all;have at0:atI (V.str sq.kd.s::hs0++us0) 0=some (.str sq.kd.s):=zAS (j:=0) rfl;subst e0;refine⟨_,rfl,a0,_,0,_,rfl,rfl,SqT.of ha0,at0,rfl,_,rfl,ite2 (λ cg=>?_) (λ cg=>?_)⟩
   ·have z:sq.kd = .gap:=Kd.eq_iff.mp (lU cg)
    obtain⟨g,as,rfl⟩:=kdS (k:=.gap) z;have eas:as=[]:=(hlq.1 _ (zBj _)).2.2 g as rfl;subst eas;obtain⟨a',b',us2,e',ha',hb',hl2,pas⟩:=id ru0;cases e';have kz:kidZ (.gap g [],tq)=[]:=if_pos rfl;rw[kz,nP] at htk;have gsz:(Tr.gap g []).size=1:=rfl;refine⟨_,rfl,_,rfl,wd,rfl,.inl ⟨_,.inl ewd1⟩,_,rfl,a0,_,1,_,rfl,rfl,SqT.of ha',rfl,_,DGet.k (k:=Sum.inr g) ewd1,_,rfl,false,rfl,iteF ⟨mB _,λ b2 o2 hb2 ho2=>?_⟩⟩;have g2:=zAC (o:=.frz o2 (.tup [])) hb2;have n2:SqT K (upd H1 b2 (.frz o2 (.tup []))) b2 []:=.inl (.inr ⟨o2,zAB⟩);generalize upd H1 b2 _=H2 at g2 n2 ⊢;refine⟨tq,w1,_,b2,rfl,rw1.mono g2.tk,hlq.2.2,hlq.2.1,hkv g,n2,λ z3 H3 g3 hz3=>⟨z3,rfl,?_⟩⟩;have g13:=g2.trans g3;cases z3 with
    |false=>exact iteT (qn (λ hf=>zJb (λ y=>nomatch hz3.mpr y) (cov1.mp hf)) H3 (out1.trans g13))
    |true =>
     have hok:OfK (wKd kds g) tq:=hz3.mp rfl;refine iteF ?_;refine⟨_,rfl,_,rfl,a0,_,1,_,rfl,rfl,SqT.of (g13 _ _ ha'),rfl,_,rfl,_,rfl,_,rfl,g,.ref a0,w1,b,rfl,ru0.mono g13.tk,nb1.same g13,λ p nt H4 g4 e4 e4n=>?_⟩;have g14:=g13.trans g4;refine⟨d,g,.ref p,tq,φ1,kv1,rfl,g14 _ _ ek1,⟨p,nt,w1,rfl,e4,e4n,rw1.mono g14.tk⟩,hlq.2.2,fd1.mono g14.tk,by lia,λ u z5 H5 mu g5 hz5=>⟨z5,rfl,?_⟩,λ hno hF5=>⟨true,rfl,iteF ?_⟩⟩
     ·have g15:=g14.trans g5
      cases z5 with
      |false=>exact iteT (qn (λ hf=>zGJ mu (λ y=>nomatch hz5.mpr y) (cov1.mp hf)) H5 (out1.trans g15))
      |true =>
       have hb5:=hz5.mp rfl;refine iteF ?_;refine⟨dps,kv1,φ1,_,_,_,_,_,rfl,sb1.trans g15.sd,k1.trans g15.tk,g15 _ _ el1,g15 _ _ edp1,?_,g15 _ _ ek1,fd1.mono g15.tk,?_,?_,?_,?_⟩
       ·rw[htk];exact Paired.mapP hp1 λ Ω Ω z=>z.mono g15.tk
       ·rw[htk];lia
       ·rw[htk];exact pk1
       ·rw[htk];lia
       ·rw[htk]
        exact cov1.trans (zHi hok (λ u' hu'=>by rw[zLG fd1.nd hu' mu];exact hb5) (λ Ω h=>h) (λ Ω h=>.inl h) ⟨u,mu,hb5⟩)
     ·have sb5:SbD d H4 (upd H4 d (.dK (putK kv1 (Sum.inr g) (.ref p)))):=SbD.set _
      have tk5:=sb5.tk (g14 _ _ ek1);have sb15:=g14.sd.trans sb5;refine⟨dps,_,φ1++[(g,tq)],_,_,_,_,_,rfl,sb1.trans sb15,k1.trans (g14.tk.trans tk5),sb15 _ _ nld el1,sb15 _ _ ndd edp1,?_,zAB,hF5.mono tk5,?_,?_,?_,?_⟩
      ·rw[htk];exact Paired.mapP hp1 λ Ω Ω z=>z.mono (g14.tk.trans tk5)
      ·rw[htk,mK,List.length_singleton];lia
      ·rw[htk];exact pk1
      ·rw[htk];lia
      ·rw[htk]
       exact cov1.trans (zHi hok (λ u' hu'=>absurd hu' (hno u')) (λ Ω h=>mH _ h) (λ q hq=>(lM.mp hq).imp id λ z=>mQ.mp z) ⟨tq,mD _ lP,rfl⟩)
   ·have z:¬sq.kd = .gap:=λ z=>cg (lW (by rw[z];rfl))
    have kz:kidZ (sq,tq)=pz sq tq:=if_neg z;rw[kz] at htk;have hsz2:=zKy sq tq;refine⟨_,rfl,_,rfl,_,rfl,sq,tq,.ref a0,w1,.ref b,rfl,ru0,rw1,z,(hlq.1 _ (zBj _)).2.1,λ z3 hz3=>⟨z3,rfl,?_⟩⟩;cases z3 with
    |false=>exact iteT (qn (λ hf=>zJc z (λ y=>nomatch hz3.mpr y) (cov1.mp hf)) H1 out1)
    |true =>
    have hh:=hz3.mp rfl;refine iteF ?_;refine⟨_,rfl,sq,.ref a0,rfl,ru0,λ pt H3 us g3 e3 hus=>⟨_,rfl,tq,w1,rfl,rw1.mono g3.tk,λ pt2 H4 us2 g4 e4 hus2=>⟨pt,pt2,us,us2,rfl,g4 _ _ e3,e4,?_⟩⟩⟩;have g24:=g3.trans g4;have lus:=hus.length;have lus2:=hus2.length;have ru4:=ru0.mono g24.tk;refine zLM (xs:=us) (ys:=us2) (λ j σ' H'=>E3 λ(dps':List V) (s10 s11:Option V)=>A7 (σ'=[some (.ref r),some tv,some .non,some (.ref wd),some (.ref d),some (.ref l),some (.ref dp),some (.ref a0),some w1,some (.ref b),s10,s11]) (SbD d H0 H') (Tk H4 H') (H' l=some (.lst ps)) (H' dp=some (.lst dps')) (Paired (Fl2 b H') (((lev.take i).flatMap kidZ)++(pz sq tq).take j) dps') (H' d=some (.dK kv1))) ?_ ?_ ?_ ?_
    ·exact⟨dps,s10,s11,rfl,sb1.trans g24.sd,.refl _,g24 _ _ el1,g24 _ _ edp1,by
      rw[List.take_zero,nP];exact Paired.mapP hp1 λ Ω Ω z=>z.mono g24.tk,g24 _ _ ek1⟩
    ·rintro j σ3 H5 _ ⟨dps5,s10,s11,rfl,sb5,k5,el5,edp5,hp5,ek5⟩
     exact⟨k5 _ _ (g4 _ _ e3),k5 _ _ e4⟩
    ·rintro j x y T U σ3 H5 hx hy ⟨dps5,s10,s11,rfl,sb5,k5,el5,edp5,hp5,ek5⟩ hU hT
     have gU:=zAC (o:=.tup [x,y]) hU;have gT:=zAC (o:=.tup [.int j,.ref U]) hT;have gUT:=gU.trans gT;obtain⟨cx,ecx,rcx⟩:=zAP hus hx;obtain⟨cy,ecy,rcy⟩:=zAP hus2 hy;have ez:(pz sq tq)[j]?=some (cx,cy):=List.getElem?_zip_eq_some.mpr ⟨ecx,ecy⟩;have hj:j<us.length:=(lK.mp hx).1;refine⟨T,_,rfl,SqT.of zAB,rfl,_,_,rfl,_,_,rfl,rfl,?_⟩;have edp6:=gUT _ _ edp5;have hU6:(upd (upd H5 U (.tup [x,y])) T (.tup [.int j,.ref U])) U=some (.tup [x,y]):=gT _ _ zAB;refine⟨_,rfl,.inl ⟨rfl,_,SqL.of edp6⟩,_,rfl,U,_,0,_,rfl,rfl,SqT.of hU6,rfl,_,rfl,U,_,1,_,rfl,rfl,SqT.of hU6,rfl,_,rfl,_,rfl,_,rfl,_,rfl,sq,.ref a0,w1,j,.ref b,rfl,ru4.mono (k5.trans gUT.tk),(hlq.1 _ (zBj _)).1,⟨(by show 3<=sizeLine;decide),λ pr hpr=>?_⟩⟩;have gq:=zAC (o:=.tup [x,y,.ref b]) hpr;have gA:=gUT.trans gq;have edp7:=gA _ _ edp5
     have tot:dps5.length<=500:=by
      rw[←hp5.length,mK,mN];have l1:=zIW ((lev.take i).flatMap kidZ);have l5:=zIW (pz sq tq)
      lia
     refine⟨dp,_,_,rfl,rfl,edp7,zAR 61,?_⟩;have kset:Tk H5 (upd (upd (upd (upd H5 U (.tup [x,y])) T (.tup [.int j,.ref U])) pr (.tup [x,y,.ref b])) dp (.lst (dps5++[.ref pr]))):=gA.tk.trans (Tk.lst edp7);refine⟨_,_,_,rfl,(sb5.trans gA.sd).put hdpH _,k5.trans kset,by rw[zAd (Ne.symm ndl)];exact gA _ _ el5,zAB,?_,by rw[zAd (Ne.symm ndd)];exact gA _ _ ek5⟩;rw[zAY ez,←mX];exact zAK (Paired.mapP hp5 λ Ω Ω z=>z.mono kset) (.cons ⟨pr,x,y,rfl,Tk.lst edp7 _ _ zAB,(rcx.mono g4.tk).mono (k5.trans kset),rcy.mono (k5.trans kset)⟩ .nil)
    ·rintro σ3 H5 ⟨dps5,s10,s11,rfl,sb5,k5,el5,edp5,hp5,ek5⟩
     have lz:(pz sq tq).length=min us.length us2.length:=by unfold pz;rw[List.length_zip,lus,lus2]
     rw[←lz,mO] at hp5;refine⟨dps5,kv1,φ1,_,_,_,s10,s11,rfl,sb5,k1.trans (g24.tk.trans k5),el5,edp5,by rw[htk];exact hp5,ek5,fd1.mono (g24.tk.trans k5),?_,?_,?_,?_⟩
     ·rw[htk,zFL];lia
     ·rw[htk]
      intro q hq;rcases lM.mp hq with h|h
      ·exact pk1 q h
      ·exact hlq.pz h
     ·rw[htk,zFL];lia
     ·rw[htk,←mX]
      exact cov1.trans (jn_in z hh)
  ·rintro σ1 H1 ⟨dps,kv1,φ1,s7,s8,s9,s10,s11,rfl,sb1,k1,el1,edp1,hp1,ek1,fd1,lS1,pk1,ms1,cov1⟩
   have lps:ps.length=lev.length:=zAG hp;rw[lps,List.drop_length,mO,List.nil_append] at cov1;rw[lps,mO] at hp1 pk1;rw[lps,mO,List.drop_length] at lS1 ms1
   have hpos:0<lev.length:=by
    rw[←lps];cases ps with
    |nil=>simp at c
    |cons _ _=>simp
   have z0:szX []=0:=rfl;refine⟨_,rfl,szX (lev.flatMap kidZ),by lia,dp,dps,lev.flatMap kidZ,kv1,φ1,some (.ref dp),s7,s8,s9,s10,s11,rfl,sb1,hdpH,edp1,hp1,rfl,pk1,ek1,fd1,by lia,cov1⟩
 ·have e0:ps=[]:=by
   cases ps with
   |nil=>rfl
   |cons _ _=>simp at c
  subst e0
  have eL:lev=[]:=by
   cases hp;rfl
  subst eL;exact⟨_,rfl,qy (cov.mpr Jn.nil) d Hw (outH Hw sw)⟩
abbrev zBp:Stmt:=top 36
theorem zCr:zAW ["rules", "tree", "kinds", "found", "place", "part", "number", "rule"] ["rules", "tree", "kinds"] (zAM zBp):=scI
def RlA (H:Hp) (r:RlF) (v:V):Prop:=∃(a ka:Addr) (lv rv:V) (kds:List (Str × Str)),v = .ref a/\H a=some (.tup [lv,rv,.ref ka])/\KdsAt H ka kds/\kds.length<=300/\(∀g,KdV (wKd kds g))/\Rep H r.1 lv/\r.1.size<=200/\PlS r.1/\r.2=wKd kds
theorem RlA.same {H H':Hp}(k:Same H H') {r:RlF}{v:V}:RlA H r v->RlA H' r v
 |⟨a,ka,lv,rv,kds,e,h1,h2,h3,h4,h5,h6,h7,h8⟩=>⟨a,ka,lv,rv,kds,e,k _ _ h1,h2.mono k,h3,h4,h5.mono k.tk,h6,h7,h8⟩
def zHI:Sp:=λ vs H Q Ω=>E5 λ(l:Addr) (rs:List V) (R:List RlF) (u:Tr) (v:V)=>A8 (vs=[.ref l,v,.non]) (H l=some (.lst rs)) (Paired (RlA H) R rs) (R.length<=3) (Rep H u v) (NoG u) (u.size<=300) (∀(f:Addr) (ss:List V) (H':Hp),H f=none->Same H H'->H' f=some (.lst ss)->Paired (StV H') (dueS R [] u) ss->Q (.ref f) H')
theorem zKU (F:FunD K "steps" "steps" zBp f fd [.none]) (z_enumerate:mg "enumerate" = none) (zNL:FnB P w K mg base k "placed_parts" g1 gd1 ["tree"] zFr) (G_fit:FnB P w K mg base k "fit" g2 gd2 ["rule", "tree", "kinds"] zK5):FnOk P w K mg base CX0 (k+1) f fd ["rules", "tree", "kinds"] zHI:=by
 refine F.ok zCr 75 66
 ·obtain⟨l,rs,R,u,v,rfl,_⟩:=h
  rfl
 obtain⟨l,rs,R,u,v,rfl,el,pR,lR,ru,hng,hz,q⟩:=h
 refine⟨_,(zAF (pS (i:=3) zCr.nd (zA8 zAD:PE _ _ _))
  (zAF (zAr PassesOwn.never rfl (zBD (pe_cl zNL hr (zAA (pv 1) zAD))) (zCG rfl (zAa (pGn (i:=4) zCr.nd) (zAa (pGn (i:=5) zCr.nd) zBK))) (zAE (zAr PassesOwn.never rfl (zKP 102 z_enumerate (zAA (pv 0) zAD)) (zCG rfl (zAa (pGn (i:=6) zCr.nd) (zAa (pGn (i:=7) zCr.nd) zBK))) (zAE (ps_if (zAJ zLo (pe_cl G_fit hr (zAA (pv 7) (zAA (pv 5) (zAA (pv 2) zAD)))) zE7 91) (zAE (pAp (pv 3) (zAZ (zAA (pv 6) (zAA (pv 4) zAD)):PE _ _ _))) zAN)))))
  (zAE (zAU (pv 3))))),?_⟩
 refine⟨94,λ fl hfl=>?_⟩;have k1:=zAC (o:=.lst []) hfl;refine⟨_,rfl,u,v,rfl,ru.mono k1.tk,hz,λ l2 us2 H2 k2 e2 p2=>⟨l2,rfl,⟨us2,SqL.of e2⟩,?_⟩⟩;have lps:us2.length=u.size:=by rw[zAG p2,zBQ]
 have nl2:l2≠fl:=λ z=>by
  rw[z,k2 _ _ zAB] at e2;cases e2;have:=zA3 u;rw[List.length_nil] at lps
  lia
 refine zBR (xs:=us2) (λ i σ' H'=>E5 λ(ss:List V) (s4 s5 s6 s7:Option V)=>A7 (σ'=[some (.ref l),some v,some .non,some (.ref fl),s4,s5,s6,s7]) (Same H H') (Tk H2 H') (H' l2=some (.lst us2)) (H' fl=some (.lst ss)) (Paired (StV H') (((psub [] u).take i).flatMap λ x=>(hitR R 0 x.2).map λ k=>(k,x.1)) ss) (ss.length<=3 * i)) ?_ ?_ ?_ ?_
 ·exact⟨[],none,none,none,none,rfl,k1.trans k2,.refl _,e2,k2 _ _ zAB,by simpa using .nil,by simp⟩
 ·rintro i σ' H' _ ⟨ss,s4,s5,s6,s7,rfl,g,k,el2,ef,ps,ls⟩
  exact SqL.of el2
 ·rintro i x σ' H' hx ⟨ss,s4,s5,s6,s7,rfl,g,k,el2,ef,ps,ls⟩
  obtain⟨⟨pl,p⟩,hp,y,⟨b,c,rfl,hb,hc⟩,rp⟩:=zAP p2 hx;dsimp only at hb hc rp;have hi:i<us2.length:=(lK.mp hx).1;have hpm:p∈u.subs:=by rw[←zBu u []];exact mE.mpr ⟨(pl,p),lN hp,rfl⟩
  have hpz:p.size<=300:=mI (zFn hpm) hz;refine⟨b,_,rfl,SqT.of (k _ _ hb),rfl,_,_,rfl,_,_,rfl,rfl,?_⟩;refine⟨_,rfl,l,rfl,⟨rs,SqL.of (g _ _ el)⟩,?_⟩;refine zJn (xs:=rs) (λ j σ' H3=>E3 λ(ss':List V) (s6 s7:Option V)=>A6 (σ'=[some (.ref l),some v,some .non,some (.ref fl),some (.ref c),some y,s6,s7]) (Same H H3) (Tk H' H3) (H3 l2=some (.lst us2)) (H3 fl=some (.lst (ss++ss'))) (Paired (StV H3) ((hitR (R.take j) 0 p).map λ k=>(k,pl)) ss')) ?_ ?_ ?_ ?_
  ·exact⟨[],s6,s7,rfl,g,.refl _,el2,by rw[nP];exact ef,by simpa[hitR] using .nil⟩
  ·rintro j σ3 H3 _ ⟨ss',s6,s7,rfl,g3,k3,el3,ef3,ps3⟩
   exact SqL.of (g3 _ _ el)
  ·rintro j z T σ3 H3 hz3 ⟨ss',s6,s7,rfl,g3,k3,el3,ef3,ps3⟩ hT
   obtain⟨r,hr0,hru⟩:=zAP pR hz3;have hj:j<R.length:=(lK.mp hr0).1;have g4:=zAC (o:=.tup [.int j,z]) hT;have gB:=g3.trans g4;obtain⟨a,ka,lv,rv,kds,rfl,h1,h2,h3,h4,h5,h6,h7,h8⟩:=hru.same gB
   have ls':ss'.length<=j:=by
    have:=zDh (R.take j) 0 p;rw[zAG ps3,lE];rw[mN] at this
    lia
   refine⟨T,_,rfl,SqT.of zAB,rfl,_,_,rfl,_,_,rfl,rfl,?_⟩;refine⟨_,rfl,_,rfl,_,rfl,a,ka,lv,rv,y,r.1,p,kds,rfl,h1,h2,h3,h4,h5,h6,rp.mono (k.trans (k3.trans g4.tk)),⟨h7,λ x hx=>hng x (zIX hpm hx),hpz⟩,λ hf d H5 g5=>?_,λ hf H5 g5=>?_⟩
   ·rw[←h8] at hf
    refine⟨rfl,_,rfl,iteT ?_⟩;have g45:=g4.trans g5;have ef5:=g45 _ _ ef3;refine⟨_,rfl,.inl ⟨rfl,_,SqL.of ef5⟩,_,rfl,_,rfl,(by show 2<=sizeLine;decide),λ t ht=>?_⟩;have g6:=zAC (o:=.tup [.int j,.ref c]) ht;have g46:=g45.trans g6;have ef6:=g46 _ _ ef3;refine⟨fl,_,_,rfl,rfl,ef6,zAR (by rw[mK];lia),?_⟩;have tkz:Tk _ _:=Tk.lst (o:=.lst (ss++ss'++[.ref t])) ef6;refine⟨ss'++[.ref t],_,_,rfl,zAb (g3.trans g46) hfl,k3.trans (g46.tk.trans tkz),by rw[zAd nl2];exact g46 _ _ el3,by rw[zAB,mX],?_⟩;rw[zDg p hr0,zJk hf,mP];exact zAK (Paired.mapP ps3 λ Ω Ω z=>z.mono (g46.tk.trans tkz)) (.cons ⟨t,c,rfl,tkz _ _ (by simpa using zAB),tkz _ _ (g46.tk _ _ (k3 _ _ (k _ _ hc)))⟩ .nil)
   ·rw[←h8] at hf
    refine⟨rfl,_,rfl,iteF ?_⟩;have g45:=g4.trans g5;refine⟨ss',_,_,rfl,g3.trans g45,k3.trans g45.tk,g45 _ _ el3,g45 _ _ ef3,?_⟩;rw[zDg p hr0,zLK hf,nP];exact Paired.mapP ps3 λ Ω Ω z=>z.mono g45.tk
  ·rintro σ3 H3 ⟨ss',s6,s7,rfl,g3,k3,el3,ef3,ps3⟩
   rw[mU (by rw[zAG pR];exact lS _)] at ps3
   have ls3:ss'.length<=3:=by
    have:=zDh R 0 p;rw[zAG ps3,lE]
    lia
   refine⟨ss++ss',_,_,_,_,rfl,g3,k.trans k3,el3,ef3,?_,by rw[mK];lia⟩;rw[zAY hp,nJ];exact zAK (Paired.mapP ps λ Ω Ω z=>z.mono k3) (by simpa using ps3)
 ·rintro σ' H' ⟨ss,s4,s5,s6,s7,rfl,g,k,el2,ef,ps,ls⟩
  rw[mU (by rw[zAG p2];exact lS _)] at ps;exact⟨_,rfl,q fl ss H' hfl g ef ps⟩
abbrev zCR:Stmt:=top 38
theorem zEo:zAW ["_law_script", "_law_k"] ["_law_script", "_law_k"] (zAM zCR):=scI
abbrev zDH:Stmt:=top 39
theorem zAl:zAW ["_law_cell", "_law_many", "_law_letters", "_law_long", "_law_at", "_law_found", "_law_k", "_law_word", "_law_j", "_law_number"] ["_law_cell", "_law_many"] (zAM zDH):=scI
abbrev zCQ:Stmt:=top 52
theorem zC2:zAW ["_law_found", "_law_sign"] ["_law_found"] (zAM zCQ):=scI
def zEx (K:W.Frag):Sp:=λ vs H Q Ω=>E3 λ(a:Addr) (ns:List Int) (k:Int)=>A4 (vs=[.ref a,.int k]) (SqL K H a (ns.map V.int)) (0<=k) (Q (.int (ns.getD k.toNat 0)) H)
theorem zH8 (F:Fun K "_law_cell_at" "_law_cell_at" zCR f fd) (z_len:mg "len" = none):FnOk P w K mg base CX0 (k+1) f fd ["_law_script", "_law_k"] (zEx K):=by
 refine F.ok zEo 75 66
 ·obtain⟨a,ns,k,rfl,_⟩:=h
  rfl
 obtain⟨a,ns,k,rfl,hS,h0,q⟩:=h
 refine⟨_,(zAF (ps_if (zAJ op_lt (pv 1) (cL z_len (zAA (pv 0) zAD)) 91) (zAE (zAU (pe_ix (r:=rIxL K) zAc (pv 0) (pv 1) 76))) zAN)
  (zAE (zAU zAH))),?_⟩
 refine⟨_,rfl,_,rfl,a,_,rfl,.inl hS,_,_,rfl,rfl,_,rfl,?_⟩;refine ite2 77 77
 ·have c':k<((ns.map V.int).length:Int):=lU c
  rw[lE] at c';have hl:k.toNat<ns.length:=by lia
  have e:((k.toNat:Nat):Int)=k:=by lia
  have at_:=zAS (xs:=ns.map V.int) (j:=k.toNat) (v:=.int ns[k.toNat]) (by simp[hl]);rw[e] at at_;refine⟨_,rfl,_,rfl,a,_,k,_,rfl,rfl,hS,at_,?_⟩;have e2:ns.getD k.toNat 0=ns[k.toNat]:=by rw[List.getD_eq_getElem?_getD,nN hl,Option.getD_some]
  rw[←e2];exact q
 ·have c':¬k<((ns.map V.int).length:Int):=λ z=>c (lW z)
  rw[lE] at c'
  have e2:ns.getD k.toNat 0=0:=by
   rw[List.getD_eq_getElem?_getD,List.getElem?_eq_none 61];rfl
  rw[e2] at q;exact q
def zHG:Sp:=λ vs H Q Ω=>E2 λ(c:Int) (mw:Nat)=>A3 (vs=[.int c,.int (mw:Int)]) (mw<=3) (∀(l:Addr) (H':Hp) (ws:List Str),Same H H'->H' l=some (.lst (ws.map V.str))->ws.length=mw->(∀x∈ws,GW x)->Q (.ref l) H')
theorem zKS (F:Fun K "_law_words" "_law_words" zDH f fd) (z_range:mg "range" = none):FnOk P w K mg base CX0 (k+1) f fd ["_law_cell", "_law_many"] zHG:=by
 refine F.ok zAl 75 66
 ·obtain⟨c,mw,rfl,_⟩:=h
  rfl
 obtain⟨c,mw,rfl,hmw,q⟩:=h
 refine⟨_,(zAF (pS (i:=2) zAl.nd zAe)
  (zAF (pS (i:=3) zAl.nd (pe_op zBm zAH (pe_op zA9 (pv 0) zAH)))
  (zAF (pS (i:=4) zAl.nd (pe_op zA9 (pe_op zB5 (pv 0) zAH) (pv 3)))
  (zAF (pS (i:=5) zAl.nd (zA8 zAD:PE _ _ _))
  (zAF (zAr PassesOwn.never rfl (zBl 102 z_range (zAA (pv 1) zAD)) (pGn (i:=6) zAl.nd) (zAF (pS (i:=7) zAl.nd zAe)
  (zAF (zAr PassesOwn.never rfl (zBl 102 z_range (zAA (pv 3) zAD)) (pGn (i:=8) zAl.nd) (zAF (pS (i:=9) zAl.nd (pe_op zBm (pe_op zB5 (pv 0) (pe_op zD6 (pe_op zD6 zAH (pe_op zBm (pv 8) zAH)) (pe_op zBm (pv 8) zAH))) (pe_op zD6 (pv 8) (pv 8))))
  (zAF (ps_if (zAJ op_eq (pv 8) (pv 4) 91) (zAE (pS (i:=9) zAl.nd (pe_op zBm (pv 9) (pe_op zD6 zAH (pv 6))))) zAN)
  (zAE (pS (i:=7) zAl.nd (pe_op zFA (pv 7) (pe_ix zMu (pv 2) (pe_op zA9 (pv 9) zAH) 76)))))))
  (zAF (ps_if (zAJ (r:=rIn K false) zCH (pv 7) (zER [.str "let", .str "in", .str "if", .str "then", .str "else", .str "say", .str "ask", .str "stop", .str "where", .str "quiet", .str "number"] 102:PE _ _ _) rfl) (zAE (pS (i:=7) zAl.nd (pe_op zFA (pv 7) zAe))) zAN)
  (zAE (pAp (pv 5) (pv 7)))))))
  (zAE (zAU (pv 5)))))))),?_⟩
 generalize hL:Str.ofString "abcdefghijklmnopqrstuvwxyz" = L;have hLlen:L.length=26:=by rw[←hL];right
 have hLab:∀c∈L.cps.toList,97<=c/\c<=122:=by rw[←hL];right
 have n0:=nY c (show (8:Int)≠0 by decide);have n1:=nZ c (show (0:Int)<8 by decide);refine⟨_,rfl,_,_,rfl,rfl,(show (0:Int)<8 by decide),_,_,rfl,rfl,?_⟩;refine⟨_,rfl,_,_,rfl,rfl,⟨(show (0:Int)<8 by decide),(show (8:Int)<1073741824 by decide)⟩,_,rfl,_,_,rfl,rfl,(show (0:Int)<1+c % 8 by lia),?_⟩;dsimp only;generalize c / 8 % (1+c % 8)=at_;generalize hN:1+c % 8=N;have N1:1<=N:=by lia
 have N8:N<=8:=by lia
 refine⟨94,λ lw hlw=>?_⟩;refine⟨_,rfl,(mw:Int),rfl,by lia,by lia,?_⟩;refine zBo (n:=((mw:Nat):Int).toNat) (λ i σ' H'=>E5 λ(ws:List Str) (s6 s7 s8 s9:Option V)=>A5 (σ'=[some (.int c),some (.int (mw:Int)),some (.str L),some (.int N),some (.int at_),some (.ref lw),s6,s7,s8,s9]) (Same H H') (H' lw=some (.lst (ws.map V.str))) (ws.length=i) (∀x∈ws,GW x)) ⟨[],none,none,none,none,rfl,zAC hlw,zAB,rfl,(λ x hx=>nomatch hx)⟩ ?_ ?_
 ·rintro i σ1 H1 hi ⟨ws,s6,s7,s8,s9,rfl,g1,ew,l1,gw1⟩
  have hi3q:i<mw:=by simpa using hi
  have hi3:i<3:=by lia
  refine⟨_,rfl,N,rfl,by lia,by lia,?_⟩;refine zBo (n:=N.toNat) (λ j σ' H'=>E3 λ(x:Str) (s8 s9:Option V)=>A4 (σ'=[some (.int c),some (.int (mw:Int)),some (.str L),some (.int N),some (.int at_),some (.ref lw),some (.int (0+(i:Int))),some (.str x),s8,s9]) (H'=H1) (x.length=j) (∀c∈x.cps.toList,97<=c/\c<=122)) ⟨_,s8,s9,rfl,rfl,by right,by right⟩ ?_ ?_
  ·rintro j σ2 H2 hj ⟨x,s8,s9,rfl,rfl,hx,hab⟩
   have hj8:j<8:=by lia
   obtain⟨dv1,dv2⟩:=zMz j hj8;have s64:(-(2 ^ 64):Int)<64/\(64:Int)<2 ^ 64:=⟨by decide,by decide⟩;refine⟨_,rfl,_,rfl,_,_,rfl,rfl,_,_,rfl,rfl,.inl s64,_,rfl,_,_,rfl,rfl,_,_,rfl,rfl,.inr ⟨by lia,by lia⟩,_,_,rfl,rfl,⟨dv1,dv2⟩,_,rfl,_,rfl,_,_,rfl,rfl,.inl ⟨by lia,by lia⟩,_,_,rfl,rfl,?_⟩;refine⟨_,rfl,_,rfl,rfl,_,rfl,?_⟩;refine ite2 (λ Ω=>?_) (λ Ω=>?_)
   ·refine⟨_,rfl,_,rfl,_,_,rfl,rfl,.inl ⟨by decide,by decide⟩,_,_,rfl,rfl,?_⟩
    obtain⟨cc,ec,eab⟩:=zGE hLlen hLab (c / (64 * (0+(j:Int)+1) * (0+(j:Int)+2))+(0+(j:Int)) * (0+(j:Int))+5 * (0+(i:Int)));refine⟨_,rfl,_,rfl,_,rfl,_,_,rfl,rfl,(show (0:Int)<26 by decide),L,_,_,rfl,rfl,zAf (by rw[hLlen];decide),ec,_,_,rfl,rfl,zAf (by show x.length+1<=1000;lia),_,_,_,rfl,rfl,?_,zHz hab eab⟩;rw[zJP];show x.length+1=j+1
    lia
   ·obtain⟨cc,ec,eab⟩:=zGE hLlen hLab (c / (64 * (0+(j:Int)+1) * (0+(j:Int)+2))+(0+(j:Int)) * (0+(j:Int)))
    refine⟨_,rfl,_,rfl,_,rfl,_,_,rfl,rfl,(show (0:Int)<26 by decide),L,_,_,rfl,rfl,zAf (by rw[hLlen];decide),ec,_,_,rfl,rfl,zAf (by show x.length+1<=1000;lia),_,_,_,rfl,rfl,?_,zHz hab eab⟩;rw[zJP];show x.length+1=j+1
    lia
  ·rintro σ2 H2 ⟨x,s8,s9,rfl,rfl,hx,hab⟩
   refine⟨_,rfl,(by show 11<=sizeLine;decide),λ p hp=>⟨p,_,rfl,.inr (SqT.of zAB),rfl,rfl,_,rfl,?_⟩⟩;have g2:=zAC (o:=.tup [.str "let", .str "in", .str "if", .str "then", .str "else", .str "say", .str "ask", .str "stop", .str "where", .str "quiet", .str "number"]) hp;have gA:=g1.trans g2;have ew2:=g2 _ _ ew;generalize upd H2 p _=H3 at gA ew2 ⊢
   have add:∀y,GW y->∀z∈ws++[y],GW z:=λ y hy z hz=>by
    rcases lM.mp hz with h|h
    ·exact gw1 z h
    ·rw[mQ.mp h];exact hy
   refine ite2 (λ hin=>?_) (λ hno=>?_)
   ·refine⟨_,rfl,_,_,rfl,rfl,zAf (by show x.length+1<=1000;lia),?_⟩
    refine⟨_,rfl,.inl ⟨rfl,_,SqL.of ew2⟩,_,rfl,lw,_,_,rfl,rfl,ew2,zAR (by rw[lE];lia),?_⟩;refine⟨ws++[x++Str.ofString "z"],_,_,_,_,rfl,zAb gA hlw,?_,by simp[l1],add _ (zMt x (zL3 hin))⟩;rw[zAB,mP];rfl
   ·refine⟨_,rfl,.inl ⟨rfl,_,SqL.of ew2⟩,_,rfl,lw,_,_,rfl,rfl,ew2,zAR (by rw[lE];lia),?_⟩
    refine⟨ws++[x],_,_,_,_,rfl,zAb gA hlw,?_,by simp[l1],add _ ⟨by lia,by lia,λ z=>hno ?_,hab⟩⟩
    rotate_left
    ·show inV (.str x) (keptS.map V.str)=true
     rw[zFY];exact lW z
    rw[zAB,mP];rfl
 ·rintro σ1 H1 ⟨ws,s6,s7,s8,s9,rfl,g1,ew,l1,gw1⟩
  exact⟨_,rfl,q lw H1 ws g1 ew (by rw[l1];simp) gw1⟩
def zEK:Sp:=λ vs H Q Ω=>∃(x:Str),A3 (vs=[.str x]) (GW x) (∀H',Same H H'->Q (.bl true) H')
theorem zI8 (F:Fun K "_law_is_word" "_law_is_word" zCQ f fd) (z_isinstance:mg "isinstance" = none) (z_str:mg "str" = none) (z_len:mg "len" = none):FnOk P w K mg base CX0 (k+1) f fd ["_law_found"] zEK:=by
 refine F.ok zC2 75 66
 ·obtain⟨x,rfl,_⟩:=h
  rfl
 obtain⟨x,rfl,gx,q⟩:=h
 refine⟨_,(zAF (ps_if (pw_or (zBO (zA7 (cI z_isinstance z_str rM (pv 0)))) (pw_or (zAJ op_lt (zBL zD8 102 z_len PySem.boot_len (zAA (pv 0) zAD)) zAH 91) (zCF (zAJ op_gt (zBL zD8 102 z_len PySem.boot_len (zAA (pv 0) zAD)) zAH 91)))).pt (zAE (zAU pe_bl)) zAN)
  (zAF (zAr PassesOwn.never rfl (zMZ (pv 0)) (pGn (i:=1) zC2.nd) (zAE (ps_if (zAJ zF6 (pv 1) zAe rfl) (zAE (zAU pe_bl)) zAN)))
  (zAE (zAU (zAx (r:=rIn K true) zCm (pv 0) (zER [.str "let", .str "in", .str "if", .str "then", .str "else", .str "say", .str "ask", .str "stop", .str "where", .str "quiet", .str "number"] 102:PE _ _ _) rfl))))),?_⟩
 have lx:=gx.lo;have hx:=gx.hi;refine⟨_,rfl,.str x, "str", _,true,rfl,.str x,rfl,_,rfl,iteF ?_⟩;refine⟨_,rfl,x,rfl,zAf 61,_,_,rfl,rfl,_,rfl,ite2 77 (λ Ω=>?_)⟩
 ·have:(x.length:Int)<1:=lU c
  lia
 refine⟨_,rfl,x,rfl,zAf 61,_,_,rfl,rfl,_,rfl,ite2 77 (λ Ω=>?_)⟩
 ·have:(8:Int)<(x.length:Int):=lU c
  lia
 refine⟨_,rfl,x,rfl,?_⟩;refine zL8 (x:=x) (λ i σ' H'=>∃s1:Option V,σ'=[some (.str x),s1]/\H'=H) ⟨none,rfl,rfl⟩ ?_ ?_
 ·rintro i c σ' H' hc ⟨s1,rfl,rfl⟩
  have hcm:=gx.ab c (by
   have:=lN (l:=x.cps.toList) (i:=i) (a:=c) (by rw[nH];exact hc);exact this)
  refine⟨_,rfl,_,_,rfl,rfl,_,rfl,?_⟩;rw[zMH c hcm.1 hcm.2];exact iteF ⟨_,rfl,rfl⟩
 ·rintro σ' H' ⟨s1,rfl,rfl⟩
  refine⟨_,rfl,(by show 11<=sizeLine;decide),λ p hp=>⟨p,keptS.map V.str,rfl,.inr (SqT.of zAB),rfl,rfl,?_⟩⟩
  have:inV (.str x) (keptS.map V.str)=false:=by
   cases h:inV (.str x) (keptS.map V.str) with
   |false=>rfl
   |true=>rw[zFY] at h;exact absurd (lU h) gx.kp
  rw[this];exact q _ (zAC hp)
abbrev zDL:Stmt:=top 40
theorem zFw:zAW ["_law_tree_here"] ["_law_tree_here"] (zAM zDL):=scI
abbrev zCu:Stmt:=top 42
theorem zDE:zAW ["_law_shape_here", "_law_found", "_law_part"] ["_law_shape_here"] (zAM zCu):=scI
abbrev zBs:Stmt:=top 43
theorem zC3:zAW ["_law_shape_here", "_law_part"] ["_law_shape_here"] (zAM zBs):=scI
abbrev zCO:Stmt:=top 41
theorem zBH:zAW ["_law_tree_here", "_law_scale", "_law_worths", "_law_some", "_law_row", "_law_found", "_law_k"] ["_law_tree_here", "_law_scale", "_law_worths"] (zAM zCO):=scI
theorem zI5 (F:Fun K "_law_parts" "_law_parts" zDL f fd):FnOk P w K mg base CX0 (k+1) f fd ["_law_tree_here"] zA0:=by
 refine F.ok zFw 75 66
 ·obtain⟨t,v,rfl,_⟩:=h
  rfl
 obtain⟨t,v,rfl,hR,q⟩:=h
 refine⟨_,(zAF (ps_if (zAJ (r:=rIn K false) zCH 67 (zER [.str "num", .str "name", .str "ask", .str "stop", .str "gap"] 102:PE _ _ _) rfl) (zAE (zAU (zAZ zAD:PE _ _ _))) zAN)
  (zAF (ps_if (zAJ op_eq 67 zAe 91) (zAE (zAU (zA1 zGk (pv 0) (zAs zAH) zB4))) zAN)
  (zAE (zAU (zA1 zGk (pv 0) (zAs zAH) zB4))))),?_⟩
 have hR0:=hR;obtain⟨a,hs,us,rfl,ha,hl,hp⟩:=hR.all;have h0:atI (V.str t.kd.s::hs++us) 0=some (.str t.kd.s):=zAS (j:=0) rfl;refine⟨_,rfl,a,_,0,_,rfl,rfl,SqT.of ha,h0,(by show 5<=sizeLine;decide),λ pl hpl=>⟨pl,zCE,rfl,.inr (SqT.of zAB),rfl,rfl,_,rfl,?_⟩⟩;have g1:=zAC (o:=.tup zCE) hpl;have ha1:=g1 _ _ ha;have hR1:=hR0.mono g1.tk;show if inV (.str t.kd.s) zCE=true then _ else _
 rw[zEG];show if t.kd.leaf=true then tRet _ _ _ (upd H pl (.tup zCE)) else tNext _ _ (upd H pl (.tup zCE))
 generalize upd H pl _=H1 at g1 ha1 hR1 ⊢;refine ite2 77 77
 ·refine⟨94,λ p hp=>q p _ [] (g1.trans (zAC hp)) zAB ?_⟩
  have e:t.parts=[]:=by
   cases t with
   |bin o a b=>cases o<;>cases c
   |_=>first|rfl|cases c
  rw[e];exact .nil
 ·refine⟨_,rfl,a,_,0,_,rfl,rfl,SqT.of ha1,h0,rfl,_,rfl,?_⟩
  refine ite2 (λ d=>?_) (λ d=>?_)
  ·have z:t.kd = .lett:=Kd.eq_iff.mp (lU d)
   obtain⟨x,s,b,rfl⟩:=kdS (k:=.lett) z;obtain⟨a',u,w',e,ha',r1,r2⟩:=hR1;cases e;refine⟨_,rfl,2,rfl,a,_,rfl,ha',λ z=>absurd z.1 (show ¬(2:Nat)=0 by decide),λ p H' g e=>?_⟩;exact q p H' [u,w'] (g1.trans g) e (.cons (r1.mono g.tk) (.cons (r2.mono g.tk) .nil))
  ·cases t with
   |say s =>
    obtain⟨a',u,e,ha',r1⟩:=hR1;cases e;refine⟨_,rfl,1,rfl,a,_,rfl,ha',λ z=>absurd z.1 (show ¬(1:Nat)=0 by decide),λ p H' g e=>?_⟩;exact q p H' [u] (g1.trans g) e (.cons (r1.mono g.tk) .nil)
   |bin o s b =>
    obtain⟨a',u,w',e,ha',r1,r2⟩:=hR1;cases e;refine⟨_,rfl,1,rfl,a,_,rfl,ha',λ z=>absurd z.1 (show ¬(1:Nat)=0 by decide),λ p H' g e=>?_⟩;exact q p H' [u,w'] (g1.trans g) e (.cons (r1.mono g.tk) (.cons (r2.mono g.tk) .nil))
   |ite c s b =>
    obtain⟨a',u,w',z',e,ha',r1,r2,r3⟩:=hR1;cases e;refine⟨_,rfl,1,rfl,a,_,rfl,ha',λ z=>absurd z.1 (show ¬(1:Nat)=0 by decide),λ p H' g e=>?_⟩;exact q p H' [u,w',z'] (g1.trans g) e (.cons (r1.mono g.tk) (.cons (r2.mono g.tk) (.cons (r3.mono g.tk) .nil)))
   |lett x s b=>exact absurd rfl d
   |num n=>exact absurd rfl c
   |name n=>exact absurd rfl c
   |ask n=>exact absurd rfl c
   |stop n=>exact absurd rfl c
   |gap n as=>exact absurd rfl c
def zDB (n:Nat):Sp:=λ vs H Q Ω=>E2 λ(t:Tr) (v:V)=>A5 (vs=[v]) (t.size<=n) (t.size<=122) (Rep H t v) (∀(d:Addr) (kvs:List (Key × V)) (H':Hp),Same H H'->H d=none->H' d=some (.dK kvs)->GD t.gps kvs->kvs.length<=t.size->Q (.ref d) H')
theorem zLz (F:Fun K "_law_gaps" "_law_gaps" zCu f fd) (z_len:mg "len" = none) (zNM:FnB P w K mg base k "_law_parts" g1 gd1 ["_law_tree_here"] zA0)
  (zNN:FnB P w K mg base k "_law_gaps" f fd ["_law_shape_here"] (zDB n)):FnOk P w K mg base CX0 (k+1) f fd ["_law_shape_here"] (zDB (n+1)):=by
 refine F.ok zDE 75 66
 ·obtain⟨t,v,rfl,_⟩:=h
  rfl
 obtain⟨t,v,rfl,hn,h122,hR,q⟩:=h;have hu:=hu_of hr
 refine⟨_,(zAF (pS (i:=1) zDE.nd zCx)
  (zAF (ps_if (zAJ op_eq 67 zAe 91) (zAE (zGq hu (pv 1) 67 (cL z_len (zAA 67 zAD)) rfl)) zAN)
  (zAF (zAr PassesOwn.never rfl (zE4 (pe_cl zNM hr (zAA (pv 0) zAD))) (pGn (i:=2) zDE.nd) (zAE (zDq (pe_bm rP PySem.F.slot_dict_update PySem.F.type_dict_update zIA (pv 1) (zAA (pe_cl zNN hr (zAA (pv 2) zAD)) zAD)))))
  (zAE (zAU (pv 1)))))),?_⟩
 refine λ d0 hd0=>?_;have g0:=zAC (o:=.dK []) hd0;have ed0:=@zAB H d0 (.dK []);have hR0:=hR.mono g0.tk;show tSeq _ _ _ _ (upd H d0 (.dK []));generalize upd H d0 _=H0 at g0 ed0 hR0 ⊢;have hR00:=hR0;obtain⟨pa,hs,us',rfl,hpa,hhl,hparts⟩:=hR0.all;have at0:atI (V.str t.kd.s::hs++us') 0=some (.str t.kd.s):=zAS (j:=0) rfl;apply viaP (λ H1=>∃(kvs:List (Key × V)),A5 (Same H H1) (Tk H0 H1) (H1 d0=some (.dK kvs)) (GD (ownS t) kvs) (kvs.length<=1))
 ·intro rest
  refine⟨_,rfl,pa,_,0,_,rfl,rfl,SqT.of hpa,at0,rfl,_,rfl,ite2 77 (λ c=>rest H0 ⟨[],g0,.refl _,ed0,?_,mB _⟩)⟩
  ·have z:t.kd = .gap:=Kd.eq_iff.mp (lU c)
   obtain⟨x,as,rfl⟩:=kdS (k:=.gap) z;obtain⟨a',b',us2,e,ha',hb',hl2,_⟩:=hR00;cases e;have at1:atI [V.str "gap", .str x,.ref b'] 1=some (.str x):=zAS (j:=1) rfl;have at2:atI [V.str "gap", .str x,.ref b'] 2=some (.ref b'):=zAS (j:=2) rfl;refine⟨_,rfl,pa,_,2,_,rfl,rfl,SqT.of ha',at2,b',us2,rfl,.inr (SqT.of hb'),_,rfl,_,rfl,pa,_,1,_,rfl,rfl,SqT.of ha',at1,d0,_,rfl,DPut.k (k:=Sum.inr x) ed0 (zAR 69),?_⟩;refine rest _ ⟨_,zAb g0 hd0,Tk.dk ed0,zAB,GD.nil.put x _,?_⟩;exact zCa [] (Sum.inr x:Key) _
  ·have z:¬t.kd = .gap:=λ z=>c (lW (by rw[z];rfl))
   cases t with
   |gap x as=>exact absurd rfl z
   |_=>exact GD.nil
 rintro H1 ⟨kvs,g1,tk1,ed1,gd1',le1⟩;refine⟨_,rfl,t,_,rfl,hR00.mono tk1,λ pp H2 us g2 ep hus=>⟨pp,rfl,⟨us,SqT.of ep⟩,?_⟩⟩;have lus:us.length=t.parts.length:=zAG hus;refine zFa (xs:=us) (λ i σ' H'=>E2 λ(kvs:List (Key × V)) (s2:Option V)=>A6 (σ'=[some (.ref pa),some (.ref d0),s2]) (Same H H') (Tk H2 H') (H' d0=some (.dK kvs)) (GD (ownS t++(t.parts.take i).flatMap Tr.gps) kvs) (kvs.length<=1+((t.parts.take i).map Tr.size).sum)) ?_ ?_ ?_ ?_
 ·exact⟨kvs,none,rfl,g1.trans g2,.refl _,g2 _ _ ed1,by simpa using gd1',by simpa using le1⟩
 ·rintro i σ1 H3 _ ⟨kvs,s2,rfl,g3,tk3,ed3,gd3,le3⟩
  exact SqT.of (tk3 _ _ ep)
 ·rintro i x σ1 H3 hx ⟨kvs,s2,rfl,g3,tk3,ed3,gd3,le3⟩
  obtain⟨ti,eti,rti⟩:=zAP hus hx;have hsz:=zAv (lN eti)
  have hsum:((t.parts.take (i+1)).map Tr.size).sum=((t.parts.take i).map Tr.size).sum+ti.size:=by
   rw[zAY eti,mP,List.sum_append];simp
  have hall:((t.parts.take (i+1)).map Tr.size).sum<=(t.parts.map Tr.size).sum:=by
   have e:(t.parts.map Tr.size).sum=((t.parts.take (i+1)).map Tr.size).sum+((t.parts.drop (i+1)).map Tr.size).sum:=by rw[←List.sum_append,←mP,List.take_append_drop]
   lia
  have hps:=zBy t;refine⟨_,rfl,.inr (.inr (.inl ⟨rfl,.inl ⟨kvs,ed3⟩⟩)),_,rfl,ti,x,rfl,by lia,by lia,rti.mono tk3,λ d' kvs' H5 g5 hd' ed' gd' le'=>?_⟩;have hne:d0≠d':=λ z=>by rw[←z,ed3] at hd';cases hd'
  refine⟨d0,d',kvs,kvs',rfl,rfl,hne,g5 _ _ ed3,ed',zAf 61,?_⟩;refine⟨zAt kvs kvs',_,rfl,zAb (g3.trans g5) hd0,tk3.trans (g5.tk.trans (Tk.dk (g5 _ _ ed3))),zAB,?_,?_⟩
  ·refine(gd'.merge gd3).congr λ g=>?_
   rw[zAY eti,nJ];simp[or_assoc]
  ·have:=zBY kvs' kvs
   lia
 ·rintro σ1 H3 ⟨kvs,s2,rfl,g3,tk3,ed3,gd3,le3⟩
  rw[mU 61] at gd3 le3;have hps:=zBy t;exact⟨_,rfl,q d0 kvs H3 g3 hd0 ed3 (gd3.congr (zJm t)) 61⟩
theorem zJF {k:Nat}{f:Addr}{fd:FuncData}:FnOk P w K mg base CX0 k f fd ["_law_shape_here"] (zDB 0):=by
 have no:∀vs H Q E,¬zDB 0 vs H Q E:=λ vs H Q E h=>by
  obtain⟨t,v,_,hn,_⟩:=h;have:=zA3 t
  lia
 exact⟨λ vs H Q E h=>absurd h (no vs H Q E),λ A outer s H args us vs Q E Ω Ω Ω Ω h=>absurd h (no vs H Q E)⟩
theorem zHy (F:Fun K "_law_gaps" "_law_gaps" zCu f fd) (b:Binds K fd ["_law_shape_here"] []) (m:mg "_law_gaps" = some (.ref f)) (z_len:mg "len" = none)
  (G:FnB P w K mg base k "_law_parts" g1 gd1 ["_law_tree_here"] zA0):∀n:Nat,FnB P w K mg base (k+n) "_law_gaps" f fd ["_law_shape_here"] (zDB n)
 |0=>⟨zJF,b,F.kp,m⟩
 |n+1=>⟨zLz F z_len (G.up (Nat.le_add_right _ _)) (zHy F b m z_len G n),b,F.kp,m⟩
def zC9 (n:Nat):Sp:=λ vs H Q Ω=>E2 λ(t:Tr) (v:V)=>A4 (vs=[v]) (t.size<=n) (Rep H t v) (∀(b:Bool) (H':Hp),Same H H'->(b=true↔Ld t)->Q (.bl b) H')
theorem zLv (F:Fun K "_law_is_loud" "_law_is_loud" zBs f fd) (zNM:FnB P w K mg base k "_law_parts" g1 gd1 ["_law_tree_here"] zA0)
  (zNO:FnB P w K mg base k "_law_is_loud" f fd ["_law_shape_here"] (zC9 n)):FnOk P w K mg base CX0 (k+1) f fd ["_law_shape_here"] (zC9 (n+1)):=by
 refine F.ok zC3 75 66
 ·obtain⟨t,v,rfl,_⟩:=h
  rfl
 obtain⟨t,v,rfl,hn,hR,q⟩:=h
 refine⟨_,(zAF (ps_if (zAJ (r:=rIn K false) zCH 67 (zER [.str "say", .str "ask", .str "stop"] 102:PE _ _ _) rfl) (zAE (zAU pe_bl)) zAN)
  (zAF (zAr PassesOwn.never rfl (zE4 (pe_cl zNM hr (zAA (pv 0) zAD))) (pGn (i:=1) zC3.nd) (zAE (ps_if (zA7 (pe_cl zNO hr (zAA (pv 1) zAD))) (zAE (zAU pe_bl)) zAN)))
  (zAE (zAU pe_bl)))),?_⟩
 have hR00:=hR;obtain⟨pa,hs,us',rfl,hpa,hhl,hparts⟩:=hR.all;have at0:atI (V.str t.kd.s::hs++us') 0=some (.str t.kd.s):=zAS (j:=0) rfl;refine⟨_,rfl,pa,_,0,_,rfl,rfl,SqT.of hpa,at0,(by show 3<=sizeLine;decide),λ pl hpl=>⟨pl,loudV,rfl,.inr (SqT.of zAB),rfl,rfl,_,rfl,?_⟩⟩;have g1:=zAC (o:=.tup loudV) hpl;show if inV (.str t.kd.s) loudV=true then _ else _
 rw[zJj];refine ite2 77 77
 ·exact q true _ g1 ⟨λ Ω=>(ld_eq t).mpr (.inl c),λ Ω=>rfl⟩
 refine⟨_,rfl,t,_,rfl,hR00.mono g1.tk,λ pp H2 us g2 ep hus=>⟨pp,rfl,⟨us,SqT.of ep⟩,?_⟩⟩;have lus:us.length=t.parts.length:=zAG hus;refine zFa (xs:=us) (λ i σ' H'=>∃(s1:Option V),A4 (σ'=[some (.ref pa),s1]) (Same H H') (Same H2 H') (∀p∈t.parts.take i,¬Ld p)) ?_ ?_ ?_ ?_
 ·exact⟨none,rfl,g1.trans g2,.refl _,(λ p hp=>nomatch hp)⟩
 ·rintro i σ1 H3 _ ⟨s1,rfl,g3,g4,_⟩
  exact SqT.of (g4 _ _ ep)
 ·rintro i x σ1 H3 hx ⟨s1,rfl,g3,g4,hno⟩
  obtain⟨ti,eti,rti⟩:=zAP hus hx;have hsz:=zAv (lN eti);refine⟨_,rfl,ti,x,rfl,by lia,rti.mono g4.tk,λ b H5 g5 hb=>⟨b,rfl,ite2 (λ z=>?_) (λ z=>?_)⟩⟩
  ·exact q true _ (g3.trans g5) ⟨λ Ω=>(ld_eq t).mpr (.inr ⟨ti,lN eti,hb.mp z⟩),λ Ω=>rfl⟩
  ·refine⟨_,rfl,g3.trans g5,g4.trans g5,λ p hp=>?_⟩
   rw[zAY eti] at hp;rcases lM.mp hp with h|h
   ·exact hno p h
   ·rw[mQ.mp h]
    exact λ y=>z (hb.mpr y)
 ·rintro σ1 H3 ⟨s1,rfl,g3,g4,hno⟩
  rw[lus,mO] at hno;refine q false _ g3 ⟨87,λ z=>?_⟩
  rcases (ld_eq t).mp z with h|⟨p,hp,h⟩
  ·exact absurd h c
  ·exact absurd h (hno p hp)
theorem zJD {k:Nat}{f:Addr}{fd:FuncData}:FnOk P w K mg base CX0 k f fd ["_law_shape_here"] (zC9 0):=by
 have no:∀vs H Q E,¬zC9 0 vs H Q E:=λ vs H Q E h=>by
  obtain⟨t,v,_,hn,_⟩:=h;have:=zA3 t
  lia
 exact⟨λ vs H Q E h=>absurd h (no vs H Q E),λ A outer s H args us vs Q E Ω Ω Ω Ω h=>absurd h (no vs H Q E)⟩
theorem zHw (F:Fun K "_law_is_loud" "_law_is_loud" zBs f fd) (b:Binds K fd ["_law_shape_here"] []) (m:mg "_law_is_loud" = some (.ref f))
  (G:FnB P w K mg base k "_law_parts" g1 gd1 ["_law_tree_here"] zA0):∀n:Nat,FnB P w K mg base (k+n) "_law_is_loud" f fd ["_law_shape_here"] (zC9 n)
 |0=>⟨zJD,b,F.kp,m⟩
 |n+1=>⟨zLv F (G.up (Nat.le_add_right _ _)) (zHw F b m G n),b,F.kp,m⟩
noncomputable def onesV:List V:=[.int 1,.int 1,.int 1,.int 1]
def zCC (n:Nat):Sp:=λ vs H Q Ω=>E5 λ(t:Tr) (v:V) (d e:Addr) (we:List (Key × V))=>A8 (vs=[v,.ref d,.ref e]) (t.size<=n) (t.size<=122) (Rep H t v) (H d=some (.dK [])) (H e=some (.dK we)) (∀g,∃m:Nat,(valV we (Sum.inr g:Key)).getD (.int 1) = .int (m:Int)/\m<=2) (∀(m:Nat) (H':Hp),Same H H'->m<=2 * t.size->Q (.int (m:Int)) H')
theorem zI3 (F:Fun K "_law_worth" "_law_worth" zCO f fd) (z_len:mg "len" = none) (z_range:mg "range" = none) (zNM:FnB P w K mg base k "_law_parts" g1 gd1 ["_law_tree_here"] zA0)
  (zNP:FnB P w K mg base k "_law_worth" f fd ["_law_tree_here", "_law_scale", "_law_worths"] (zCC n)):FnOk P w K mg base CX0 (k+1) f fd ["_law_tree_here", "_law_scale", "_law_worths"] (zCC (n+1)):=by
 refine F.ok zBH 75 66
 ·obtain⟨t,v,d,e,we,rfl,_⟩:=h
  rfl
 obtain⟨t,v,d,e,we,rfl,hn,h122,hR,hd,he,hwe,q⟩:=h;have hu:=hu_of hr;have hu0:=nB (hu_of hr)
 refine⟨_,(zAF (ps_if (zAJ op_eq 67 zAe 91) (zAE (zAU (zKQ hu (pv 2) 67 zAH ⟨rfl,rfl,rfl,rfl⟩))) zAN)
  (zAF (pS (i:=3) zBH.nd (pe_cl zNM hr (zAA (pv 0) zAD)))
  (zAF (ps_if (zAJ (zLE hu0) (pv 3) (zAZ zAD:PE _ _ _) 91) (zAE (zAU zAH)) zAN)
  (zAF (pS (i:=4) zBH.nd (zER [.int 1,.int 1,.int 1,.int 1] 102:PE _ _ _))
  (zAF (ps_if (zAJ (zIx hu) 67 (pv 1) rfl) (zAE (pS (i:=4) zBH.nd (zET hu (pv 1) 67 76))) zAN)
  (zAF (pS (i:=5) zBH.nd (iC (r:=rIxT K) zAL (pv 4)))
  (zAF (zAr PassesOwn.never rfl (zBl 102 z_range (zAA (cL z_len (zAA (pv 3) zAD)) zAD)) (pGn (i:=6) zBH.nd) (zAE (pS (i:=5) zBH.nd (pe_op zBm (pv 5) (pe_op zD6 (pe_ix (r:=rIxT K) zAL (pv 4) (pe_op zBm (pv 6) zAH) 76) (pe_cl zNP hr (zAA (pe_ix (r:=rIxT K) zAL (pv 3) (pv 6) 76) (zAA (pv 1) (zAA (pv 2) zAD)))))))))
  (zAE (zAU (pv 5)))))))))),?_⟩
 have hR0:=hR;have hpos:=zA3 t;obtain⟨a,hs,us',rfl,ha,hl,hp⟩:=hR.all;have h0:atI (V.str t.kd.s::hs++us') 0=some (.str t.kd.s):=zAS (j:=0) rfl;refine⟨_,rfl,a,_,0,_,rfl,rfl,SqT.of ha,h0,rfl,_,rfl,ite2 77 77⟩
 ·have z:t.kd = .gap:=Kd.eq_iff.mp (lU c)
  obtain⟨x,as,rfl⟩:=kdS (k:=.gap) z;obtain⟨a',b',us2,e',ha',_⟩:=hR0;cases e';have at1:atI [V.str "gap", .str x,.ref b'] 1=some (.str x):=zAS (j:=1) rfl;refine⟨_,rfl,e,rfl,.inl ⟨we,.inl he⟩,_,rfl,a,_,1,_,rfl,rfl,SqT.of ha',at1,_,.inl ⟨we,Sum.inr x,.inl he,rfl,rfl⟩,?_⟩;obtain⟨m,em,hm⟩:=hwe x;rw[em];exact q m H (.refl _) 61
 refine⟨_,rfl,t,_,rfl,hR0,λ pp H1 us g1 ep hus=>?_⟩;have lus:us.length=t.parts.length:=zAG hus;refine⟨_,rfl,94,λ pe hpe=>⟨pp,pe,us,rfl,rfl,zAC hpe _ _ ep,zAB,_,rfl,ite2 77 77⟩⟩
 ·exact q 1 _ (g1.trans (zAC hpe)) 61
 have g2:=zAC (o:=.tup []) hpe;refine⟨(by show 4<=sizeLine;decide),λ po hpo=>?_⟩;have g3:=zAC (o:=.tup onesV) hpo;have gQ:=g1.trans (g2.trans g3);have eo:=@zAB (upd H1 pe (.tup [])) po (.tup onesV);have epQ:=g3 _ _ (g2 _ _ ep);have husQ:Paired (Rep (upd (upd H1 pe (.tup [])) po (.tup onesV))) t.parts us:=Paired.mapP hus λ Ω Ω z=>z.mono (g2.trans g3).tk;have haQ:=gQ _ _ ha;show tSeq _ _ _ _ (upd (upd H1 pe (.tup [])) po (.tup onesV));generalize upd (upd H1 pe _) po _=HQ at gQ eo epQ husQ haQ ⊢;refine⟨_,rfl,a,_,0,_,rfl,rfl,SqT.of haQ,h0,_,rfl,d,_,rfl,.inl ⟨[],Sum.inr t.kd.s,.inl (gQ _ _ hd),rfl,rfl⟩,_,rfl,iteF ?_⟩;have hp3:=zF5 t;have hps:=zBy t;refine⟨_,rfl,po,_,0,_,rfl,rfl,SqT.of eo,zAS (j:=0) rfl,?_⟩;refine⟨_,rfl,pp,_,rfl,.inr (SqT.of epQ),(us.length:Int),rfl,by lia,by lia,?_⟩;refine zBo (n:=((us.length:Nat):Int).toNat) (λ i σ' H2=>E2 λ(m:Nat) (s5:Option V)=>A3 (σ'=[some (.ref a),some (.ref d),some (.ref e),some (.ref pp),some (.ref po),some (.int (m:Int)),s5]) (Same HQ H2) (m<=1+2 * ((t.parts.take i).map Tr.size).sum)) ?_ ?_ ?_
 ·exact⟨1,none,rfl,.refl _,by simp⟩
 ·rintro i σ1 H5 hi ⟨m,s5,rfl,g5,hm⟩
  have hi':i<us.length:=by simpa using hi
  obtain⟨ui,eui⟩:∃ui,us[i]?=some ui:=⟨_,lY hi'⟩;obtain⟨ti,eti,rti⟩:=zAP husQ eui;have hsz:=zAv (lN eti);have i0:(0:Int)+(i:Int)=((i:Nat):Int):=by lia
  have i1:(0:Int)+(i:Int)+1=((i+1:Nat):Int):=by lia
  have atk:atI onesV (0+(i:Int)+1)=some (.int 1):=by
   rw[i1];refine zAS (j:=i+1) ?_;have:i=0\/i=1\/i=2:=by lia
   rcases this with rfl|rfl|rfl<;>rfl
  have atu:atI us (0+(i:Int))=some ui:=by rw[i0];exact zAS eui
  have hsum:((t.parts.take (i+1)).map Tr.size).sum=((t.parts.take i).map Tr.size).sum+ti.size:=by
   rw[zAY eti,mP,List.sum_append];simp
  refine⟨_,rfl,_,rfl,_,rfl,_,_,rfl,rfl,po,_,_,_,rfl,rfl,SqT.of (g5 _ _ eo),atk,_,rfl,_,rfl,pp,_,_,_,rfl,rfl,SqT.of (g5 _ _ epQ),atu,_,rfl,_,rfl,ti,ui,d,e,we,rfl,by lia,by lia,rti.mono g5.tk,g5 _ _ (gQ _ _ hd),g5 _ _ (gQ _ _ he),hwe,λ m2 H6 g6 hm2=>?_⟩;refine⟨_,_,rfl,rfl,.inl ⟨by decide,by decide⟩,_,_,rfl,rfl,m+m2,some (.int (0+(i:Int))),?_,g5.trans g6,by rw[hsum];lia⟩;rw[show (m:Int)+1 * (m2:Int)=((m+m2:Nat):Int) by lia];rfl
 ·rintro σ1 H5 ⟨m,s5,rfl,g5,hm⟩
  have hall:((t.parts.take us.length).map Tr.size).sum=(t.parts.map Tr.size).sum:=by rw[lus,mO]
  rw[show ((us.length:Nat):Int).toNat=us.length from Int.toNat_natCast _,hall] at hm;exact⟨_,rfl,q m H5 (gQ.trans g5) 61⟩
theorem zGt {k:Nat}{f:Addr}{fd:FuncData}:FnOk P w K mg base CX0 k f fd ["_law_tree_here", "_law_scale", "_law_worths"] (zCC 0):=by
 have no:∀vs H Q E,¬zCC 0 vs H Q E:=λ vs H Q E h=>by
  obtain⟨t,v,d,e,we,_,hn,_⟩:=h;have:=zA3 t
  lia
 exact⟨λ vs H Q E h=>absurd h (no vs H Q E),λ A outer s H args us vs Q E Ω Ω Ω Ω h=>absurd h (no vs H Q E)⟩
theorem zFH (F:Fun K "_law_worth" "_law_worth" zCO f fd) (b:Binds K fd ["_law_tree_here", "_law_scale", "_law_worths"] []) (m:mg "_law_worth" = some (.ref f)) (z_len:mg "len" = none) (z_range:mg "range" = none)
  (G:FnB P w K mg base k "_law_parts" g1 gd1 ["_law_tree_here"] zA0):∀n:Nat,FnB P w K mg base (k+n) "_law_worth" f fd ["_law_tree_here", "_law_scale", "_law_worths"] (zCC n)
 |0=>⟨zGt,b,F.kp,m⟩
 |n+1=>⟨zI3 F z_len z_range (G.up (Nat.le_add_right _ _)) (zFH F b m z_len z_range G n),b,F.kp,m⟩
abbrev zDI:Stmt:=top 44
theorem zA5:zAW ["_law_cells", "_law_leaves", "_law_loud", "_law_stack", "_law_cell", "_law_way", "_law_number"] ["_law_cells", "_law_leaves", "_law_loud"] (zAM zDI):=scI
def zHJ (K:W.Frag):Sp:=λ vs H Q Ω=>E7 λ(a b:Addr) (lo:Bool) (cs:List Int) (us:List V) (lv:List Tr) (S:List Str)=>A10 (vs=[.ref a,.ref b,.bl lo]) (SqL K H a (cs.map V.int)) (cs.length<=20) (H b=some (.lst us)) (Paired (Rep H) lv us) (1<=lv.length) (lv.length<=100) (∀t∈lv,t.size=1) (GS S lv) (∀(t:Tr) (v:V) (H':Hp),Same H H'->Rep H' t v->t.size<=2 * cs.length+1->(∀g∈t.odd,g∈S)->Q v H')
def Ws (H0:Hp) (S:List Str) (n:Nat) (av bv lv:V) (m:Nat) (σ:L2.St) (H:Hp):Prop:=∃(r:Addr) (us:List V) (ts:List Tr) (s4 s5 s6:Option V),σ=[some av,some bv,some lv,some (.ref r),s4,s5,s6]/\Same H0 H/\H r=some (.lst us)/\Paired (Rep H) ts us/\ts.length=m/\szT ts+ts.length<=2 * n/\GS S ts
set_option pp.all false in
theorem zKV (F:Fun K "_law_shape" "_law_shape" zDI f fd) (z_len:mg "len" = none):FnOk P w K mg base CX0 (k+1) f fd ["_law_cells", "_law_leaves", "_law_loud"] (zHJ K):=by
 refine F.ok zA5 75 66
 ·obtain⟨a,b,lo,cs,us,lv,S,rfl,_⟩:=h
  rfl
 obtain⟨a,b,lo,cs,lus,lv,S,rfl,hS,hcs,hb,pl,hl1,hl2,hlf,hgs,q⟩:=h;have hu0:=nB (hu_of hr)
 refine⟨_,(Sd.un (zAI (pSS (i:=3) zA5.nd (zDQ ⟨zAD⟩))
  (zAI ⟨zAr PassesOwn.never rfl (zBD (pv 0)) (pGn (i:=4) zA5.nd) (zAF (pS (i:=5) zA5.nd (pe_op zA9 (pv 4) zAH))
  (zAF (pS (i:=6) zA5.nd (pe_op zB5 (pv 4) zAH))
  (zAE (ps_if (zB3 (zAJ op_eq (pv 5) zAH 91) (zB3 (zCW (pv 2) (λ Ω=>rfl)) (zBa (zAJ (zIw hu0) (pv 3) (zA8 zAD:PE _ _ _) 91)))).pt (zAE (zMW (zAZ (zAA zAe (zAA (pe_ix (r:=rIxL K) zAc (pv 3) (pe_un zBX zAH) 76) zAD)):PE _ _ _) (zMa (pv 3) (pe_un zBX zAH) zKG))) (zAE (ps_if (zB3 (zAJ op_eq (pv 5) zAH 91) (zBa (zAJ op_gt (cL z_len (zAA (pv 3) zAD)) zAH 91))).pt (zAE (pS (i:=3) zA5.nd (pe_op zDb (zA1 (r:=rSlL K) zBZ (pv 3) zB4 (zAs (pe_un zBX zAH))) (zA8 (zAA (zAZ (zAA zAe (zAA (pe_ix (r:=rIxL K) zAc (pv 3) (pe_un zBX zAH) 76) (zAA (pe_ix (r:=rIxL K) zAc (pv 3) (pe_un zBX zAH) 76) (zAA (pe_ix (r:=rIxL K) zAc (pv 3) (pe_un zBX zAH) 76) zAD)))):PE _ _ _) zAD):PE _ _ _)))) (zAE (ps_if (zB3 (zAJ (r:=rIn K false) zCH (pv 5) (zAZ (zAA zAH (zAA zAH zAD)):PE _ _ _) rfl) (zBa (zAJ op_gt (cL z_len (zAA (pv 3) zAD)) zAH 91))).pt (zAE (pS (i:=3) zA5.nd (pe_op zDb (zA1 (r:=rSlL K) zBZ (pv 3) zB4 (zAs (pe_un zBX zAH))) (zA8 (zAA (zAZ (zAA (pe_ix (r:=rIxL K) zAc (zES [.str "add", .str "sub", .str "mul", .str "then"] 102:PE _ _ _) (pe_op zA9 (pv 6) zAH) 76) (zAA (pe_ix (r:=rIxL K) zAc (pv 3) (pe_un zBX zAH) 76) (zAA (pe_ix (r:=rIxL K) zAc (pv 3) (pe_un zBX zAH) 76) zAD))):PE _ _ _) zAD):PE _ _ _)))) (zAE (ps_if (zAJ op_eq (pe_op zA9 (pv 6) (pe_op zBm (cL z_len (zAA (pv 1) zAD)) zAH)) (cL z_len (zAA (pv 1) zAD)) 91) (zAE (pAp (pv 3) (zAZ (zAA zAe (zAA (pe_op zA9 (pe_op zB5 (pv 6) (pe_op zBm (cL z_len (zAA (pv 1) zAD)) zAH)) (pe_op zLD zAH zAH)) zAD)):PE _ _ _))) (zAE (pAp (pv 3) (pe_ix (r:=rIxL K) zAc (pv 1) (pe_op zA9 (pv 6) (pe_op zBm (cL z_len (zAA (pv 1) zAD)) zAH)) 76)))))))))))))⟩
  (zAI ⟨zCY PassesOwn.never (zAJ op_gt (cL z_len (zAA (pv 3) zAD)) zAH 91) (zAE (pS (i:=3) zA5.nd (pe_op zDb (zA1 (r:=rSlL K) zBZ (pv 3) zB4 (zAs (pe_un zBX zAH))) (zA8 (zAA (zAZ (zAA zAe (zAA (pe_ix (r:=rIxL K) zAc (pv 3) (pe_un zBX zAH) 76) (zAA (pe_ix (r:=rIxL K) zAc (pv 3) (pe_un zBX zAH) 76) zAD))):PE _ _ _) zAD):PE _ _ _))))⟩
  (zAI (zBM ⟨zAJ (zIy hu0) (pv 3) (zA8 zAD:PE _ _ _) 91⟩ (zAi (zAn (zC6 (r:=rIxL K) zAc ⟨pv 1⟩ ⟨zAH⟩ 76))) ⟨zAN⟩)
  (zAi (zAn (zC6 (r:=rIxL K) zAc ⟨pv 3⟩ ⟨zAH⟩ 76)))))))),?_⟩
 have d1:1<=sizeLine:=by decide
 have d2:2<=sizeLine:=by decide
 have d3:3<=sizeLine:=by decide
 have d4:4<=sizeLine:=by decide
 have llu:lus.length=lv.length:=zAG pl;refine⟨94,λ r0 hr0=>?_⟩;have g0:=zAC (o:=.lst []) hr0;refine⟨_,rfl,a,rfl,⟨_,g0.seq hS⟩,?_⟩;refine zBR (xs:=cs.map V.int) (λ i σ' H'=>E6 λ(r:Addr) (us:List V) (ts:List Tr) (s4 s5 s6:Option V)=>A7 (σ'=[some (.ref a),some (.ref b),some (.bl lo),some (.ref r),s4,s5,s6]) (Same H H') (H r=none) (H' r=some (.lst us)) (Paired (Rep H') ts us) (szT ts<=i) (GS S ts)) ?_ ?_ ?_ ?_
 ·exact⟨r0,[],[],none,none,none,rfl,g0,hr0,zAB,.nil,lS _,λ t ht=>by cases ht⟩
 ·rintro i σ1 H1 _ ⟨r,us,ts,s4,s5,s6,rfl,g1,_⟩
  exact g1.seq hS
 ·rintro i x σ1 H1 hx ⟨r,us,ts,s4,s5,s6,rfl,g1,hrn,er,pr,sz,gs⟩
  rw[mJ] at hx;obtain⟨c,hc,rfl⟩:=lX.mp hx;have hi:i<cs.length:=(lK.mp hc).1;have lu:us.length=ts.length:=zAG pr;have lt:=zB8 ts;refine⟨_,rfl,_,_,rfl,rfl,(show (0:Int)<8 by decide),?_⟩;refine⟨_,rfl,_,_,rfl,rfl,⟨(show (0:Int)<8 by decide),(show (8:Int)<1073741824 by decide)⟩,?_⟩;dsimp only;generalize c % 8=way;generalize c / 8=num;apply via (H1:=H1)
  ·intro rest
   refine⟨_,rfl,rfl,_,rfl,ite2 (λ Ω=>⟨_,rfl,_,rfl,ite2 (λ Ω=>?_) (λ Ω=>iteF (rest H1 (.refl _)))⟩) (λ Ω=>iteF (rest H1 (.refl _)))⟩;refine⟨_,rfl,94,λ pe hpe=>⟨r,pe,us,rfl,rfl,zAC hpe _ _ er,zAB,_,rfl,ite2 (λ c3=>?_) (λ Ω=>rest _ (zAC hpe))⟩⟩
   have hne:0<us.length:=by
    rcases Nat.eq_zero_or_pos us.length with h|h
    ·rw[h] at c3;simp at c3
    ·exact h
   obtain⟨ts0,us0,t,u,rfl,rfl,p0,rt⟩:=zBE pr hne;have g2:=zAC (o:=.lst []) hpe;have at1:atI (us0++[u]) (-1)=some u:=zHv _ _;refine⟨_,rfl,_,rfl,r,_,_,_,rfl,rfl,SqL.of (g2 _ _ er),at1,d2,λ pt hpt=>?_⟩;have g3:=zAC (o:=.tup [.str "say", u]) hpt;have er3:=g3 _ _ (g2 _ _ er);refine⟨_,rfl,_,rfl,r,_,_,us0.length,rfl,rfl,er3,zKk us0 u,?_⟩;have es:(us0++[u]).set us0.length (.ref pt)=us0++[.ref pt]:=by simp
   rw[es];have tk:Tk H1 _:=(g2.trans g3).tk.trans (Tk.lst (o:=.lst (us0++[.ref pt])) er3);refine⟨r,us0++[.ref pt],ts0++[.say t],_,_,_,rfl,zAb (g1.trans (g2.trans g3)) hrn,hrn,zAB,zAK (Paired.mapP p0 λ Ω Ω z=>z.mono tk) (.cons (show Rep _ (.say t) (.ref pt) from⟨pt,u,rfl,(Tk.lst (o:=.lst (us0++[.ref pt])) er3) _ _ zAB,rt.mono tk⟩) .nil),?_,gs.left.app (.one ?_)⟩
   ·rw[zA2,zAh,zBS] at sz ⊢
    show szT ts0+(t.size+1+0)<=i+1
    lia
   ·exact gs.right t (mQ.mpr rfl)
  intro H2 g2;apply via (H1:=H2)
  ·intro rest
   refine⟨_,rfl,rfl,_,rfl,ite2 (λ Ω=>?_) (λ Ω=>iteF (rest H2 (.refl _)))⟩;refine⟨_,rfl,r,_,rfl,.inl (SqL.of (g2 _ _ er)),_,_,rfl,rfl,_,rfl,ite2 (λ c3=>?_) (λ Ω=>rest H2 (.refl _))⟩;have c3':(2:Int)<(us.length:Int):=lU c3;obtain⟨ts1,us1,t3,u3,rfl,rfl,p1,r3⟩:=zBE pr 61;obtain⟨ts2,us2,t2,u2,rfl,rfl,p2,r2⟩:=zBE p1 (by simp at c3';lia);obtain⟨ts3,us3,t1,u1,rfl,rfl,p3,r1⟩:=zBE p2 (by simp at c3';lia);have eu:us3++[u1]++[u2]++[u3]=us3++[u1,u2,u3]:=by simp
   have et:ts3++[t1]++[t2]++[t3]=ts3++[t1,t2,t3]:=by simp
   rw[eu] at er lu;rw[et] at gs sz lt lu;have a1:atI (us3++[u1,u2,u3]) (-1)=some u3:=zCb us3 [u1,u2,u3] (n:=1) (j:=0) 69 68 rfl;have a2:atI (us3++[u1,u2,u3]) (-2)=some u2:=zCb us3 [u1,u2,u3] (n:=2) (j:=0) 69 68 rfl;have a3:atI (us3++[u1,u2,u3]) (-3)=some u1:=zCb us3 [u1,u2,u3] (n:=3) (j:=0) 69 68 rfl;have cb:cutV (us3++[u1,u2,u3]) none (some (-3))=us3:=zFe us3 [u1,u2,u3] 3 69 rfl;refine⟨_,rfl,_,rfl,_,rfl,r,_,rfl,SqL.of (g2 _ _ er),λ ps hps=>?_⟩;rw[cb];have g3:=zAC (o:=.lst us3) hps;have e3:=@zAB H2 ps (.lst us3);have er3:=g3 _ _ (g2 _ _ er);generalize upd H2 ps _=H3 at g3 e3 er3 ⊢;refine⟨_,rfl,_,rfl,r,_,_,_,rfl,rfl,SqL.of er3,a3,_,rfl,_,rfl,r,_,_,_,rfl,rfl,SqL.of er3,a2,_,rfl,_,rfl,r,_,_,_,rfl,rfl,SqL.of er3,a1,d4,λ pt hpt=>⟨d1,λ pb hpb=>?_⟩⟩;have g4:=zAC (o:=.tup [.str "if", u1,u2,u3]) hpt;have g5:=zAC (o:=.lst [.ref pt]) hpb;refine⟨ps,pb,us3,[.ref pt],rfl,rfl,g5 _ _ (g4 _ _ e3),zAB,zAf (by have h9:=lt;have h8:=zAG p3;rw[mK] at h9;simp;lia),λ px hpx=>?_⟩;have g6:=zAC (o:=.lst (us3++[.ref pt])) hpx;have G:=g2.trans (g3.trans (g4.trans (g5.trans g6)));refine⟨px,us3++[.ref pt],ts3++[.ite t1 t2 t3],_,_,_,rfl,g1.trans G,(g1.trans (g2.trans (g3.trans (g4.trans g5)))).free hpx,zAB,zAK (Paired.mapP p3 λ Ω Ω z=>z.mono G.tk) (.cons (show Rep _ (.ite t1 t2 t3) (.ref pt) from⟨pt,u1,u2,u3,rfl,g6 _ _ (g5 _ _ zAB),r1.mono G.tk,r2.mono G.tk,r3.mono G.tk⟩) .nil),?_,gs.left.app (.one λ g hg=>?_)⟩
   ·rw[zA2,zAh,zAh,zAh,zBS] at sz
    rw[zA2,zAh,zBS];show szT ts3+(t1.size+t2.size+t3.size+1+0)<=i+1
    lia
   ·rcases lM.mp hg with h|h
    ·exact gs.right t1 68 g h
    ·rcases lM.mp h with h|h
     ·exact gs.right t2 68 g h
     ·exact gs.right t3 68 g h
  intro H3 g3;have g13:=g2.trans g3;apply via (H1:=H3)
  ·intro rest
   refine⟨_,rfl,d2,λ pq hpq=>⟨pq,_,rfl,.inr (SqT.of zAB),rfl,rfl,_,rfl,ite2 (λ Ω=>?_) (λ Ω=>iteF (rest _ (zAC hpq)))⟩⟩;have g4:=g13.trans (zAC (o:=.tup [.int 4,.int 5]) hpq);refine⟨_,rfl,r,_,rfl,.inl (SqL.of (g4 _ _ er)),_,_,rfl,rfl,_,rfl,ite2 (λ c3=>?_) (λ Ω=>rest _ (zAC hpq))⟩;have c3':(1:Int)<(us.length:Int):=lU c3;obtain⟨ts1,us1,t2,u2,rfl,rfl,p1,r2⟩:=zBE pr 61;obtain⟨ts2,us2,t1,u1,rfl,rfl,p2,r1⟩:=zBE p1 (by simp at c3';lia);have eu:us2++[u1]++[u2]=us2++[u1,u2]:=by simp
   have et:ts2++[t1]++[t2]=ts2++[t1,t2]:=by simp
   rw[eu] at er lu;rw[et] at gs sz lt lu;have a1:atI (us2++[u1,u2]) (-1)=some u2:=zCb us2 [u1,u2] (n:=1) (j:=0) 69 68 rfl;have a2:atI (us2++[u1,u2]) (-2)=some u1:=zCb us2 [u1,u2] (n:=2) (j:=0) 69 68 rfl;have cb:cutV (us2++[u1,u2]) none (some (-2))=us2:=zFe us2 [u1,u2] 2 69 rfl;obtain⟨o,eo⟩:=zMD num;have er4:=g4 _ _ er;generalize upd H3 pq _=H4 at g4 er4 ⊢;refine⟨_,rfl,_,rfl,_,rfl,r,_,rfl,SqL.of er4,λ ps hps=>?_⟩;rw[cb];have g5:=zAC (o:=.lst us2) hps;have e5:=@zAB H4 ps (.lst us2);have er5:=g5 _ _ er4;generalize upd H4 ps _=H5 at g5 e5 er5 ⊢;refine⟨(by show 4<=sizeLine;decide),λ pw hpw=>?_⟩;have g6:=zAC (o:=.lst [.str "add", .str "sub", .str "mul", .str "then"]) hpw;have e6:=g6 _ _ e5;have er6:=g6 _ _ er5;have ew:=@zAB H5 pw (.lst [.str "add", .str "sub", .str "mul", .str "then"]);generalize upd H5 pw _=H6 at g6 e6 er6 ew ⊢;refine⟨_,rfl,_,_,rfl,rfl,(show (0:Int)<4 by decide),pw,_,_,_,rfl,rfl,SqL.of ew,eo,?_⟩;refine⟨_,rfl,_,rfl,r,_,_,_,rfl,rfl,SqL.of er6,a2,_,rfl,_,rfl,r,_,_,_,rfl,rfl,SqL.of er6,a1,d3,λ pt hpt=>⟨d1,λ pb hpb=>?_⟩⟩;have g7:=zAC (o:=.tup [.str o.s,u1,u2]) hpt;have g8:=zAC (o:=.lst [.ref pt]) hpb;refine⟨ps,pb,us2,[.ref pt],rfl,rfl,g8 _ _ (g7 _ _ e6),zAB,zAf (by have h9:=lt;have h8:=zAG p2;rw[mK] at h9;simp;lia),λ px hpx=>?_⟩;have g9:=zAC (o:=.lst (us2++[.ref pt])) hpx;have G8:=g4.trans (g5.trans (g6.trans (g7.trans g8)));have G:=G8.trans g9;refine⟨px,us2++[.ref pt],ts2++[.bin o t1 t2],_,_,_,rfl,g1.trans G,(g1.trans G8).free hpx,zAB,zAK (Paired.mapP p2 λ Ω Ω z=>z.mono G.tk) (.cons (show Rep _ (.bin o t1 t2) (.ref pt) from⟨pt,u1,u2,rfl,g9 _ _ (g8 _ _ zAB),r1.mono G.tk,r2.mono G.tk⟩) .nil),?_,gs.left.app (.one λ g hg=>?_)⟩
   ·rw[zA2,zAh,zAh,zBS] at sz
    rw[zA2,zAh,zBS];show szT ts2+(t1.size+t2.size+1+0)<=i+1
    lia
   ·rcases lM.mp hg with h|h
    ·exact gs.right t1 68 g h
    ·exact gs.right t2 68 g h
  intro H4 g4;have g14:=g13.trans g4;have hb4:H4 b=some (.lst lus):=(g1.trans g14) _ _ hb;have er4:=g14 _ _ er;have m0:=nY num (show ((lus.length:Int)+1)≠0 by lia);have m1:=nZ num (show (0:Int)<(lus.length:Int)+1 by lia);refine⟨_,rfl,_,rfl,b,_,rfl,.inl (SqL.of hb4),_,_,rfl,rfl,_,_,rfl,rfl,(show (0:Int)<(lus.length:Int)+1 by lia),_,rfl,b,_,rfl,.inl (SqL.of hb4),rfl,_,rfl,ite2 (λ c4=>?_) (λ c4=>?_)⟩
  ·refine⟨_,rfl,.inl ⟨rfl,_,SqL.of er4⟩,_,rfl,_,rfl,b,_,rfl,.inl (SqL.of hb4),_,_,rfl,rfl,_,_,rfl,rfl,⟨(show (0:Int)<(lus.length:Int)+1 by lia),(show (lus.length:Int)+1<1073741824 by lia)⟩,_,_,rfl,rfl,⟨by decide,by decide,by decide⟩,_,_,rfl,rfl,(show (0:Int)<10 ^ 30 by decide),d2,λ pt hpt=>?_⟩
   have g5:=zAC (o:=.tup [.str "num", .int (num / ((lus.length:Int)+1) % 10 ^ (30:Int).toNat)]) hpt;have er5:=g5 _ _ er4;have ep:=@zAB H4 pt (.tup [.str "num", .int (num / ((lus.length:Int)+1) % 10 ^ (30:Int).toNat)]);refine⟨r,us,.ref pt,rfl,rfl,er5,zAR 61,?_⟩;generalize upd H4 pt _=H5 at g5 er5 ep ⊢;have tk:Tk H5 (upd H5 r (.lst (us++[.ref pt]))):=Tk.lst er5;have tk1:Tk H1 (upd H5 r (.lst (us++[.ref pt]))):=(g14.trans g5).tk.trans tk;refine⟨r,us++[.ref pt],ts++[.num (num / ((lus.length:Int)+1) % 10 ^ (30:Int).toNat)],_,_,_,rfl,zAb (g1.trans (g14.trans g5)) hrn,hrn,zAB,zAK (Paired.mapP pr λ Ω Ω z=>z.mono tk1) (.cons (show Rep _ (.num _) (.ref pt) from⟨pt,rfl,tk _ _ ep⟩) .nil),?_,gs.app (.one λ g hg=>by cases hg)⟩;rw[zA2,zAh,zBS];show szT ts+(1+0)<=i+1
   lia
  ·have c4':¬num % ((lus.length:Int)+1)=(lus.length:Int):=λ z=>c4 (lW (by show V.int _=V.int _;rw[z]))
   obtain⟨kx,ekx⟩:∃kx:Nat,(kx:Int)=num % ((lus.length:Int)+1):=⟨(num % ((lus.length:Int)+1)).toNat,by lia⟩;have hkx:kx<lus.length:=by lia
   obtain⟨u,hu⟩:∃u,lus[kx]?=some u:=⟨_,lY hkx⟩;obtain⟨t,ht,rt⟩:=zAP pl hu;have hmem:=lN ht;have atk:atI lus (num % ((lus.length:Int)+1))=some u:=by rw[←ekx];exact zAS hu
   refine⟨_,rfl,.inl ⟨rfl,_,SqL.of er4⟩,_,rfl,_,rfl,_,rfl,b,_,rfl,.inl (SqL.of hb4),_,_,rfl,rfl,_,_,rfl,rfl,(show (0:Int)<(lus.length:Int)+1 by lia),b,_,_,_,rfl,rfl,SqL.of hb4,atk,?_⟩;refine⟨r,us,u,rfl,rfl,er4,zAR 61,?_⟩;have tk:Tk H4 (upd H4 r (.lst (us++[u]))):=Tk.lst er4;have tk1:Tk H1 (upd H4 r (.lst (us++[u]))):=g14.tk.trans tk;refine⟨r,us++[u],ts++[t],_,_,_,rfl,zAb (g1.trans g14) hrn,hrn,zAB,zAK (Paired.mapP pr λ Ω Ω z=>z.mono tk1) (.cons (rt.mono (g1.tk.trans tk1)) .nil),?_,gs.app (.one λ g hg=>hgs t hmem g hg)⟩;rw[zA2,zAh,zBS,hlf t hmem]
   lia
 rintro σ1 H1 ⟨r,us,ts,s4,s5,s6,rfl,g1,hrn,er,pr,sz,gs⟩;rw[lE] at sz;have lt:=zB8 ts;refine⟨Ws H S cs.length (.ref a) (.ref b) (.bl lo),⟨_,r,us,ts,_,_,_,rfl,g1,er,pr,rfl,by lia,gs⟩,?_⟩;clear pr er gs sz lt hrn g1;rintro m σ2 H2 ⟨r,us,ts,s4,s5,s6,rfl,g2,er,pr,lm,bd,gs⟩;have lu:us.length=ts.length:=zAG pr;have lt:=zB8 ts;refine⟨_,rfl,r,_,rfl,.inl (SqL.of er),_,_,rfl,rfl,_,rfl,ite2 (λ c1=>?_) (λ c1=>?_)⟩
 ·have c1':(1:Int)<(us.length:Int):=lU c1
  refine⟨λ σ' H'=>∃m',m'<m/\Ws H S cs.length (.ref a) (.ref b) (.bl lo) m' σ' H',λ σ' H' z=>z,?_⟩;obtain⟨ts1,us1,t2,u2,rfl,rfl,p1,r2⟩:=zBE pr 61;obtain⟨ts2,us2,t1,u1,rfl,rfl,p2,r1⟩:=zBE p1 (by simp at c1';lia);have eu:us2++[u1]++[u2]=us2++[u1,u2]:=by simp
  have et:ts2++[t1]++[t2]=ts2++[t1,t2]:=by simp
  rw[eu] at er lu;rw[et] at gs bd lt lu lm;have a1:atI (us2++[u1,u2]) (-1)=some u2:=zCb us2 [u1,u2] (n:=1) (j:=0) 69 68 rfl;have a2:atI (us2++[u1,u2]) (-2)=some u1:=zCb us2 [u1,u2] (n:=2) (j:=0) 69 68 rfl;have cb:cutV (us2++[u1,u2]) none (some (-2))=us2:=zFe us2 [u1,u2] 2 69 rfl;refine⟨_,rfl,_,rfl,_,rfl,r,_,rfl,SqL.of er,λ ps hps=>?_⟩;rw[cb];have g5:=zAC (o:=.lst us2) hps;have e5:=@zAB H2 ps (.lst us2);have er5:=g5 _ _ er;generalize upd H2 ps _=H5 at g5 e5 er5 ⊢;refine⟨_,rfl,_,rfl,r,_,_,_,rfl,rfl,SqL.of er5,a2,_,rfl,_,rfl,r,_,_,_,rfl,rfl,SqL.of er5,a1,d3,λ pt hpt=>⟨d1,λ pb hpb=>?_⟩⟩;have g7:=zAC (o:=.tup [.str "add", u1,u2]) hpt;have g8:=zAC (o:=.lst [.ref pt]) hpb;refine⟨ps,pb,us2,[.ref pt],rfl,rfl,g8 _ _ (g7 _ _ e5),zAB,zAf (by have h9:=lt;have h8:=zAG p2;rw[mK] at h9;simp;lia),λ px hpx=>?_⟩;have g9:=zAC (o:=.lst (us2++[.ref pt])) hpx;have G:=g5.trans (g7.trans (g8.trans g9));refine⟨ts2.length+1,by simp at lm;lia,px,us2++[.ref pt],ts2++[.bin .add t1 t2],_,_,_,rfl,g2.trans G,zAB,zAK (Paired.mapP p2 λ Ω Ω z=>z.mono G.tk) (.cons (show Rep _ (.bin .add t1 t2) (.ref pt) from⟨pt,u1,u2,rfl,g9 _ _ (g8 _ _ zAB),r1.mono G.tk,r2.mono G.tk⟩) .nil),by simp,?_,gs.left.app (.one λ g hg=>?_)⟩
  ·rw[zA2,zAh,zAh,zBS,mK] at bd
   rw[zA2,zAh,zBS,mK];simp only[mM,List.length_nil] at bd ⊢;show szT ts2+(t1.size+t2.size+1+0)+_<=_
   lia
  ·rcases lM.mp hg with h|h
   ·exact gs.right t1 68 g h
   ·exact gs.right t2 68 g h
 ·have c1':¬(1:Int)<(us.length:Int):=λ z=>c1 (lW z)
  refine⟨_,rfl,94,λ pe hpe=>⟨r,pe,us,rfl,rfl,zAC hpe _ _ er,zAB,_,rfl,ite2 (λ c3=>?_) (λ c3=>?_)⟩⟩
  ·have gp:=zAC (o:=.lst []) hpe
   obtain⟨u,hu⟩:∃u,lus[0]?=some u:=⟨_,lY 61⟩;obtain⟨t,ht,rt⟩:=zAP pl hu;have hmem:=lN ht;exact⟨_,rfl,b,_,0,u,rfl,rfl,SqL.of ((g2.trans gp) _ _ hb),zAS (j:=0) hu,q t u _ (g2.trans gp) (rt.mono (g2.trans gp).tk) (by rw[hlf t hmem];lia) λ g hg=>hgs t hmem g hg⟩
  ·have c3':us.length≠0:=λ z=>c3 (by rw[z];rfl)
   obtain⟨x,hx⟩:∃x,us[0]?=some x:=⟨_,lY 61⟩;obtain⟨tx,ex,rx⟩:=zAP pr hx;have hmem:=lN ex
   have sx:tx.size<=szT ts:=by
    match ts,ex with
    |t::r,ex =>
     have:t=tx:=mG ex;rw[zAh,this]
     lia
   have gp:=zAC (o:=.lst []) hpe;exact⟨_,rfl,r,_,0,x,rfl,rfl,SqL.of (gp _ _ er),zAS (j:=0) hx,q tx x _ (g2.trans gp) (rx.mono gp.tk) 61 λ g hg=>gs tx hmem g hg⟩
abbrev zDM:Stmt:=top 45
theorem zBk:zAW ["_law_there", "_law_cell", "_law_kinds_here", "_law_gap", "_law_kind_here"] ["_law_there", "_law_cell"] (zAM zDM):=scI
abbrev zDN:Stmt:=top 46
theorem zB6:zAW ["_law_rule", "_law_scale", "_law_spare", "_law_gap", "_law_more_here"] ["_law_rule", "_law_scale"] (zAM zDN):=scI
def zHO:Sp:=λ vs H Q Ω=>E4 λ(d:Addr) (c:Int) (S:List Str) (kvs:List (Key × V))=>A5 (vs=[.ref d,.int c]) (H d=some (.dK kvs)) (GD S kvs) (kvs.length<60) (∀(ka:Addr) (kds:List (Str × Str)) (H':Hp),Same H H'->KdsAt H' ka kds->(kds.map (·.1)).Nodup->kds.length<=kvs.length->(∀p∈kds,KdN p.2)->Q (.ref ka) H')
theorem zKa (F:Fun K "_law_kinds" "_law_kinds" zDM f fd) (z_sorted:mg "sorted" = none) (z_tuple:mg "tuple" = none):FnOk P w K mg base CX0 (k+1) f fd ["_law_there", "_law_cell"] zHO:=by
 refine F.ok zBk 75 66
 ·obtain⟨d,c,S,kvs,rfl,_⟩:=h
  rfl
 obtain⟨d,c,S,kvs,rfl,hd,gd,hlen,q⟩:=h;have hu:=hu_of hr
 refine⟨_,(zAF (pS (i:=2) zBk.nd (zA8 zAD:PE _ _ _))
  (zAF (zAr PassesOwn.never rfl (zBD (zBL (zCp rfl) 102 z_sorted PyProof.Rows.boot_sorted (zAA (pv 0) zAD))) (pGn (i:=3) zBk.nd) (zAF (pS (i:=4) zBk.nd (pe_op zA9 (pv 1) zAH))
  (zAF (pS (i:=1) zBk.nd (pe_op zB5 (pv 1) zAH))
  (zAF (ps_if (zAJ op_eq (pv 4) zAH 91) (zAE (pAp (pv 2) (zAZ (zAA (pv 3) (zAA zAe zAD)):PE _ _ _))) zAN)
  (zAE (ps_if (zB3 (zAJ op_eq (pv 4) zAH 91) (zBa (zAJ op_eq (zET hu (pv 0) (pv 3) 76) zAH 91))).pt (zAE (pAp (pv 2) (zAZ (zAA (pv 3) (zAA zAe zAD)):PE _ _ _))) zAN))))))
  (zAE (zAU (zBP zG2 102 z_tuple rH (zAA (pv 2) zAD)))))),?_⟩
 have d2:2<=sizeLine:=by decide
 obtain⟨ks,ek,ndk,lk,mk⟩:=gd.keys;refine⟨94,λ lo hlo=>?_⟩;have g1:=zAC (o:=.lst []) hlo;have elo:=@zAB H lo (.lst []);generalize upd H lo _=H1 at g1 elo ⊢;refine⟨_,rfl,d,kvs,ks,rfl,g1 _ _ hd,ek,by lia,λ l ss hl pm Ω=>?_⟩;have g2:=zAC (o:=.lst (ss.map V.str)) hl;have el:=@zAB H1 l (.lst (ss.map V.str));have elo2:=g2 _ _ elo;generalize upd H1 l _=H2 at g2 el elo2 ⊢;have nds:ss.Nodup:=pm.nodup_iff.mpr ndk;have lss:ss.length=ks.length:=pm.length_eq;have nll:l≠lo:=λ z=>by rw[z,elo] at hl;cases hl
 refine⟨l,rfl,⟨_,SqL.of el⟩,?_⟩;refine zBR (xs:=ss.map V.str) (λ i σ' H'=>E5 λ(c:Int) (ys:List V) (kds:List (Str × Str)) (s3 s4:Option V)=>A9 (σ'=[some (.ref d),some (.int c),some (.ref lo),s3,s4]) (Same H H') (H' l=some (.lst (ss.map V.str))) (H' lo=some (.lst ys)) (Paired (PrV H') ys (kdV kds)) (∀p∈kds,p.1∈ss.take i) ((kds.map (·.1)).Nodup) (kds.length<=i) (∀p∈kds,KdN p.2)) ?_ ?_ ?_ ?_
 ·exact⟨c,[],[],none,none,rfl,g1.trans g2,el,elo2,.nil,(λ p hp=>nomatch hp),List.nodup_nil,lS _,(λ p hp=>nomatch hp)⟩
 ·rintro i σ' H' _ ⟨c,ys,kds,s3,s4,rfl,g,el',_⟩
  exact SqL.of el'
 ·rintro i x σ' H' hx ⟨c,ys,kds,s3,s4,rfl,g,el',elo',pk,hin,nd,le,hkn⟩
  rw[mJ] at hx;obtain⟨y,hy,rfl⟩:=lX.mp hx;have hi:i<ss.length:=(lK.mp hy).1;have hnew:=zJG nds hy;have htk:=zAY hy;have lys:ys.length=kds.length:=by have:=Paired.length pk;rw[this];unfold kdV;simp
  have hin':∀p∈kds,p.1∈ss.take (i+1):=λ p hp=>by rw[htk];exact lM.mpr (.inl (hin p hp))
  have more:∀(H3:Hp) (kd:Str) (p:Addr),H3=H'->H3 p=none->∃H4,H4=upd (upd H3 p (.tup [.str y,.str kd])) lo (.lst (ys++[.ref p]))/\Same H H4/\H4 l=some (.lst (ss.map V.str))/\H4 lo=some (.lst (ys++[.ref p]))/\Paired (PrV H4) (ys++[.ref p]) (kdV (kds++[(y,kd)])) /\
    (∀p∈kds++[(y,kd)],p.1∈ss.take (i+1))/\((kds++[(y,kd)]).map (·.1)).Nodup/\(kds++[(y,kd)]).length<=i+1/\(upd H3 p (.tup [.str y,.str kd])) lo=some (.lst ys):=by
   rintro H3 kd p rfl hp;have k1:=zAC (o:=.tup [.str y,.str kd]) hp;have e1:=k1 _ _ elo';have tk:Tk (upd H3 p (.tup [.str y,.str kd])) (upd (upd H3 p (.tup [.str y,.str kd])) lo (.lst (ys++[.ref p]))):=Tk.lst e1;refine⟨_,rfl,zAb (g.trans k1) hlo,by rw[zAd nll];exact k1 _ _ el',zAB,?_,?_,?_,?_,e1⟩
   ·unfold kdV
    rw[mP];exact zDR (Paired.mapP pk λ Ω Ω z=>zCZ (k1.tk.trans tk) z) (.cons ⟨p,rfl,tk _ _ zAB⟩ .nil)
   ·intro p hp
    rcases lM.mp hp with h|h
    ·exact hin' p h
    ·rw[mQ.mp h,htk]
     exact lM.mpr (.inr (mQ.mpr rfl))
   ·rw[mP,List.nodup_append]
    refine⟨nd,by simp,λ a ha b hb e=>?_⟩;obtain⟨p,hp,rfl⟩:=mE.mp ha;simp at hb;have:=hin p hp;rw[show p.1=y from e.trans hb] at this;exact hnew this
   ·simp
    exact le
  refine⟨_,rfl,_,_,rfl,rfl,(show (0:Int)<3 by decide),?_⟩;refine⟨_,rfl,_,_,rfl,rfl,⟨(show (0:Int)<3 by decide),(show (3:Int)<1073741824 by decide)⟩,?_⟩;dsimp only;generalize c % 3=kk;generalize c / 3=cc;refine⟨_,rfl,rfl,_,rfl,ite2 (λ c1=>?_) (λ c1=>?_)⟩
  ·have hk1:kk=1:=V.int.inj (lU c1)
   refine⟨_,rfl,.inl ⟨rfl,_,SqL.of elo'⟩,_,rfl,d2,λ p hp=>?_⟩;obtain⟨H4,eH4,m1,m2,m3,m4,m5,m6,m7,m8⟩:=more H' "quiet" p rfl hp;refine⟨lo,ys,_,rfl,rfl,m8,zAR 61,?_⟩;rw[←eH4];refine⟨_,rfl,rfl,_,rfl,ite2 (λ c2=>?_) (λ Ω=>iteF ?_)⟩
   ·have hk2:kk=2:=V.int.inj (lU c2)
    lia
   ·exact⟨_,_,_,_,_,rfl,m1,m2,m3,m4,m5,m6,m7,λ p hp=>(lM.mp hp).elim (hkn p) λ z=>by rw[mQ.mp z];exact .inl rfl⟩
  ·refine⟨_,rfl,rfl,_,rfl,ite2 (λ c2=>?_) (λ Ω=>iteF ?_)⟩
   ·obtain⟨n,hn⟩:=gd.int ((mk y).mp (pm.mem_iff.mp (lN hy)))
    have gv:DGet H' d (.str y) (some (.int n)):=.inl ⟨kvs,Sum.inr y,.inl (g _ _ hd),rfl,hn.symm⟩;refine⟨_,rfl,_,rfl,d,_,rfl,gv,rfl,_,rfl,ite2 (λ c3=>?_) (λ Ω=>?_)⟩
    ·refine⟨_,rfl,.inl ⟨rfl,_,SqL.of elo'⟩,_,rfl,d2,λ p hp=>?_⟩
     obtain⟨H4,eH4,m1,m2,m3,m4,m5,m6,m7,m8⟩:=more H' "number" p rfl hp;refine⟨lo,ys,_,rfl,rfl,m8,zAR 61,?_⟩;rw[←eH4];exact⟨_,_,_,_,_,rfl,m1,m2,m3,m4,m5,m6,m7,λ p hp=>(lM.mp hp).elim (hkn p) λ z=>by rw[mQ.mp z];exact .inr rfl⟩
    ·exact⟨_,_,_,_,_,rfl,g,el',elo',pk,hin',nd,by lia,hkn⟩
   ·exact⟨_,_,_,_,_,rfl,g,el',elo',pk,hin',nd,by lia,hkn⟩
 ·rintro σ' H' ⟨c,ys,kds,s3,s4,rfl,g,el',elo',pk,hin,nd,le,hkn⟩
  rw[lE] at le;refine⟨_,rfl,lo,ys,rfl,SqL.of elo',λ ka o hka hdn=>?_⟩;have k1:=zAC (o:=.frz o (.tup ys)) hka;exact q ka kds _ (g.trans k1) ⟨o,ys,zAB,hdn,Paired.mapP pk λ Ω Ω z=>zCZ k1.tk z⟩ nd 61 hkn
def zC7 (H:Hp) (r:Addr) (t1 t2:Tr) (kds:List (Str × Str)):Prop:=∃(u1 u2:V) (ka:Addr),H r=some (.tup [u1,u2,.ref ka])/\Rep H t1 u1/\Rep H t2 u2/\KdsAt H ka kds
theorem zC7.same {H H':Hp}(g:Same H H') {r:Addr}{t1 t2:Tr}{kds:List (Str × Str)}:zC7 H r t1 t2 kds->zC7 H' r t1 t2 kds
 |⟨u1,u2,ka,h1,h2,h3,h4⟩=>⟨u1,u2,ka,g _ _ h1,h2.mono g.tk,h3.mono g.tk,h4.mono g⟩
def zFt:Sp:=λ vs H Q Ω=>E5 λ(r d:Addr) (t1 t2:Tr) (kds:List (Str × Str))=>A6 (vs=[.ref r,.ref d]) (zC7 H r t1 t2 kds) (t1.size<=40) (t2.size<=40) (H d=some (.dK [])) (∀(b:Bool) (H':Hp),Same H H'->Q (.bl b) H')
theorem zI6 (F:Fun K "_law_falls" "_law_falls" zDN f fd) (z_sorted:mg "sorted" = none) (zNP:FnB P w K mg base k "_law_worth" g1 gd1 ["_law_tree_here", "_law_scale", "_law_worths"] (zCC 122)) (zNN:FnB P w K mg base k "_law_gaps" g2 gd2 ["_law_shape_here"] (zDB 122)) :
  FnOk P w K mg base CX0 (k+1) f fd ["_law_rule", "_law_scale"] zFt:=by
 refine F.ok zB6 75 66
 ·obtain⟨r,d,t1,t2,kds,rfl,_⟩:=h
  rfl
 obtain⟨r,d,t1,t2,kds,rfl,hR,hs1,hs2,hd,q⟩:=h;have hu5:=hu150 hr
 refine⟨_,(Sd.un (zAI (pSS (i:=2) zB6.nd ⟨pe_op zEX (pe_cl zNP hr (zAA 67 (zAA (pv 1) (zAA zCx zAD)))) (pe_cl zNP hr (zAA 67 (zAA (pv 1) (zAA zCx zAD))))⟩)
  (zAI ⟨zAr PassesOwn.never rfl (zBD (zBL (zCp rfl) 102 z_sorted PyProof.Rows.boot_sorted (zAA (pe_cl zNN hr (zAA 67 zAD)) zAD))) (pGn (i:=3) zB6.nd) (zAE (ps_if (zAJ (zH7 hu5) (zAZ (zAA (pv 3) (zAA zAe zAD)):PE _ _ _) 67 rfl) (zAF (pS (i:=4) zB6.nd (pe_op zEX (pe_cl zNP hr (zAA 67 (zAA (pv 1) (zAA (zIs (zHV (pv 3) zAH zIl) rfl rfl 68 69) zAD)))) (pe_cl zNP hr (zAA 67 (zAA (pv 1) (zAA (zIs (zHV (pv 3) zAH zIl) rfl rfl 68 69) zAD))))))
  (zAE (ps_if (zAJ op_lt (pv 4) (pv 2) 91) (zAE (zAU pe_bl)) zAN))) zAN))⟩
  (zAi (zAn ⟨zAx op_ge (pv 2) zAH 91⟩))))),?_⟩
 have d2:2<=sizeLine:=by decide
 obtain⟨u1,u2,ka,er,r1,r2,o,ys,ek,hdn,pk⟩:=hR;have at0:atI [u1,u2,V.ref ka] 0=some u1:=zAS (j:=0) rfl;have at1:atI [u1,u2,V.ref ka] 1=some u2:=zAS (j:=1) rfl;have at2:atI [u1,u2,V.ref ka] 2=some (.ref ka):=zAS (j:=2) rfl;have one0:∀g:Str,∃m:Nat,(valV [] (Sum.inr g:Key)).getD (.int 1) = .int (m:Int)/\m<=2:=λ g=>⟨1,rfl,by decide⟩;refine⟨_,rfl,r,_,0,_,rfl,rfl,SqT.of er,at0,_,rfl,λ e1 he1=>?_⟩;have k1:=zAC (o:=.dK []) he1;have x1:=@zAB H e1 (.dK []);generalize upd H e1 _=H1 at k1 x1 ⊢;refine⟨t1,u1,d,e1,[],rfl,by lia,by lia,r1.mono k1.tk,k1 _ _ hd,x1,one0,λ m1 H2 g2 Ω=>?_⟩;have g12:=k1.trans g2;refine⟨_,rfl,r,_,1,_,rfl,rfl,SqT.of (g12 _ _ er),at1,_,rfl,λ e2 he2=>?_⟩;have k3:=zAC (o:=.dK []) he2;have x3:=@zAB H2 e2 (.dK []);generalize upd H2 e2 _=H3 at k3 x3 ⊢;have g13:=g12.trans k3;refine⟨t2,u2,d,e2,[],rfl,by lia,by lia,r2.mono g13.tk,g13 _ _ hd,x3,one0,λ m2 H4 g4 Ω=>?_⟩;have g14:=g13.trans g4;refine⟨_,_,rfl,rfl,?_⟩;generalize (m1:Int) - (m2:Int)=sp;refine⟨_,rfl,r,_,0,_,rfl,rfl,SqT.of (g14 _ _ er),at0,t1,u1,rfl,by lia,by lia,r1.mono g14.tk,λ dg kvs H5 g5 hdg ed gd le=>?_⟩;obtain⟨ks,ekk,ndk,lk,mk⟩:=gd.keys;refine⟨dg,kvs,ks,rfl,ed,ekk,by lia,λ l ss hl pm Ω=>?_⟩;have k6:=zAC (o:=.lst (ss.map V.str)) hl;have el:=@zAB H5 l (.lst (ss.map V.str));generalize upd H5 l _=H6 at k6 el ⊢;have g16:=g14.trans (g5.trans k6);refine⟨l,rfl,⟨_,SqL.of el⟩,?_⟩;refine zBR (xs:=ss.map V.str) (λ i σ' H'=>E2 λ(s3 s4:Option V)=>σ'=[some (.ref r),some (.ref d),some (.int sp),s3,s4]/\Same H6 H') ?_ ?_ ?_ ?_
 ·exact⟨none,none,rfl,.refl _⟩
 ·rintro i σ' H' _ ⟨s3,s4,rfl,g⟩
  exact SqL.of (g _ _ el)
 ·rintro i x σ' H' hx ⟨s3,s4,rfl,g7⟩
  rw[mJ] at hx;obtain⟨y,hy,rfl⟩:=lX.mp hx;have g17:=g16.trans g7;refine⟨_,rfl,d2,λ pt hpt=>?_⟩;have k8:=zAC (o:=.tup [.str y,.str "number"]) hpt;have x8:=@zAB H' pt (.tup [.str y,.str "number"]);generalize upd H' pt _=H8 at k8 x8 ⊢;have g18:=g17.trans k8;have pk8:Paired (PrV H8) ys (kdV kds):=Paired.mapP pk λ Ω Ω z=>zCZ g18.tk z;have kdd:=zJa kds;refine⟨_,rfl,r,_,2,_,rfl,rfl,SqT.of (g18 _ _ er),at2,ka,ys,kdD kds,.tup [.str y,.str "number"],rfl,.inl (.inr ⟨o,g18 _ _ ek⟩),zLH pk8,.tup x8 (.cons (.str _) (.cons (.str _) .nil)),by lia,_,rfl,ite2 77 77⟩
  ·have we:∀x:Str,∃m:Nat,(valV (zAt [] [((Sum.inr y:Key),V.int 2)]) (Sum.inr x:Key)).getD (.int 1) = .int (m:Int)/\m<=2:=λ x=>⟨_,zMI y x,by split<;>decide⟩
   refine⟨_,rfl,r,_,0,_,rfl,rfl,SqT.of (g18 _ _ er),at0,_,rfl,λ e3 he3=>⟨_,rfl,zAB,[((Sum.inr y:Key),V.int 2)],rfl,(by show 1<=15;decide),?_⟩⟩;have k9:Same H8 (upd (upd H8 e3 (.dK [])) e3 (.dK (zAt [] [((Sum.inr y:Key),V.int 2)]))):=zAb (zAC he3) he3;have x9:=@zAB (upd H8 e3 (.dK [])) e3 (.dK (zAt [] [((Sum.inr y:Key),V.int 2)]));generalize upd (upd H8 e3 _) e3 _=H9 at k9 x9 ⊢;have g19:=g18.trans k9;refine⟨t1,u1,d,e3,_,rfl,by lia,by lia,r1.mono g19.tk,g19 _ _ hd,x9,we,λ m3 H10 g10 Ω=>?_⟩;have g110:=g19.trans g10;refine⟨_,rfl,r,_,1,_,rfl,rfl,SqT.of (g110 _ _ er),at1,_,rfl,λ e4 he4=>⟨_,rfl,zAB,[((Sum.inr y:Key),V.int 2)],rfl,(by show 1<=15;decide),?_⟩⟩;have k11:Same H10 (upd (upd H10 e4 (.dK [])) e4 (.dK (zAt [] [((Sum.inr y:Key),V.int 2)]))):=zAb (zAC he4) he4;have x11:=@zAB (upd H10 e4 (.dK [])) e4 (.dK (zAt [] [((Sum.inr y:Key),V.int 2)]));generalize upd (upd H10 e4 _) e4 _=H11 at k11 x11 ⊢;have g111:=g110.trans k11;refine⟨t2,u2,d,e4,_,rfl,by lia,by lia,r2.mono g111.tk,g111 _ _ hd,x11,we,λ m4 H12 g12' Ω=>?_⟩;refine⟨_,_,rfl,rfl,?_⟩;refine⟨_,rfl,_,rfl,_,_,rfl,rfl,_,rfl,ite2 (λ c2=>?_) (λ c2=>?_)⟩
   ·exact q false _ (g111.trans g12')
   ·exact⟨_,_,rfl,g7.trans (k8.trans (k9.trans (g10.trans (k11.trans g12'))))⟩
  ·exact⟨_,_,rfl,g7.trans k8⟩
 ·rintro σ' H' ⟨s3,s4,rfl,g7⟩
  exact⟨_,rfl,_,_,rfl,rfl,q _ H' (g16.trans g7)⟩
abbrev zDK:Stmt:=top 47
theorem zAj:zAW ["_law_cells", "_law_gaps_here", "_law_word", "_law_numbers", "_law_sign", "_law_many", "_law_loud", "_law_noise", "_law_some", "_law_row", "_law_k", "_law_two", "_law_left", "_law_there"] ["_law_cells", "_law_gaps_here", "_law_word", "_law_numbers"] (zAM zDK):=scI
structure RGood (t1 t2:Tr) (kds:List (Str × Str)):Prop where
 s1:t1.size<=40
 s2:t2.size<=40
 pl:PlS t1
 nd:Nd t1
 kl:kds.length<=40
 kn:∀p∈kds,KdN p.2
 ku:(kds.map (·.1)).Nodup
def zHM:Sp:=λ vs H Q Ω=>E7 λ(ca ga na:Addr) (cs ns:List Int) (gs:List Str) (wd:Str)=>A8 (vs=[.ref ca,.ref ga,.str wd,.ref na]) (H ca=some (.lst (cs.map V.int))) (cs.length=12) (H ga=some (.lst (gs.map V.str))) (gs.length=3) (H na=some (.lst (ns.map V.int))) (ns.length=3) (∀(r:Addr) (t1 t2:Tr) (kds:List (Str × Str)) (H':Hp),Same H H'->zC7 H' r t1 t2 kds->RGood t1 t2 kds->Q (.ref r) H')
theorem zKY (F:Fun K "_law_plain" "_law_plain" zDK f fd) (z_int:mg "int" = none) (z_range:mg "range" = none) (z_sorted:mg "sorted" = none) (z_tuple:mg "tuple" = none)
  (zNN:FnB P w K mg base k "_law_gaps" g1 gd1 ["_law_shape_here"] (zDB 122)) (zNO:FnB P w K mg base k "_law_is_loud" g2 gd2 ["_law_shape_here"] (zC9 82)) (zNQ:FnB P w K mg base k "_law_kinds" g3 gd3 ["_law_there", "_law_cell"] zHO) (zNR:FnB P w K mg base k "_law_shape" g4 gd4 ["_law_cells", "_law_leaves", "_law_loud"] (zHJ K)) :
  FnOk P w K mg base CX0 (k+1) f fd ["_law_cells", "_law_gaps_here", "_law_word", "_law_numbers"] zHM:=by
 refine F.ok zAj 75 66
 ·obtain⟨ca,ga,na,cs,ns,gs,wd,rfl,_⟩:=h
  rfl
 obtain⟨ca,ga,na,cs,ns,gs,wd,rfl,hca,hcs,hga,hgs,hna,hns,q⟩:=h;have hu:=hu_of hr
 refine⟨_,(Sd.un (zAI (pSS (i:=4) zAj.nd (zC6 (r:=rIxL K) zAc ⟨zES [.str "add", .str "sub", .str "mul", .str "then", .str "if", .str "say"] 102⟩ ⟨pe_op zA9 (iC (r:=rIxL K) zAc (pv 0)) zAH⟩ 76))
  (zAI (pSS (i:=5) zAj.nd (zC6 (r:=rIxL K) zAc ⟨zES [.int 2,.int 2,.int 2,.int 2,.int 3,.int 1] 102⟩ ⟨pe_op zA9 (iC (r:=rIxL K) zAc (pv 0)) zAH⟩ 76))
  (zAI (pSS (i:=6) zAj.nd ⟨pe_or (zAx op_eq (pv 4) zAe 91) (zCk (zAx op_eq (pe_op zA9 (pe_op zB5 (iC (r:=rIxL K) zAc (pv 0)) zAH) zAH) zAH 91))⟩)
  (zAI (pSS (i:=7) zAj.nd (zDQ ⟨zAD⟩))
  (zAI (zBM ⟨zCW (pv 6) (λ Ω=>rfl)⟩ (zAi (pSS (i:=7) zAj.nd (zDQ (zAq (zDr (zAq ⟨zAe⟩ (zAq ⟨pv 2⟩ ⟨zAD⟩))) ⟨zAD⟩)))) ⟨zAN⟩)
  (zAI (pSS (i:=8) zAj.nd ⟨pe_op zDb (pe_op zDb (zBg ["_law_gap"] [none] rfl (zBD (pv 1)) (λ Ω Ω Ω Ω Ω=>(zA4 (i:=0) (show List.Nodup (["_law_gap"]:List Str) by right) rfl (Or.inl rfl))) (λ Ω Ω Ω Ω Ω=>zBb) (λ Ω Ω Ω Ω Ω=>(zAZ (zAA zAe (zAA (pv 0) (zAA (zAZ zAD:PE _ _ _) zAD))):PE _ _ _)) rfl) (zBg ["_law_number"] [none] rfl (zBD (zA1 (r:=rSlL K) zBZ (pv 3) zB4 (zAs zAH))) (λ Ω Ω Ω Ω Ω=>(zA4 (i:=0) (show List.Nodup (["_law_number"]:List Str) by right) rfl (Or.inl rfl))) (λ Ω Ω Ω Ω Ω=>zBb) (λ Ω Ω Ω Ω Ω=>(zAZ (zAA zAe (zAA (pv 0) zAD)):PE _ _ _)) rfl)) (pv 7)⟩)
  (zAI (pSS (i:=9) zAj.nd (zDQ ⟨zAD⟩))
  (zAI ⟨zAr PassesOwn.never rfl (zBl 102 z_range (zAA (pv 5) zAD)) (pGn (i:=10) zAj.nd) (zAF (pS (i:=11) zAj.nd (zBP zJ2 102 z_int PyProof.Rows.boot_int (zAA (zAx op_eq (pe_op zA9 (pe_op zB5 (pe_ix (r:=rIxL K) zAc (pv 0) (pe_op zBm zAH (pe_op zD6 zAH (pv 10))) 76) zAH) zAH) zAH 91) zAD)))
  (zAE (pAp (pv 9) (pe_cl zNR hr (zAA (zA1 (r:=rSlL K) zBZ (pv 0) (zAs (pe_op zBm zAH (pe_op zD6 zAH (pv 10)))) (zAs (pe_op zBm (pe_op zBm zAH (pe_op zD6 zAH (pv 10))) (pv 11)))) (zAA (pv 8) (zAA (pv 6) zAD)))))))⟩
  (zAI (pSS (i:=12) zAj.nd ⟨pe_op zCB (zAZ (zAA (pv 4) zAD):PE _ _ _) (zBP zBw 102 z_tuple rH (zAA (pv 9) zAD))⟩)
  (zAI (pSS (i:=13) zAj.nd ⟨pe_cl zNN hr (zAA (pv 12) zAD)⟩)
  (zAI (pSS (i:=8) zAj.nd ⟨pe_op zDb (zBg ["_law_gap"] [none] rfl (zBD (zBL (zCp rfl) 102 z_sorted PyProof.Rows.boot_sorted (zAA (pv 13) zAD))) (λ Ω Ω Ω Ω Ω=>(zA4 (i:=0) (show List.Nodup (["_law_gap"]:List Str) by right) rfl (Or.inl rfl))) (λ Ω Ω Ω Ω Ω=>zBb) (λ Ω Ω Ω Ω Ω=>(zAZ (zAA zAe (zAA (pv 0) (zAA (zAZ zAD:PE _ _ _) zAD))):PE _ _ _)) rfl) (zA8 (zAA (zAZ (zAA zAe (zAA (iC (r:=rIxL K) zAc (pv 3)) zAD)):PE _ _ _) zAD):PE _ _ _)⟩)
  (zAI (zBM ⟨zA7 (pe_cl zNO hr (zAA (pv 12) zAD))⟩ (zAi (pSS (i:=8) zAj.nd ⟨pe_op zDb (pv 8) (pv 7)⟩)) ⟨zAN⟩)
  (zAi (zAn (zDr (zAq ⟨pv 12⟩ (zAq ⟨pe_cl zNR hr (zAA (zA1 (r:=rSlL K) zBZ (pv 0) (zAs zAH) (zAs (pe_op zBm zAH (pe_op zA9 (iC (r:=rIxL K) zAc (pv 0)) zAH)))) (zAA (pv 8) (zAA (pe_cl zNO hr (zAA (pv 12) zAD)) zAD)))⟩ (zAq ⟨pe_cl zNQ hr (zAA (pv 13) (zAA (iC (r:=rIxL K) zAc (pv 0)) zAD))⟩ ⟨zAD⟩))))))))))))))))))),?_⟩
 have d0:0<=sizeLine:=by decide
 have d1:1<=sizeLine:=by decide
 have d2:2<=sizeLine:=by decide
 have d3:3<=sizeLine:=by decide
 have d6:6<=sizeLine:=by decide
 obtain⟨c0,e0⟩:=zBi (ns:=cs) (i:=0) 69 61;obtain⟨kd,hlf,hnl,es,em⟩:=zLk c0;have hmn:=zEa kd;refine⟨d6,λ p1 hp1=>?_⟩;have k1:=zAC (o:=.lst sixV) hp1;refine⟨_,rfl,ca,_,0,_,rfl,rfl,SqL.of (k1 _ _ hca),e0,_,_,rfl,rfl,(show (0:Int)<6 by decide),p1,_,_,_,rfl,rfl,SqL.of zAB,es,?_⟩;refine⟨d6,λ p2 hp2=>?_⟩;have k2:=k1.trans (zAC (o:=.lst zJH) hp2);refine⟨_,rfl,ca,_,0,_,rfl,rfl,SqL.of (k2 _ _ hca),e0,_,_,rfl,rfl,(show (0:Int)<6 by decide),p2,_,_,_,rfl,rfl,SqL.of zAB,em,?_⟩
 change tSeq _ _ _ _ (upd (upd H p1 (.lst sixV)) p2 (.lst zJH))
 generalize upd (upd H p1 _) p2 _=H2 at k2 ⊢;clear hp1 hp2 k1;apply viaS (λ σ' H'=>∃lo:Bool,σ'=[some (.ref ca),some (.ref ga),some (.str wd),some (.ref na),some (.str kd.s),some (.int (kd.many:Int)),some (.bl lo),none,none,none,none,none,none,none]/\H'=H2)
 ·intro rest
  refine⟨_,rfl,rfl,_,rfl,ite2 (λ Ω=>rest _ _ ⟨_,rfl,rfl⟩) (λ Ω=>?_)⟩;exact⟨_,rfl,ca,_,0,_,rfl,rfl,SqL.of (k2 _ _ hca),e0,_,_,rfl,rfl,⟨(show (0:Int)<6 by decide),(show (6:Int)<1073741824 by decide)⟩,_,_,rfl,rfl,(show (0:Int)<3 by decide),rfl,rest _ _ ⟨_,rfl,rfl⟩⟩
 rintro σ' H' ⟨lo,rfl,rfl⟩;refine⟨d0,λ pn hpn=>?_⟩;have k3:=k2.trans (zAC (o:=.lst []) hpn);apply viaS (λ σ' H3=>E3 λ(pn:Addr) (zs:List V) (zt:List Tr)=>A6 (σ'=[some (.ref ca),some (.ref ga),some (.str wd),some (.ref na),some (.str kd.s),some (.int (kd.many:Int)),some (.bl lo),some (.ref pn),none,none,none,none,none,none]) (Same H H3) (H3 pn=some (.lst zs)) (Paired (Rep H3) zt zs) (zt.length<=1) (Lvs zt))
 ·intro rest
  refine⟨_,rfl,_,rfl,ite2 (λ Ω=>?_) (λ Ω=>rest _ _ ⟨pn,[],[],rfl,k3,zAB,.nil,by simp,(λ t ht=>nomatch ht)⟩)⟩
  refine⟨_,rfl,d2,λ pa hpa=>⟨d1,λ pb hpb=>?_⟩⟩;have a1:=zAC (o:=.tup [.str "ask", .str wd]) hpa;have a2:=zAC (o:=.lst [.ref pa]) hpb;refine rest _ _ ⟨pb,[.ref pa],[.ask wd],rfl,k3.trans (a1.trans a2),zAB,.cons ⟨pa,rfl,a2 _ _ zAB⟩ .nil,by simp,λ t ht=>?_⟩;rw[mQ.mp ht];exact⟨rfl,rfl⟩
 clear hpn k3 k2;rintro σ' H3 ⟨pn,zs,zt,rfl,g3,en,pz,lz,vz⟩;refine⟨_,rfl,ga,rfl,⟨_,SqL.of (g3 _ _ hga)⟩,λ ac hac=>?_⟩;refine zBd (xs:=gs.map V.str) (λ i H'=>Same H3 H'/\∃(us:List V) (lv:List Tr),H' ac=some (.lst us)/\Paired (Rep H') lv us/\lv.length=i/\Lvs lv) ⟨zAC hac,[],[],zAB,.nil,rfl,(λ t ht=>nomatch ht)⟩ (λ i H' Ω h=>SqL.of (h.1 _ _ (g3 _ _ hga))) ?_ ?_
 ·rintro i x Hx hx ⟨gx,us,lv,ex,px,lx,vx⟩
  rw[mJ] at hx;obtain⟨y,hy,rfl⟩:=lX.mp hx;have hi:i<gs.length:=(lK.mp hy).1;have lu:=zAG px;refine⟨.skip .nil,_,rfl,d0,λ pb hpb=>⟨d3,λ pt hpt=>?_⟩⟩;have a1:=zAC (o:=.tup []) hpb;have a2:=zAC (o:=.tup [.str "gap", .str y,.ref pb]) hpt;have a12:=a1.trans a2;have ex2:=a12 _ _ ex;have tk:=Tk.lst (o:=.lst (us++[.ref pt])) ex2;refine⟨us,ex2,zAR 61,zAb (gx.trans a12) hac,us++[.ref pt],lv++[.gap y []],zAB,zAK (Paired.mapP px λ Ω Ω z=>z.mono (a12.tk.trans tk)) (.cons (show Rep _ (.gap y []) (.ref pt) from⟨pt,pb,[],rfl,tk _ _ zAB,tk _ _ (a2 _ _ zAB),by simp,.nil⟩) .nil),by simp[lx],vx.app λ t ht=>?_⟩;rw[mQ.mp ht];exact⟨rfl,rfl⟩
 rintro H4 ⟨g4,us4,lv4,e4,p4,l4,v4⟩;rw[lE] at l4;have g04:=g3.trans g4;obtain⟨n2,ecn,ln2⟩:=zEg (ns:=ns) (lo:=none) (hi:=some 2) (i:=0) (j:=2) rfl (zCV 69 61) 61;refine⟨_,rfl,2,rfl,na,_,rfl,SqL.of (g04 _ _ hna),λ ps hps=>?_⟩;rw[ecn];have a5:=zAC (o:=.lst (n2.map V.int)) hps;have e5:=@zAB H4 ps (.lst (n2.map V.int));refine⟨ps,rfl,⟨_,SqL.of e5⟩,λ ad had=>?_⟩;have e45:=a5 _ _ e4;have p45:Paired (Rep (upd H4 ps (.lst (n2.map V.int)))) lv4 us4:=Paired.mapP p4 λ Ω Ω z=>z.mono a5.tk;generalize upd H4 ps _=H5 at a5 e5 e45 p45 had ⊢;refine zBd (xs:=n2.map V.int) (λ i H'=>Same H5 H'/\∃(us:List V) (lv:List Tr),H' ad=some (.lst us)/\Paired (Rep H') lv us/\lv.length=i/\Lvs lv) ⟨zAC had,[],[],zAB,.nil,rfl,(λ t ht=>nomatch ht)⟩ (λ i H' Ω h=>SqL.of (h.1 _ _ e5)) ?_ ?_
 ·rintro i x Hx hx ⟨gx,us,lv,ex,px,lx,vx⟩
  rw[mJ] at hx;obtain⟨y,hy,rfl⟩:=lX.mp hx;have hi:i<n2.length:=(lK.mp hy).1;have lu:=zAG px;refine⟨.skip .nil,_,rfl,d2,λ pt hpt=>?_⟩;have a2:=zAC (o:=.tup [.str "num", .int y]) hpt;have ex2:=a2 _ _ ex;have tk:=Tk.lst (o:=.lst (us++[.ref pt])) ex2;refine⟨us,ex2,zAR 61,zAb (gx.trans a2) had,us++[.ref pt],lv++[.num y],zAB,zAK (Paired.mapP px λ Ω Ω z=>z.mono (a2.tk.trans tk)) (.cons (show Rep _ (.num y) (.ref pt) from⟨pt,rfl,tk _ _ zAB⟩) .nil),by simp[lx],vx.app λ t ht=>?_⟩;rw[mQ.mp ht];exact⟨rfl,rfl⟩
 rintro H6 ⟨g6,us6,lv6,e6,p6,l6,v6⟩;rw[lE] at l6;have lu4:=zAG p4;have lu6:=zAG p6;refine⟨ac,ad,us4,us6,rfl,rfl,g6 _ _ e45,e6,zAf 61,λ b1 hb1=>?_⟩;have a7:=zAC (o:=.lst (us4++us6)) hb1;have g47:=g6.trans a7;have luz:=zAG pz;refine⟨_,rfl,b1,pn,us4++us6,zs,rfl,rfl,zAB,(g4.trans (a5.trans g47)) _ _ en,zAf (by rw[mK];lia),λ b2 hb2=>?_⟩;have a8:=zAC (o:=.lst (us4++us6++zs)) hb2;have g08:=g04.trans (a5.trans (g47.trans a8));have en8:=(g4.trans (a5.trans (g47.trans a8))) _ _ en;have pz8:Paired (Rep (upd (upd H6 b1 (.lst (us4++us6))) b2 (.lst (us4++us6++zs)))) zt zs:=Paired.mapP pz λ Ω Ω z=>z.mono (g4.trans (a5.trans (g47.trans a8))).tk;have pA:Paired (Rep (upd (upd H6 b1 (.lst (us4++us6))) b2 (.lst (us4++us6++zs)))) (lv4++lv6++zt) (us4++us6++zs):=zAK (zAK (Paired.mapP p45 λ Ω Ω z=>z.mono (g47.trans a8).tk) (Paired.mapP p6 λ Ω Ω z=>z.mono (a7.trans a8).tk)) pz8;have vA:Lvs (lv4++lv6++zt):=(v4.app v6).app vz;have lA:1<=(lv4++lv6++zt).length/\(lv4++lv6++zt).length<=100:=by simp only[mK];lia
 have eA:=@zAB (upd H6 b1 (.lst (us4++us6))) b2 (.lst (us4++us6++zs));generalize upd (upd H6 b1 _) b2 _=H8 at g08 en8 pz8 pA eA ⊢;generalize us4++us6++zs=uA at pA eA ⊢;generalize lv4++lv6++zt=lA' at pA vA lA ⊢;clear g47 a7 a8 g6 e6 p6 a5 e5 e45 p45 g04 g4 e4 p4 g3 en pz hps had hac hb1 hb2 ecn;refine⟨d0,λ pr hpr=>?_⟩;have k9:=zAC (o:=.lst []) hpr;refine⟨_,rfl,(kd.many:Int),rfl,by lia,by lia,?_⟩;refine zBo (n:=((kd.many:Nat):Int).toNat) (λ i σ' H'=>E4 λ(us:List V) (ts:List Tr) (s10 s11:Option V)=>A7 (σ'=[some (.ref ca),some (.ref ga),some (.str wd),some (.ref na),some (.str kd.s),some (.int (kd.many:Int)),some (.bl lo),some (.ref pn),some (.ref b2),some (.ref pr),s10,s11,none,none]) (Same H8 H') (H' pr=some (.lst us)) (Paired (Rep H') ts us) (ts.length=i) (szT ts<=5 * i) (∀t∈ts,PlS t)) ⟨[],[],none,none,rfl,k9,zAB,.nil,rfl,mB _,(λ t ht=>nomatch ht)⟩ ?_ ?_
 ·rintro i σ' H' hi ⟨us,ts,s10,s11,rfl,g,er,pt,lt,sz,pls⟩
  have hi3:i<kd.many:=by simpa using hi
  obtain⟨c1,e1⟩:=zBi (ns:=cs) (i:=1+2 * (0+(i:Int))) 61 61;have gA:=g08.trans g;apply viaS (λ σ' H''=>∃tw:Int,0<=tw/\tw<=1/\σ'=[some (.ref ca),some (.ref ga),some (.str wd),some (.ref na),some (.str kd.s),some (.int (kd.many:Int)),some (.bl lo),some (.ref pn),some (.ref b2),some (.ref pr),some (.int (0+(i:Int))),some (.int tw),none,none]/\H''=H')
  ·intro rest
   exact⟨_,rfl,_,rfl,_,_,rfl,rfl,.inl ⟨by decide,by decide⟩,_,_,rfl,rfl,ca,_,_,_,rfl,rfl,SqL.of (gA _ _ hca),e1,_,_,rfl,rfl,⟨(show (0:Int)<64 by decide),(show (64:Int)<1073741824 by decide)⟩,_,_,rfl,rfl,(show (0:Int)<4 by decide),rfl,.inr ⟨_,rfl,rest _ _ ⟨_,by split<;>decide,by split<;>decide,rfl,rfl⟩⟩⟩
  rintro σ' H'' ⟨tw,tw0,tw1,rfl,rfl⟩;obtain⟨ms,ecm,lm⟩:=zEg (ns:=cs) (lo:=some (1+2 * (0+(i:Int)))) (hi:=some (2+2 * (0+(i:Int))+tw)) (i:=1+2 * i) (j:=2+2 * i+tw.toNat) (by rw[zCV 61 61];lia) (by rw[zCV 61 61];lia) 61;refine⟨_,rfl,.inl ⟨rfl,_,SqL.of er⟩,_,rfl,_,rfl,_,_,rfl,rfl,.inl ⟨by decide,by decide⟩,_,_,rfl,rfl,_,rfl,_,rfl,_,_,rfl,rfl,.inl ⟨by decide,by decide⟩,_,_,rfl,rfl,_,rfl,_,_,rfl,rfl,_,rfl,ca,_,rfl,SqL.of (gA _ _ hca),λ ps hps=>?_⟩;rw[ecm];have a1:=zAC (o:=.lst (ms.map V.int)) hps;have gB:=g.trans a1;refine⟨_,rfl,_,rfl,ps,b2,lo,ms,uA,lA',[],rfl,SqL.of zAB,by lia,gB _ _ eA,Paired.mapP pA λ Ω Ω z=>z.mono gB.tk,lA.1,lA.2,λ t ht=>(vA t ht).1,vA.gs,λ t v H5 g5 rt szt od=>?_⟩;have er5:=g5 _ _ (a1 _ _ er);have lu:=zAG pt;have tk:=Tk.lst (o:=.lst (us++[v])) er5;refine⟨pr,us,v,rfl,rfl,er5,zAR 61,us++[v],ts++[t],_,_,rfl,zAb (gB.trans g5) hpr,zAB,zAK (Paired.mapP pt λ Ω Ω z=>z.mono ((a1.trans g5).tk.trans tk)) (.cons (rt.mono tk) .nil),by simp[lt],?_,λ x hx=>?_⟩
  ·rw[zA2,zAh,zBS]
   lia
  ·rcases lM.mp hx with h|h
   ·exact pls x h
   ·rw[mQ.mp h]
    exact zJC od
 rintro σ' H9 ⟨us,ts,s10,s11,rfl,g9,er,pt,lt,sz,pls⟩;rw[Int.toNat_natCast] at lt sz;have lu:=zAG pt;obtain⟨t1,hkd,hpt,_,hrep⟩:=node (kd:=kd) hlf (ts:=ts) lt "";have hz1:t1.size=szT ts+1:=by rw[←zCd,hpt]
 have nd1:Nd t1:=⟨by rw[hkd];exact hlf,by rw[hkd];exact hnl⟩;have pl1:PlS t1:=zHW nd1.2 nd1.1 (by rw[hpt];exact pls);have hdv:headV kd "" = [.str kd.s]:=if_neg hnl;refine⟨_,rfl,d1,λ pa hpa=>?_⟩;have a1:=zAC (o:=.tup [.str kd.s]) hpa;refine⟨_,rfl,pr,us,rfl,.inl ⟨SqL.of (a1 _ _ er),λ pu hpu=>?_⟩⟩;have a2:=zAC (o:=.tup us) hpu;refine⟨pa,pu,[.str kd.s],us,rfl,rfl,a2 _ _ zAB,zAB,zAf (by simp;lia),λ pL H10 g10 e10=>?_⟩;have gA:=g9.trans (a1.trans (a2.trans g10));have r10:Rep H10 t1 (.ref pL):=hrep us H10 pL (Paired.mapP pt λ Ω Ω z=>z.mono (a1.trans (a2.trans g10)).tk) (by rw[hdv];exact e10);have en10:=gA _ _ en8;have pz10:=Paired.mapP pz8 λ Ω Ω z=>Rep.mono gA.tk z;have g010:=g08.trans gA;clear a1 a2 gA hpa hpu er pt g9;refine⟨_,rfl,t1,_,rfl,by lia,by lia,r10,λ d kvs H11 g11 hd ed gd le=>?_⟩;obtain⟨ks,ekk,ndk,lk,mk⟩:=gd.keys;refine⟨_,rfl,d,kvs,ks,rfl,ed,ekk,by lia,λ l ss hl pm Ω=>?_⟩;have a1:=zAC (o:=.lst (ss.map V.str)) hl;have el:=@zAB H11 l (.lst (ss.map V.str));generalize upd H11 l _=H12 at a1 el ⊢;have lss:ss.length=ks.length:=pm.length_eq;refine⟨l,rfl,⟨_,SqL.of el⟩,λ ac hac=>?_⟩;refine zBd (xs:=ss.map V.str) (λ i H'=>Same H12 H'/\∃(us:List V) (lv:List Tr),H' ac=some (.lst us)/\Paired (Rep H') lv us/\lv.length=i/\Lvs lv) ⟨zAC hac,[],[],zAB,.nil,rfl,(λ t ht=>nomatch ht)⟩ (λ i H' Ω h=>SqL.of (h.1 _ _ el)) ?_ ?_
 ·rintro i x Hx hx ⟨gx,us,lv,ex,px,lx,vx⟩
  rw[mJ] at hx;obtain⟨y,hy,rfl⟩:=lX.mp hx;have hi:i<ss.length:=(lK.mp hy).1;have lu:=zAG px;refine⟨.skip .nil,_,rfl,d0,λ pb hpb=>⟨d3,λ pt hpt=>?_⟩⟩;have a1:=zAC (o:=.tup []) hpb;have a2:=zAC (o:=.tup [.str "gap", .str y,.ref pb]) hpt;have a12:=a1.trans a2;have ex2:=a12 _ _ ex;have tk:=Tk.lst (o:=.lst (us++[.ref pt])) ex2;refine⟨us,ex2,zAR 61,zAb (gx.trans a12) hac,us++[.ref pt],lv++[.gap y []],zAB,zAK (Paired.mapP px λ Ω Ω z=>z.mono (a12.tk.trans tk)) (.cons (show Rep _ (.gap y []) (.ref pt) from⟨pt,pb,[],rfl,tk _ _ zAB,tk _ _ (a2 _ _ zAB),by simp,.nil⟩) .nil),by simp[lx],vx.app λ t ht=>?_⟩;rw[mQ.mp ht];exact⟨rfl,rfl⟩
 rintro H13 ⟨g13,us13,lv13,e13,p13,l13,v13⟩;rw[lE] at l13;have lu13:=zAG p13;have gB:=g11.trans (a1.trans g13);have gC:=g010.trans gB;obtain⟨m0,em0⟩:=zBi (ns:=ns) (i:=0) 69 61;refine⟨_,rfl,na,_,0,_,rfl,rfl,SqL.of (gC _ _ hna),em0,d2,λ pt hpt=>⟨d1,λ pb hpb=>?_⟩⟩;have a2:=zAC (o:=.tup [.str "num", .int m0]) hpt;have a3:=zAC (o:=.lst [.ref pt]) hpb;refine⟨ac,pb,us13,[.ref pt],rfl,rfl,(a2.trans a3) _ _ e13,zAB,zAf (by simp;lia),λ b3 hb3=>?_⟩;have a4:=zAC (o:=.lst (us13++[.ref pt])) hb3;have a24:=a2.trans (a3.trans a4);have gD:=gB.trans a24;apply viaS (λ σ' H'=>E3 λ(b4:Addr) (uB:List V) (lB:List Tr)=>A8 (σ'=[some (.ref ca),some (.ref ga),some (.str wd),some (.ref na),some (.str kd.s),some (.int (kd.many:Int)),some (.bl lo),some (.ref pn),some (.ref b4),some (.ref pr),s10,s11,some (.ref pL),some (.ref d)]) (Same H10 H') (H' d=some (.dK kvs)) (H' b4=some (.lst uB)) (Paired (Rep H') lB uB) (1<=lB.length) (lB.length<=100) (Lvs lB))
 ·intro rest
  have pB:Paired (Rep (upd (upd (upd H13 pt (.tup [.str "num", .int m0])) pb (.lst [.ref pt])) b3 (.lst (us13++[.ref pt])))) (lv13++[.num m0]) (us13++[.ref pt]):=zAK (Paired.mapP p13 λ Ω Ω z=>z.mono a24.tk) (.cons (show Rep _ (.num m0) (.ref pt) from⟨pt,rfl,a4 _ _ (a3 _ _ zAB)⟩) .nil);have vB:Lvs (lv13++[.num m0]):=v13.app λ t ht=>by rw[mQ.mp ht];exact⟨rfl,rfl⟩
  refine⟨_,rfl,t1,_,rfl,by lia,r10.mono gD.tk,λ b H14 g14 hb=>⟨b,rfl,ite2 (λ Ω=>?_) (λ Ω=>rest _ _ ⟨b3,_,lv13++[.num m0],rfl,gD.trans g14,(a1.trans (g13.trans (a24.trans g14))) _ _ ed,g14 _ _ zAB,Paired.mapP pB λ Ω Ω z=>z.mono g14.tk,by simp,by simp;lia,vB⟩)⟩⟩
  ·have gE:=gD.trans g14
   refine⟨_,rfl,_,rfl,b3,pn,us13++[.ref pt],zs,rfl,rfl,g14 _ _ zAB,gE _ _ en10,zAf (by have:=zAG pz10;simp;lia),λ b4 hb4=>?_⟩;have a5:=zAC (o:=.lst (us13++[.ref pt]++zs)) hb4;refine rest _ _ ⟨b4,_,lv13++[.num m0]++zt,rfl,gE.trans a5,(a1.trans (g13.trans (a24.trans (g14.trans a5)))) _ _ ed,zAB,zAK (Paired.mapP pB λ Ω Ω z=>z.mono (g14.trans a5).tk) (Paired.mapP pz10 λ Ω Ω z=>z.mono (gE.trans a5).tk),by simp only[mK,List.length_singleton];lia,by simp;lia,vB.app vz⟩
 rintro σ' H15 ⟨b4,uB,lB,rfl,g15,ed15,eB,pB,lB1,lB2,vB⟩;have gF:=g010.trans g15;obtain⟨c8,ec8⟩:=zBi (ns:=cs) (i:=8) 69 61;obtain⟨c7,ec7⟩:=zBi (ns:=cs) (i:=7) 69 61;have m0':=nY c8 (show (4:Int)≠0 by decide);have m1':=nZ c8 (show (0:Int)<4 by decide);obtain⟨ms,ecm,lm⟩:=zEg (ns:=cs) (lo:=some 8) (hi:=some (8+c8 % 4)) (i:=8) (j:=8+(c8 % 4).toNat) (by rw[zCV 61 61];rfl) (by rw[zCV 61 61];lia) 61;refine⟨_,rfl,_,rfl,_,rfl,_,rfl,ca,_,8,_,rfl,rfl,SqL.of (gF _ _ hca),ec8,_,_,rfl,rfl,(show (0:Int)<4 by decide),_,_,rfl,rfl,_,rfl,ca,_,rfl,SqL.of (gF _ _ hca),λ ps hps=>?_⟩;rw[ecm];have a5:=zAC (o:=.lst (ms.map V.int)) hps;refine⟨_,rfl,_,rfl,t1,_,rfl,by lia,r10.mono (g15.trans a5).tk,λ b H16 g16 hb=>?_⟩;have a56:=a5.trans g16;refine⟨ps,b4,b,ms,uB,lB,[],rfl,SqL.of (g16 _ _ zAB),by lia,a56 _ _ eB,Paired.mapP pB λ Ω Ω z=>z.mono a56.tk,lB1,lB2,λ t ht=>(vB t ht).1,vB.gs,λ t2 v2 H17 g17 r17 sz2 Ω=>?_⟩;have a57:=a56.trans g17;refine⟨_,rfl,_,rfl,ca,_,7,_,rfl,rfl,SqL.of ((gF.trans a57) _ _ hca),ec7,d,c7,_,kvs,rfl,a57 _ _ ed15,gd,by lia,λ ka kds H18 g18 hk nd kl kn=>⟨d3,λ r hr=>?_⟩⟩;have a9:=zAC (o:=.tup [.ref pL,v2,.ref ka]) hr;have a99:=a57.trans (g18.trans a9);exact q r t1 t2 kds _ (gF.trans a99) ⟨_,_,ka,zAB,r10.mono (g15.trans a99).tk,r17.mono (g18.trans a9).tk,hk.mono a9⟩ ⟨by lia,by lia,pl1,nd1,by lia,kn,nd⟩
abbrev zDJ:Stmt:=top 48
theorem zA6:zAW ["_law_cells", "_law_gaps_here", "_law_word", "_law_numbers", "_law_scale", "_law_rules_here", "_law_sign", "_law_wide", "_law_found", "_law_rule"] ["_law_cells", "_law_gaps_here", "_law_word", "_law_numbers", "_law_scale"] (zAM zDJ):=scI
abbrev Rl3:=Tr × Tr × List (Str × Str)
def RlQ (H:Hp) (x:Rl3) (v:V):Prop:=∃r,v = .ref r/\zC7 H r x.1 x.2.1 x.2.2/\RGood x.1 x.2.1 x.2.2
theorem RlQ.same {H H':Hp}(g:Same H H') {x:Rl3}{v:V}:RlQ H x v->RlQ H' x v
 |⟨r,e,h,k⟩=>⟨r,e,h.same g,k⟩
def zHK:Sp:=λ vs H Q Ω=>E8 λ(ca ga na sd:Addr) (cs ns:List Int) (gs:List Str) (wd:Str)=>A9 (vs=[.ref ca,.ref ga,.str wd,.ref na,.ref sd]) (H ca=some (.lst (cs.map V.int))) (cs.length=25) (H ga=some (.lst (gs.map V.str))) (gs.length=3) (H na=some (.lst (ns.map V.int))) (ns.length=3) (H sd=some (.dK [])) (∀(l:Addr) (us:List V) (R:List Rl3) (H':Hp),Same H H'->H' l=some (.lst us)->Paired (RlQ H') R us->R.length<=3->Q (.ref l) H')
theorem zKW (F:Fun K "_law_rules" "_law_rules" zDJ f fd) (z_len:mg "len" = none) (z_range:mg "range" = none) (z_tuple:mg "tuple" = none)
  (zNS:FnB P w K mg base k "_law_falls" g1 gd1 ["_law_rule", "_law_scale"] zFt) (zNT:FnB P w K mg base k "_law_plain" g2 gd2 ["_law_cells", "_law_gaps_here", "_law_word", "_law_numbers"] zHM) :
  FnOk P w K mg base CX0 (k+1) f fd ["_law_cells", "_law_gaps_here", "_law_word", "_law_numbers", "_law_scale"] zHK:=by
 refine F.ok zA6 75 66
 ·obtain⟨ca,ga,na,sd,cs,ns,gs,wd,rfl,_⟩:=h
  rfl
 obtain⟨ca,ga,na,sd,cs,ns,gs,wd,rfl,hca,hcs,hga,hgs,hna,hns,hsd,q⟩:=h
 refine⟨_,(Sd.un (zAI (pSS (i:=5) zA6.nd (zDQ (zAq ⟨pe_cl zNT hr (zAA (zA1 (r:=rSlL K) zBZ (pv 0) (zAs zAH) (zAs zAH)) (zAA (pv 1) (zAA (pv 2) (zAA (pv 3) zAD))))⟩ (zAq ⟨pe_cl zNT hr (zAA (zA1 (r:=rSlL K) zBZ (pv 0) (zAs zAH) (zAs zAH)) (zAA (pv 1) (zAA (pv 2) (zAA (pv 3) zAD))))⟩ ⟨zAD⟩))))
  (zAI (zBM ⟨zAJ op_gt (pe_op zA9 (iC (r:=rIxL K) zAc (pv 0)) zAH) zAH 91⟩ (zAI (pSS (i:=6) zA6.nd (zC6 (r:=rIxT K) zAL (zC6 (r:=rIxT K) zAL (zC6 (r:=rIxL K) zAc ⟨pv 5⟩ ⟨zAH⟩ 76) ⟨zAH⟩ 76) ⟨zAH⟩ 76))
  (zAI ⟨zEC (jj:=7) ["_law_k", "_law_gaps_here"] [none,some 1] rfl (zBl 102 z_range (zAA (pe_op zEX (cL z_len (zAA (pe_ix (r:=rIxT K) zAL (iC (r:=rIxL K) zAc (pv 5)) zAH 76) zAD)) zAH) zAD)) (λ Ω Ω Ω Ω Ω=>(zA4 (i:=0) (show List.Nodup (["_law_k", "_law_gaps_here"]:List Str) by right) rfl (Or.inl rfl))) (λ Ω Ω Ω Ω Ω=>zBb) (λ Ω Ω Ω Ω Ω=>(zAZ (zAA zAe (zAA (pe_ix (r:=rIxL K) zAc (pv 1) (pe_op zA9 (pv 0) zAH) 76) (zAA (zAZ zAD:PE _ _ _) zAD))):PE _ _ _)) rfl zA6.nd rfl (Or.inl rfl) (Or.inr rfl)⟩
  (zAi (zHU (zLB rO rQ rR zCn ⟨pv 5⟩ (zAq (zDr (zAq ⟨pe_op zCB (zAZ (zAA (pv 6) zAD):PE _ _ _) (zBP zBw 102 z_tuple rH (zAA (pv 7) zAD))⟩ (zAq (zDr (zAq ⟨zAe⟩ (zAq (zC6 (r:=rIxL K) zAc ⟨pv 3⟩ ⟨zAH⟩ 76) ⟨zAD⟩))) (zAq ⟨zFS zAD⟩ ⟨zAD⟩)))) ⟨zAD⟩)))))) ⟨zAN⟩)
  (zAI (zBM ⟨zAJ op_eq (pe_op zA9 (pe_op zB5 (iC (r:=rIxL K) zAc (pv 0)) zAH) zAH) zAH 91⟩ (zAi (pSS (i:=5) zA6.nd ⟨zIr (pv 5) (zAs (pe_un zBX zAH))⟩)) ⟨zAN⟩)
  (zAI (pSS (i:=8) zA6.nd (zDQ ⟨zAD⟩))
  (zAI ⟨zAr PassesOwn.never rfl (zBD (pv 5)) (pGn (i:=9) zA6.nd) (zAF (ps_if (zBO (zA7 (pe_cl zNS hr (zAA (pv 9) (zAA (pv 4) zAD))))) (zAE (pS (i:=9) zA6.nd (zAZ (zAA (iC (r:=rIxT K) zAL (pv 9)) (zAA (zAZ (zAA zAe (zAA (iC (r:=rIxL K) zAc (pv 3)) zAD)):PE _ _ _) (zAA (iC (r:=rIxT K) zAL (pv 9)) zAD))):PE _ _ _))) zAN)
  (zAE (pAp (pv 8) (pv 9))))⟩
  (zAi (zAn ⟨pv 8⟩)))))))),?_⟩
 have d0:0<=sizeLine:=by decide
 have d1:1<=sizeLine:=by decide
 have d2:2<=sizeLine:=by decide
 have d3:3<=sizeLine:=by decide
 obtain⟨m1,em1,lm1⟩:=zEg (ns:=cs) (lo:=some 0) (hi:=some 12) (i:=0) (j:=12) (by rw[zCV 61 61];rfl) (by rw[zCV 61 61];rfl) 61;obtain⟨m2,em2,lm2⟩:=zEg (ns:=cs) (lo:=some 12) (hi:=some 24) (i:=12) (j:=24) (by rw[zCV 61 61];rfl) (by rw[zCV 61 61];rfl) 61;refine⟨_,rfl,0,rfl,12,rfl,ca,_,rfl,SqL.of hca,λ p1 hp1=>?_⟩;rw[em1];have a1:=zAC (o:=.lst (m1.map V.int)) hp1;refine⟨_,rfl,_,rfl,_,rfl,p1,ga,na,m1,ns,gs,wd,rfl,zAB,lm1,a1 _ _ hga,hgs,a1 _ _ hna,hns,λ r1 t1 s1 k1 H1 b1 R1 G1=>?_⟩;have g1:=a1.trans b1;refine⟨_,rfl,12,rfl,24,rfl,ca,_,rfl,SqL.of (g1 _ _ hca),λ p2 hp2=>?_⟩;rw[em2];have a2:=zAC (o:=.lst (m2.map V.int)) hp2;have g2:=g1.trans a2;refine⟨_,rfl,_,rfl,_,rfl,p2,ga,na,m2,ns,gs,wd,rfl,zAB,lm2,g2 _ _ hga,hgs,g2 _ _ hna,hns,λ r2 t2 s2 k2 H2 b2 R2 G2=>⟨d2,λ l hl=>?_⟩⟩;have a3:=zAC (o:=.lst [.ref r1,.ref r2]) hl;have g3:=(g2.trans b2).trans a3;have R13:=R1.same (a2.trans (b2.trans a3));have R23:=R2.same a3;have el:=@zAB H2 l (.lst [.ref r1,.ref r2]);have hlH:H l=none:=(g2.trans b2).free hl;generalize upd H2 l _=H3 at g3 R13 R23 el ⊢;clear a1 a2 a3 b1 b2 g1 g2 R1 R2 hp1 hp2 hl;obtain⟨c24,e24⟩:=zBi (ns:=cs) (i:=24) 69 61;apply viaS (λ σ' H'=>E4 λ(us:List V) (R:List Rl3) (s6 s7:Option V)=>A5 (σ'=[some (.ref ca),some (.ref ga),some (.str wd),some (.ref na),some (.ref sd),some (.ref l),s6,s7,none,none]) (Same H H') (H' l=some (.lst us)) (Paired (RlQ H') R us) (R.length<=3))
 ·intro rest
  refine⟨_,rfl,ca,_,24,_,rfl,rfl,SqL.of (g3 _ _ hca),e24,_,_,rfl,rfl,(show (0:Int)<3 by decide),_,_,rfl,rfl,_,rfl,ite2 (λ Ω=>?_) (λ Ω=>rest _ _ ⟨_,[(t1,s1,k1),(t2,s2,k2)],_,_,rfl,g3,el,.cons ⟨r1,rfl,R13,G1⟩ (.cons ⟨r2,rfl,R23,G2⟩ .nil),by simp⟩)⟩;obtain⟨u1,u2,ka,er1,ru1,ru2,hk1⟩:=id R13;obtain⟨pa,us1,rfl,epa,pp1⟩:=G1.nd.rep ru1;have lp1:=zAG pp1;have mp1:=zBc t1;have ml1:=zEa t1.kd;have at0:atI [V.ref r1,.ref r2] 0=some (.ref r1):=zAS (j:=0) rfl;have at1:atI [V.ref pa,u2,.ref ka] 0=some (.ref pa):=zAS (j:=0) rfl;have at2:atI (V.str t1.kd.s::us1) 0=some (.str t1.kd.s):=zAS (j:=0) rfl;refine⟨_,rfl,l,_,0,_,rfl,rfl,SqL.of el,at0,r1,_,0,_,rfl,rfl,SqT.of er1,at1,pa,_,0,_,rfl,rfl,SqT.of epa,at2,?_⟩;refine⟨_,rfl,l,_,0,_,rfl,rfl,SqL.of el,at0,r1,_,0,_,rfl,rfl,SqT.of er1,at1,pa,_,rfl,.inr (SqT.of epa),_,_,rfl,rfl,((V.str t1.kd.s::us1).length:Int) - 1,rfl,by simp,by simp;lia,λ acc hacc=>?_⟩;have ln:(((V.str t1.kd.s::us1).length:Int) - 1).toNat=t1.kd.many:=by simp;lia
  refine zDT (n:=(((V.str t1.kd.s::us1).length:Int) - 1).toNat) (λ i H'=>Same H3 H'/\∃(us:List V) (lv:List Tr),H' acc=some (.lst us)/\Paired (Rep H') lv us/\lv.length=i/\Lvs lv) ⟨zAC hacc,[],[],zAB,.nil,rfl,(λ t ht=>nomatch ht)⟩ ?_ ?_
  ·rintro i Hx hi ⟨gx,us,lv,ex,px,lx,vx⟩
   have lu:=zAG px;refine⟨.skip (.keep .nil),_,rfl,_,rfl,_,_,rfl,rfl,(show (0:Int)<3 by decide),ga,_,_,_,rfl,rfl,SqL.of ((g3.trans gx) _ _ hga),nm3 hgs _,d0,λ pb hpb=>⟨d3,λ pt hpt=>?_⟩⟩;have a1:=zAC (o:=.tup []) hpb;have a2:=zAC (o:=.tup [.str "gap", .str (nm gs ((0+(i:Int)) % 3)),.ref pb]) hpt;have a12:=a1.trans a2;have ex2:=a12 _ _ ex;have tk:=Tk.lst (o:=.lst (us++[.ref pt])) ex2;refine⟨us,ex2,zAR 61,zAb (gx.trans a12) hacc,us++[.ref pt],lv++[.gap (nm gs ((0+(i:Int)) % 3)) []],zAB,zAK (Paired.mapP px λ Ω Ω z=>z.mono (a12.tk.trans tk)) (.cons (show Rep _ (.gap (nm gs ((0+(i:Int)) % 3)) []) (.ref pt) from⟨pt,pb,[],rfl,tk _ _ zAB,tk _ _ (a2 _ _ zAB),by simp,.nil⟩) .nil),by simp[lx],vx.app λ t ht=>?_⟩;rw[mQ.mp ht];exact⟨rfl,rfl⟩
  rintro H4 ⟨g4,us,lv,e4,p4,l4,v4⟩;rw[ln] at l4;have lu:=zAG p4;obtain⟨t3,hkd,hpt,_,hrep⟩:=node (kd:=t1.kd) G1.nd.1 (ts:=lv) l4 ""
  have sz3:szT lv=lv.length:=by
   have:∀l:List Tr,Lvs l->szT l=l.length:=λ l hl=>by
    induction l with
    |nil=>rfl
    |cons a l ih=>rw[zAh,(hl a List.mem_cons_self).1,ih λ t ht=>hl t (List.mem_cons_of_mem _ ht),mM];lia
   exact this lv v4
  have hz3:t3.size=szT lv+1:=by rw[←zCd,hpt]
  have nd3:Nd t3:=⟨by rw[hkd];exact G1.nd.1,by rw[hkd];exact G1.nd.2⟩;have pl3:PlS t3:=zHW nd3.2 nd3.1 (by rw[hpt];exact λ p hp=>zJC (by rw[(v4 p hp).2];exact λ g hg=>hg));have hdv:headV t1.kd "" = [.str t1.kd.s]:=if_neg G1.nd.2;have g04:=g3.trans g4;refine⟨_,rfl,.inl ⟨rfl,_,SqL.of (g4 _ _ el)⟩,_,rfl,d1,λ pc hpc=>?_⟩;have a1:=zAC (o:=.tup [.str t1.kd.s]) hpc;refine⟨_,rfl,acc,us,rfl,.inl ⟨SqL.of (a1 _ _ e4),λ pu hpu=>?_⟩⟩;have a2:=zAC (o:=.tup us) hpu;refine⟨pc,pu,[.str t1.kd.s],us,rfl,rfl,a2 _ _ zAB,zAB,zAf (by simp;lia),λ pL H5 g5 e5=>?_⟩;have aA:=a1.trans (a2.trans g5);have r5:Rep H5 t3 (.ref pL):=hrep us H5 pL (Paired.mapP p4 λ Ω Ω z=>z.mono aA.tk) (by rw[hdv];exact e5);obtain⟨m1,em1⟩:=zBi (ns:=ns) (i:=1) 69 61;refine⟨_,rfl,na,_,1,_,rfl,rfl,SqL.of ((g04.trans aA) _ _ hna),em1,d2,λ pm hpm=>⟨mB _,λ pk ok hpk hok=>⟨d3,λ pr hpr=>?_⟩⟩⟩;have b1:=zAC (o:=.tup [.str "num", .int m1]) hpm;have b2:=zAC (o:=.frz ok (.tup [])) hpk;have b3:=zAC (o:=.tup [.ref pL,.ref pm,.ref pk]) hpr;have b23:=b2.trans b3;have bA:=aA.trans (b1.trans b23);have el6:=(g4.trans bA) _ _ el;refine⟨l,_,_,rfl,rfl,el6,zAR 68,?_⟩;have gZ:Same H (upd 96 l (.lst ([.ref r1,.ref r2]++[.ref pr]))):=zAb (g04.trans bA) hlH;have fz:∀{c:Addr}{o:HO},c≠l->upd (upd (upd H5 pm (.tup [.str "num", .int m1])) pk (.frz ok (.tup []))) pr (.tup [.ref pL,.ref pm,.ref pk]) c=some o->(upd 96 l (.lst ([.ref r1,.ref r2]++[.ref pr]))) c=some o:=λ hc h=>by rw[zAd hc];exact h
  have tk:=Tk.lst (o:=.lst ([.ref r1,.ref r2]++[.ref pr])) el6
  have hR:∀{H0:Hp}{r:Addr}{x1 x2:Tr}{kk:List (Str × Str)},Same H0 96->zC7 H0 r x1 x2 kk->zC7 (upd 96 l (.lst ([.ref r1,.ref r2]++[.ref pr]))) r x1 x2 kk:=λ g h=>by
   obtain⟨v1,v2,kx,h1,h2,h3,o,ys,h4,h5,h6⟩:=h.same g;have ne:kx≠l:=λ z=>by rw[z,el6] at h4;cases h4
   exact⟨v1,v2,kx,tk _ _ h1,h2.mono tk,h3.mono tk,o,ys,fz ne h4,h5,Paired.mapP h6 λ Ω Ω z=>zCZ tk z⟩
  have R3:zC7 96 pr t3 (.num m1) []:=⟨_,_,pk,zAB,r5.mono (b1.trans b23).tk,⟨pm,rfl,b23 _ _ zAB⟩,ok,[],b3 _ _ zAB,hok,.nil⟩;refine rest _ _ ⟨_,[(t1,s1,k1),(t2,s2,k2),(t3,.num m1,[])],_,_,rfl,gZ,zAB,.cons ⟨r1,rfl,hR (g4.trans bA) R13,G1⟩ (.cons ⟨r2,rfl,hR (g4.trans bA) R23,G2⟩ (.cons ⟨pr,rfl,hR (.refl _) R3,⟨?_,?_,pl3,nd3,mB _,(λ p hp=>nomatch hp),List.nodup_nil⟩⟩ .nil)),by simp⟩
  ·show t3.size<=40
   lia
  ·show 1<=40
   decide
 rintro σ' H4 ⟨us,R,s6,s7,rfl,g4,el4,pR,lR⟩;clear R13 R23 g3 el;apply viaS (λ σ' H'=>E3 λ(l:Addr) (us:List V) (R:List Rl3)=>A5 (σ'=[some (.ref ca),some (.ref ga),some (.str wd),some (.ref na),some (.ref sd),some (.ref l),s6,s7,none,none]) (Same H H') (H' l=some (.lst us)) (Paired (RlQ H') R us) (R.length<=3))
 ·intro rest
  refine⟨_,rfl,ca,_,24,_,rfl,rfl,SqL.of (g4 _ _ hca),e24,_,_,rfl,rfl,⟨(show (0:Int)<3 by decide),(show (3:Int)<1073741824 by decide)⟩,_,_,rfl,rfl,(show (0:Int)<2 by decide),rfl,_,rfl,ite2 (λ Ω=>?_) (λ Ω=>rest _ _ ⟨l,us,R,rfl,g4,el4,pR,lR⟩)⟩;refine⟨_,rfl,_,rfl,_,rfl,rfl,l,us,rfl,SqL.of el4,λ p hp=>?_⟩;have a1:=zAC (o:=.lst us.reverse) hp;exact rest _ _ ⟨p,_,R.reverse,rfl,g4.trans a1,zAB,zDs (Paired.mapP pR λ Ω Ω z=>z.same a1),by rw[List.length_reverse];exact lR⟩
 clear pR el4 g4;rintro σ' H5 ⟨l,us,R,rfl,g5,el,pR,lR⟩;have lus:=zAG pR;refine⟨d0,λ pf hpf=>?_⟩;have a1:=zAC (o:=.lst []) hpf;have hpfH:H pf=none:=g5.free hpf;have npl:l≠pf:=zAV el hpf;refine⟨_,rfl,l,rfl,⟨us,SqL.of (a1 _ _ el)⟩,?_⟩;refine zBR (xs:=us) (λ i σ' H'=>E3 λ(ws:List V) (R':List Rl3) (s9:Option V)=>A5 (σ'=[some (.ref ca),some (.ref ga),some (.str wd),some (.ref na),some (.ref sd),some (.ref l),s6,s7,some (.ref pf),s9]) (Same H5 H') (H' pf=some (.lst ws)) (Paired (RlQ H') R' ws) (R'.length=i)) ?_ ?_ ?_ ?_
 ·exact⟨[],[],none,rfl,a1,zAB,.nil,rfl⟩
 ·rintro i σ' H' _ ⟨ws,R',s9,rfl,g,ef,pw,lw⟩
  exact SqL.of (g _ _ el)
 ·rintro i x σ' H' hx ⟨ws,R',s9,rfl,g,ef,pw,lw⟩
  obtain⟨⟨t1,t2,kk⟩,_,r,rfl,hR,hG⟩:=zAP pR hx;have hi:i<us.length:=(lK.mp hx).1;have lws:=zAG pw;have gA:=g5.trans g;dsimp only at hR hG;apply viaS (λ σ' H''=>∃(r:Addr) (x:Rl3),σ'=[some (.ref ca),some (.ref ga),some (.str wd),some (.ref na),some (.ref sd),some (.ref l),s6,s7,some (.ref pf),some (.ref r)]/\Same H' H''/\zC7 H'' r x.1 x.2.1 x.2.2/\RGood x.1 x.2.1 x.2.2)
  ·intro rest
   refine⟨_,rfl,_,rfl,r,sd,t1,t2,kk,rfl,hR.same g,hG.s1,hG.s2,gA _ _ hsd,λ b H6 g6=>⟨b,rfl,?_⟩⟩;cases b with
   |true=>exact iteF (rest _ _ ⟨r,(t1,t2,kk),rfl,g6,(hR.same g).same g6,hG⟩)
   |false =>
    refine iteT ?_;obtain⟨u1,u2,ka,er,r1,r2,hk⟩:=(hR.same g).same g6;have at0:atI [u1,u2,V.ref ka] 0=some u1:=zAS (j:=0) rfl;have at2:atI [u1,u2,V.ref ka] 2=some (.ref ka):=zAS (j:=2) rfl;obtain⟨m0,em0⟩:=zBi (ns:=ns) (i:=0) 69 61;refine⟨_,rfl,r,_,0,_,rfl,rfl,SqT.of er,at0,_,rfl,na,_,0,_,rfl,rfl,SqL.of ((gA.trans g6) _ _ hna),em0,d2,λ pm hpm=>?_⟩;have b1:=zAC (o:=.tup [.str "num", .int m0]) hpm;refine⟨_,rfl,r,_,2,_,rfl,rfl,SqT.of (b1 _ _ er),at2,d3,λ pr hpr=>?_⟩;have b2:=zAC (o:=.tup [u1,.ref pm,.ref ka]) hpr;have b12:=b1.trans b2;refine rest _ _ ⟨pr,(t1,.num m0,kk),rfl,g6.trans b12,⟨u1,.ref pm,ka,zAB,r1.mono b12.tk,⟨pm,rfl,b2 _ _ zAB⟩,hk.mono b12⟩,⟨hG.s1,?_,hG.pl,hG.nd,hG.kl,hG.kn,hG.ku⟩⟩;show 1<=40;decide
  rintro σ' H6 ⟨r,x,rfl,g6,hR6,hG6⟩;have ef6:=g6 _ _ ef;refine⟨_,rfl,.inl ⟨rfl,_,SqL.of ef6⟩,_,rfl,pf,_,_,rfl,rfl,ef6,zAR 61,?_⟩;have hZ:Same H5 (upd H6 pf (.lst (ws++[.ref r]))):=zAb (g.trans g6) hpf;have tk:=Tk.lst (o:=.lst (ws++[.ref r])) ef6
  have hR:∀{x:Rl3}{v:V},RlQ H6 x v->RlQ (upd H6 pf (.lst (ws++[.ref r]))) x v:=λ{x v} h=>by
   obtain⟨r,e,⟨v1,v2,kx,h1,h2,h3,o,ys,h4,h5,h6⟩,hG⟩:=h;have ne:kx≠pf:=λ z=>by rw[z,ef6] at h4;cases h4
   exact⟨r,e,⟨v1,v2,kx,tk _ _ h1,h2.mono tk,h3.mono tk,o,ys,by rw[zAd ne];exact h4,h5,Paired.mapP h6 λ Ω Ω z=>zCZ tk z⟩,hG⟩
  exact⟨_,R'++[x],_,rfl,hZ,zAB,zAK (Paired.mapP pw λ Ω Ω z=>hR (z.same g6)) (.cons (hR ⟨r,rfl,hR6,hG6⟩) .nil),by simp[lw]⟩
 ·rintro σ' H' ⟨ws,R',s9,rfl,g,ef,pw,lw⟩
  exact⟨_,rfl,q pf ws R' H' (g5.trans g) ef pw 61⟩
abbrev zDo:Stmt:=top 49
theorem zDC:zAW ["_law_number", "_law_words_here", "_law_numbers", "_law_kind_here"] ["_law_number", "_law_words_here", "_law_numbers"] (zAM zDo):=scI
abbrev zDn:Stmt:=top 50
theorem zBJ:zAW ["_law_stack", "_law_cell", "_law_words_here", "_law_numbers", "_law_way", "_law_sign", "_law_many", "_law_head", "_law_row", "_law_deep"] ["_law_stack", "_law_cell", "_law_words_here", "_law_numbers"] (zAM zDn):=scI
def zId:Sp:=λ vs H Q Ω=>E5 λ(n:Int) (l na:Addr) (ws:List Str) (ns:List Int)=>A7 (vs=[.int n,.ref l,.ref na]) (H l=some (.lst (ws.map V.str))) (ws.length=3) (∀x∈ws,GW x) (H na=some (.lst (ns.map V.int))) (ns.length=3) (∀(t:Tr) (v:V) (H':Hp),Same H H'->Rep H' t v->t.size=1->GdT t->Q v H')
theorem zLx (F:Fun K "_law_leaf" "_law_leaf" zDo f fd) (z_len:mg "len" = none):FnOk P w K mg base CX0 (k+1) f fd ["_law_number", "_law_words_here", "_law_numbers"] zId:=by
 refine F.ok zDC 75 66
 ·obtain⟨n,l,na,ws,ns,rfl,_⟩:=h
  rfl
 obtain⟨n,l,na,ws,ns,rfl,hl,hw,hgw,hna,hns,q⟩:=h
 refine⟨_,(zAF (pS (i:=3) zDC.nd (pe_op zA9 (pv 0) zAH))
  (zAF (pS (i:=0) zDC.nd (pe_op zB5 (pv 0) zAH))
  (zAF (ps_if (zAJ op_eq (pv 3) zAH 91) (zAE (zAU (zAZ (zAA zAe (zAA (pe_ix (r:=rIxL K) zAc (pv 1) (pe_op zA9 (pv 0) (cL z_len (zAA (pv 1) zAD))) 76) zAD)):PE _ _ _))) zAN)
  (zAF (ps_if (zAJ op_eq (pv 3) zAH 91) (zAE (zAU (zAZ (zAA zAe (zAA (pe_ix (r:=rIxL K) zAc (pv 1) (pe_op zA9 (pv 0) (cL z_len (zAA (pv 1) zAD))) 76) zAD)):PE _ _ _))) zAN)
  (zAF (ps_if (zAJ op_eq (pv 3) zAH 91) (zAE (zAU (zAZ (zAA zAe (zAA (pe_ix (r:=rIxL K) zAc (pv 1) (pe_op zA9 (pv 0) (cL z_len (zAA (pv 1) zAD))) 76) zAD)):PE _ _ _))) zAN)
  (zAE (zAU (zAZ (zAA zAe (zAA (pe_ix (r:=rIxL K) zAc (pv 2) (pe_op zA9 (pv 0) (cL z_len (zAA (pv 2) zAD))) 76) zAD)):PE _ _ _)))))))),?_⟩
 have d2:2<=sizeLine:=by decide
 have z3:(0:Int)<3:=by decide
 have l3:((ws.map V.str).length:Int)=3:=by rw[lE,hw];rfl
 have m3:((ns.map V.int).length:Int)=3:=by rw[lE,hns];rfl
 refine⟨_,rfl,_,_,rfl,rfl,(show (0:Int)<6 by decide),?_⟩;refine⟨_,rfl,_,_,rfl,rfl,⟨(show (0:Int)<6 by decide),(show (6:Int)<1073741824 by decide)⟩,?_⟩;dsimp only;generalize n % 6=kk;generalize n / 6=m;have gl:∀t:Tr,t.parts=[]->¬t.kd = .gap->GdT t:=λ t h1 h2=>zFZ h2 (λ x a b e=>by rw[e] at h1;cases h1) (by rw[h1];exact λ p hp=>nomatch hp)
 refine⟨_,rfl,rfl,_,rfl,ite2 (λ Ω=>?_) (λ Ω=>⟨_,rfl,rfl,_,rfl,ite2 (λ Ω=>?_) (λ Ω=>⟨_,rfl,rfl,_,rfl,ite2 (λ Ω=>?_) (λ Ω=>?_)⟩)⟩)⟩
 ·refine⟨_,rfl,_,rfl,_,rfl,l,_,rfl,.inl (SqL.of hl),_,_,rfl,rfl,(by rw[l3];exact z3),l,_,_,.str (nm ws (m % 3)),rfl,rfl,SqL.of hl,(by rw[l3];exact nm3 hw _),d2,λ p hp=>?_⟩
  exact q (.name (nm ws (m % 3))) _ _ (zAC hp) ⟨p,rfl,zAB⟩ rfl (gl _ rfl 87)
 ·refine⟨_,rfl,_,rfl,_,rfl,l,_,rfl,.inl (SqL.of hl),_,_,rfl,rfl,(by rw[l3];exact z3),l,_,_,.str (nm ws (m % 3)),rfl,rfl,SqL.of hl,(by rw[l3];exact nm3 hw _),d2,λ p hp=>?_⟩
  exact q (.ask (nm ws (m % 3))) _ _ (zAC hp) ⟨p,rfl,zAB⟩ rfl (gl _ rfl 87)
 ·refine⟨_,rfl,_,rfl,_,rfl,l,_,rfl,.inl (SqL.of hl),_,_,rfl,rfl,(by rw[l3];exact z3),l,_,_,.str (nm ws (m % 3)),rfl,rfl,SqL.of hl,(by rw[l3];exact nm3 hw _),d2,λ p hp=>?_⟩
  exact q (.stop (nm ws (m % 3))) _ _ (zAC hp) ⟨p,rfl,zAB⟩ rfl (gl _ rfl 87)
 ·obtain⟨y,ey⟩:=zBi (ns:=ns) (i:=m % 3) 61 61
  refine⟨_,rfl,_,rfl,_,rfl,na,_,rfl,.inl (SqL.of hna),_,_,rfl,rfl,(by rw[m3];exact z3),na,_,_,.int y,rfl,rfl,SqL.of hna,(by rw[m3];exact ey),d2,λ p hp=>?_⟩;exact q (.num y) _ _ (zAC hp) ⟨p,rfl,zAB⟩ rfl (gl _ rfl 87)
def zIc:Sp:=λ vs H Q Ω=>E8 λ(r:Addr) (c:Int) (l na:Addr) (ns:List Int) (ws:List Str) (ts:List Tr) (us:List V)=>A10 (vs=[.ref r,.int c,.ref l,.ref na]) (H l=some (.lst (ws.map V.str))) (ws.length=3) (∀x∈ws,GW x) (H na=some (.lst (ns.map V.int))) (ns.length=3) (H r=some (.lst us)) (Paired (PR H) ts us) (szT ts<=300) (∀(r':Addr) (ts':List Tr) (us':List V) (H':Hp),Same H H'->H' r'=some (.lst us')->Paired (PR H') ts' us'->szT ts'<=szT ts+1->Q (.ref r') H')
theorem zLu (F:Fun K "_law_more" "_law_more" zDn f fd) (z_len:mg "len" = none) (z_max:mg "max" = none) (z_tuple:mg "tuple" = none)
  (zNU:FnB P w K mg base k "_law_leaf" g1 gd1 ["_law_number", "_law_words_here", "_law_numbers"] zId):FnOk P w K mg base CX0 (k+1) f fd ["_law_stack", "_law_cell", "_law_words_here", "_law_numbers"] zIc:=by
 refine F.ok zBJ 75 66
 ·obtain⟨r,c,l,na,ns,ws,ts,us,rfl,_⟩:=h
  rfl
 obtain⟨r,c,l,na,ns,ws,ts,us,rfl,hl,hw,hgw,hna,hns,hrr,pr,hsz,q⟩:=h
 refine⟨_,((zAI ⟨pS (i:=4) zBJ.nd (pe_op zEX (pe_op zA9 (pv 1) zAH) zAH)⟩
  (zAI (zBM ⟨zAJ op_ge (pv 4) zAH 91⟩ (zAI (pSS (i:=5) zBJ.nd (zC6 (r:=rIxL K) zAc ⟨zES [.str "say", .str "add", .str "sub", .str "mul", .str "then", .str "if", .str "let"] 102⟩ ⟨pv 4⟩ 76))
  (zAI (pSS (i:=6) zBJ.nd (zC6 (r:=rIxL K) zAc ⟨zES [.int 1,.int 2,.int 2,.int 2,.int 2,.int 3,.int 2] 102⟩ ⟨pv 4⟩ 76))
  ⟨zAE (ps_if (zB3 (zAJ op_ge (cL z_len (zAA (pv 0) zAD)) (pv 6) 91) (zBa (zAJ op_lt (zBL (zGU rfl) 102 z_max PyProof.Rows.boot_max (zAA (zBg ["_law_tree_here", "_law_deep"] [none,none] rfl (zBD (zA1 (r:=rSlL K) zBZ (pv 0) (zAs (pe_un zBX (pv 6))) zB4)) 73 (λ Ω Ω Ω Ω Ω=>zBb) (λ Ω Ω Ω Ω Ω=>(pv 1)) rfl) zAD)) zAH 91))).pt (zAF (pS (i:=7) zBJ.nd (zAZ (zAA (pv 5) zAD):PE _ _ _))
  (zAF (ps_if (zAJ op_eq (pv 5) zAe 91) (zAE (pS (i:=7) zBJ.nd (zAZ (zAA (pv 5) (zAA (pe_ix (r:=rIxL K) zAc (pv 2) (pe_op zA9 (pe_op zB5 (pv 1) zAH) (cL z_len (zAA (pv 2) zAD))) 76) zAD)):PE _ _ _))) zAN)
  (zAF (pS (i:=8) zBJ.nd (zBP zBw 102 z_tuple rH (zAA (zBg ["_law_tree_here", "_law_deep"] [none,none] rfl (zBD (zA1 (r:=rSlL K) zBZ (pv 0) (zAs (pe_un zBX (pv 6))) zB4)) 73 (λ Ω Ω Ω Ω Ω=>zBb) (λ Ω Ω Ω Ω Ω=>(pv 0)) rfl) zAD)))
  (zAF (pS (i:=9) zBJ.nd (pe_op zBm zAH (zBL (zGU rfl) 102 z_max PyProof.Rows.boot_max (zAA (zBg ["_law_tree_here", "_law_deep"] [none,none] rfl (zBD (zA1 (r:=rSlL K) zBZ (pv 0) (zAs (pe_un zBX (pv 6))) zB4)) 73 (λ Ω Ω Ω Ω Ω=>zBb) (λ Ω Ω Ω Ω Ω=>(pv 1)) rfl) zAD))))
  (zAE (zAU (pe_op zDb (zA1 (r:=rSlL K) zBZ (pv 0) zB4 (zAs (pe_un zBX (pv 6)))) (zA8 (zAA (zAZ (zAA (pe_op zCB (pv 7) (pv 8)) (zAA (pv 9) zAD)):PE _ _ _) zAD):PE _ _ _)))))))) zAN)⟩)) ⟨zAN⟩)
  ⟨zAE (zAU (pe_op zDb (pv 0) (zA8 (zAA (zAZ (zAA (pe_cl zNU hr (zAA (pe_op zB5 (pv 1) zAH) (zAA (pv 2) (zAA (pv 3) zAD)))) (zAA zAH zAD)):PE _ _ _) zAD):PE _ _ _)))⟩))).un,?_⟩
 have d1:1<=sizeLine:=by decide
 have d2:2<=sizeLine:=by decide
 have z3:(0:Int)<3:=by decide
 have l3:((ws.map V.str).length:Int)=3:=by rw[lE,hw];rfl
 have hlt:=zB8 ts;have hlu:us.length=ts.length:=zAG pr;have c0:=nY c (show (12:Int)≠0 by decide);have c12:=nZ c (show (0:Int)<12 by decide)
 have leafy:∀(H2 H3:Hp) (pl pt:Addr) (t:Tr) (v:V),Same H H2->Same H2 H3->Rep H3 t v->t.size=1->GdT t->H3 pt=none->upd H3 pt (.tup [v,.int 1]) pl=none->∀px,upd (upd H3 pt (.tup [v,.int 1])) pl (.lst [.ref pt]) px=none ->
   Q (.ref px) (upd (upd (upd H3 pt (.tup [v,.int 1])) pl (.lst [.ref pt])) px (.lst (us++[.ref pt]))):=by
  intro H2 H3 pl pt t v g2 g3 rt s1 gt hpt hpl px hpx;have g4:=zAC (o:=.tup [v,.int 1]) hpt;have g5:=zAC (o:=.lst [.ref pt]) hpl;have g6:=zAC (o:=.lst (us++[.ref pt])) hpx;have G:=g2.trans (g3.trans (g4.trans (g5.trans g6)));refine q px (ts++[t]) _ _ G zAB (zAK (Paired.mapP pr λ Ω Ω z=>z.mono G.tk) (.cons ⟨pt,v,1,rfl,g6 _ _ (g5 _ _ zAB),⟨rt.mono (g4.trans (g5.trans g6)).tk,gt⟩⟩ .nil)) ?_;rw[zA2,zAh,zBS]
  lia
 refine⟨_,rfl,_,_,rfl,rfl,(show (0:Int)<12 by decide),_,_,rfl,rfl,?_⟩;dsimp only;generalize hway:c % 12 - 5=way;refine⟨_,rfl,_,_,rfl,rfl,_,rfl,ite2 (λ cw=>?_) (λ Ω=>?_)⟩
 rotate_left
 ·refine⟨_,rfl,_,rfl,_,_,rfl,rfl,⟨(show (0:Int)<12 by decide),(show (12:Int)<1073741824 by decide)⟩,_,rfl,_,rfl,_,l,na,ws,ns,rfl,hl,hw,hgw,hna,hns,λ t v H9 g9 rt s1 gt=>⟨d2,λ pt hpt=>⟨d1,λ pl hpl=>⟨r,pl,us,[.ref pt],rfl,rfl,?_,zAB,?_,λ px hpx=>?_⟩⟩⟩⟩
  ·exact zAC hpl _ _ (zAC hpt _ _ (g9 _ _ hrr))
  ·exact zAf (by simp;lia)
  ·exact leafy _ H9 pl pt t v (.refl _) g9 rt s1 gt hpt hpl px hpx
 have way0:0<=way:=lU cw;obtain⟨kd,hkl,esg,emn⟩:=zLj way0 (show way<=6 by lia);refine⟨(by show 7<=sizeLine;decide),λ p1 hp1=>⟨_,rfl,p1,sgsV,_,_,rfl,rfl,SqL.of zAB,esg,?_⟩⟩;refine⟨(by show 7<=sizeLine;decide),λ p2 hp2=>⟨_,rfl,p2,mnyV,_,_,rfl,rfl,SqL.of zAB,emn,?_⟩⟩;have gq:=(zAC (o:=.lst [.str "say", .str "add", .str "sub", .str "mul", .str "then", .str "if", .str "let"]) hp1).trans (zAC (o:=.lst [.int 1,.int 2,.int 2,.int 2,.int 2,.int 3,.int 2]) hp2);have hl1:=gq _ _ hl;have hna1:=gq _ _ hna;have hr1:=gq _ _ hrr;have pr1:Paired (PR (upd (upd H p1 (.lst [.str "say", .str "add", .str "sub", .str "mul", .str "then", .str "if", .str "let"])) p2 (.lst [.int 1,.int 2,.int 2,.int 2,.int 2,.int 3,.int 2]))) ts us:=Paired.mapP pr λ Ω Ω z=>z.mono gq.tk;generalize upd (upd H p1 _) p2 _=H1 at gq hl1 hna1 hr1 pr1 ⊢;have hn0:0<kd.many:=zKg hkl;have hn3:kd.many<=3:=zEa kd;refine⟨_,rfl,r,_,rfl,.inl (SqL.of hr1),_,rfl,_,_,rfl,rfl,_,rfl,ite2 (λ c1=>?_) (λ Ω=>iteF ?_)⟩
 rotate_left
 ·refine⟨_,rfl,_,rfl,_,_,rfl,rfl,⟨(show (0:Int)<12 by decide),(show (12:Int)<1073741824 by decide)⟩,_,rfl,_,rfl,_,l,na,ws,ns,rfl,hl1,hw,hgw,hna1,hns,λ t v H9 g9 rt s1 gt=>⟨d2,λ pt hpt=>⟨d1,λ pl hpl=>⟨r,pl,us,[.ref pt],rfl,rfl,?_,zAB,?_,λ px hpx=>?_⟩⟩⟩⟩
  ·exact zAC hpl _ _ (zAC hpt _ _ (g9 _ _ hr1))
  ·exact zAf (by simp;lia)
  ·exact leafy _ H9 pl pt t v gq g9 rt s1 gt hpt hpl px hpx
 have hnu:kd.many<=us.length:=by
  have:(kd.many:Int)<=(us.length:Int):=lU c1
  lia
 obtain⟨sp1,sp2⟩:=zCl (us.length - kd.many) pr1;have ct:=zKq (us:=us) hn0 hnu;have ch:=zKr (us:=us) hn0 hnu;obtain⟨tl,etl⟩:∃tl,us.drop (us.length - kd.many)=tl:=72;obtain⟨hd,ehd⟩:∃hd,us.take (us.length - kd.many)=hd:=72;obtain⟨t2,et2⟩:∃t2,ts.drop (us.length - kd.many)=t2:=72;obtain⟨t1,et1⟩:∃t1,ts.take (us.length - kd.many)=t1:=72;have ets:szT ts=szT t1+szT t2:=by rw[←zA2,←et1,←et2,List.take_append_drop]
 have ltl:tl.length=kd.many:=by rw[←etl,mV];lia
 have lhd:hd.length<=us.length:=by rw[←ehd,mN];lia
 rw[etl,et2] at sp2;rw[ehd,et1] at sp1;rw[etl] at ct;rw[ehd] at ch;have lt2:t2.length=kd.many:=by rw[←zAG sp2];exact ltl
 refine⟨_,rfl,_,rfl,_,rfl,_,rfl,r,_,rfl,SqL.of hr1,λ pcM1 hpcM1=>?_⟩;rw[ct];refine⟨pcM1,rfl,⟨_,SqL.of zAB⟩,λ acM1 hacM1=>?_⟩;have gcM1:=zAC (o:=.lst tl) hpcM1;have epcM1:=@zAB H1 pcM1 (.lst tl);have spcM1:Paired (PR (upd H1 pcM1 (.lst tl))) t2 tl:=Paired.mapP sp2 λ Ω Ω z=>z.mono gcM1.tk;generalize upd H1 pcM1 _=GM1 at gcM1 epcM1 spcM1 hacM1 ⊢;refine zBd (xs:=tl) (λ i H'=>Same GM1 H'/\∃ns:List Int,H' acM1=some (.lst (ns.map V.int))/\ns.length=i) ⟨zAC hacM1,[],zAB,rfl⟩ (λ i H' Ω h=>SqL.of (h.1 _ _ epcM1)) ?_ ?_
 ·rintro i x Hx hx ⟨gx,ns,ex,lx⟩
  obtain⟨ti,_,pi,ui,di,rfl,hpi,_⟩:=zAP spcM1 hx;have hi:i<tl.length:=(lK.mp hx).1;refine⟨pi,_,rfl,SqT.of (gx _ _ hpi),rfl,_,_,rfl,_,_,rfl,rfl,.skip (.skip .nil),_,rfl,ns.map V.int,ex,zAR (by rw[lE];lia),zAb gx hacM1,ns++[di],?_,by simp[lx]⟩;rw[zAB,mP];rfl
 rintro H2 ⟨gdM1,nsM1,eaM1,lnsM1⟩;have gM1:=gcM1.trans gdM1;refine⟨acM1,nsM1,rfl,eaM1,by lia,λ MXM1=>?_⟩;refine⟨_,_,rfl,rfl,_,rfl,ite2 (λ Ω=>?_) (λ Ω=>?_)⟩
 rotate_left
 ·refine⟨_,rfl,_,rfl,_,_,rfl,rfl,⟨(show (0:Int)<12 by decide),(show (12:Int)<1073741824 by decide)⟩,_,rfl,_,rfl,_,l,na,ws,ns,rfl,(gM1 _ _ hl1),hw,hgw,(gM1 _ _ hna1),hns,λ t v H9 g9 rt s1 gt=>⟨d2,λ pt hpt=>⟨d1,λ pl hpl=>⟨r,pl,us,[.ref pt],rfl,rfl,?_,zAB,?_,λ px hpx=>?_⟩⟩⟩⟩
  ·exact zAC hpl _ _ (zAC hpt _ _ (g9 _ _ (gM1 _ _ hr1)))
  ·exact zAf (by simp;lia)
  ·exact leafy _ H9 pl pt t v (gq.trans gM1) g9 rt s1 gt hpt hpl px hpx
 have hl2:=gM1 _ _ hl1;have hr2:=gM1 _ _ hr1;have gA:=gq.trans gM1;have sp1':Paired (PR H2) t1 hd:=Paired.mapP sp1 λ Ω Ω z=>z.mono gM1.tk;have sp2':Paired (PR H2) t2 tl:=Paired.mapP sp2 λ Ω Ω z=>z.mono gM1.tk;obtain⟨t,hkt,hpt2,hlx,rept⟩:=node hkl lt2 (nm ws (c / 12 % 3));have szt:t.size<=szT t2+1:=by rw[←zCd t,hpt2];exact lS _
 have gdt:GdT t:=zFZ (λ z=>by rw[hkt] at z;rw[z] at hkl;cases hkl) (λ x' a b e=>by rw[hlx x' a b e];exact hgw _ (nm_in hw _)) (by rw[hpt2];exact zE9 (λ _ _ (⟨_,_,_,_,_,r⟩:PR _ _ _)=>r.2) sp2);have lh:(headV kd (nm ws (c / 12 % 3))).length<=2:=by unfold headV;split<;>simp
 apply viaS (λ σ' H3=>∃(pk:Addr),A3 (σ'=[some (.ref r),some (.int c),some (.ref l),some (.ref na),some (.int way),some (.str kd.s),some (.int (kd.many:Int)),some (.ref pk),none,none]) (Same H2 H3) (H3 pk=some (.tup (headV kd (nm ws (c / 12 % 3))))))
 ·intro rest
  refine⟨_,rfl,d1,λ ph hph=>?_⟩;have g6:=zAC (o:=.tup [.str kd.s]) hph;refine⟨_,rfl,rfl,_,rfl,ite2 (λ c10=>?_) (λ c10=>rest _ _ ⟨ph,rfl,g6,by rw[headV,if_neg (λ z=>c10 (decide_eq_true (by rw[z];rfl)))];exact zAB⟩)⟩;have e10:kd = .lett:=Kd.eq_iff.mp (lU c10);refine⟨_,rfl,_,rfl,_,rfl,_,_,rfl,rfl,⟨(show (0:Int)<12 by decide),(show (12:Int)<1073741824 by decide)⟩,_,rfl,l,_,rfl,.inl (SqL.of (g6 _ _ hl2)),_,_,rfl,rfl,(by rw[l3];exact z3),l,_,_,.str (nm ws (c / 12 % 3)),rfl,rfl,SqL.of (g6 _ _ hl2),(by rw[l3];exact nm3 hw _),d2,λ pk hpk=>?_⟩;exact rest _ _ ⟨pk,rfl,g6.trans (zAC hpk),by rw[headV,if_pos e10];exact zAB⟩
 rintro σ' H3 ⟨pk,rfl,G7,ehh⟩;have hr3:=G7 _ _ hr2;have gB:=gA.trans G7;have sp1'':Paired (PR _) t1 hd:=Paired.mapP sp1' λ Ω Ω z=>z.mono G7.tk;have sp2'':Paired (PR _) t2 tl:=Paired.mapP sp2' λ Ω Ω z=>z.mono G7.tk;refine⟨_,rfl,_,rfl,_,rfl,_,rfl,r,_,rfl,SqL.of hr3,λ pp hpp=>?_⟩;rw[ct];refine⟨pp,rfl,⟨_,SqL.of zAB⟩,λ ac hac=>?_⟩;have g8:=zAC (o:=.lst tl) hpp;have epp:=@zAB H3 pp (.lst tl);have sp2t:Paired (PR (upd H3 pp (.lst tl))) t2 tl:=Paired.mapP sp2'' λ Ω Ω z=>z.mono g8.tk;generalize upd H3 pp _=H4 at g8 epp sp2t hac ⊢;refine zBd (xs:=tl) (λ i H'=>Same H4 H'/\∃us0:List V,H' ac=some (.lst us0)/\Paired (Rep H') (t2.take i) us0) ⟨zAC hac,[],zAB,by rw[List.take_zero];exact .nil⟩ (λ i H' Ω h=>SqL.of (h.1 _ _ epp)) ?_ ?_
 ·rintro i x Hx hx ⟨gx,us0,ex,px⟩
  obtain⟨ti,eti,pi,ui,di,rfl,hpi,ri⟩:=zAP sp2t hx;have hi:i<tl.length:=(lK.mp hx).1;have lu0:us0.length<=i:=by rw[zAG px,mN];lia
  have gx':Same H4 (upd Hx ac (.lst (us0++[ui]))):=zAb gx hac;have tk:Tk Hx (upd Hx ac (.lst (us0++[ui]))):=Tk.lst ex;refine⟨pi,_,rfl,SqT.of (gx _ _ hpi),rfl,_,_,rfl,_,_,rfl,rfl,.skip (.skip .nil),_,rfl,us0,ex,zAR 61,gx',us0++[ui],zAB,?_⟩;rw[zAY eti];exact zAK (Paired.mapP px λ Ω Ω z=>z.mono tk) (.cons (ri.1.mono gx'.tk) .nil)
 rintro H5 ⟨g9,us0,eac,pac⟩;rw[mU 61] at pac;have lu0:us0.length=kd.many:=by rw[zAG pac];exact lt2
 refine⟨ac,us0,rfl,.inl ⟨SqL.of eac,λ pu hpu=>?_⟩⟩;have g10:=zAC (o:=.tup us0) hpu;have G10:=g8.trans (g9.trans g10);have epu:=@zAB H5 pu (.tup us0);have ehh6:=G10 _ _ ehh;have hr6:=G10 _ _ hr3;have pac6:Paired (Rep (upd H5 pu (.tup us0))) t2 us0:=Paired.mapP pac λ Ω Ω z=>z.mono g10.tk;have sp2g:Paired (PR (upd H5 pu (.tup us0))) t2 tl:=Paired.mapP sp2'' λ Ω Ω z=>z.mono G10.tk;have gC:=gB.trans G10;show tSeq _ _ _ _ (upd H5 pu (.tup us0));generalize upd H5 pu _=H6 at G10 epu ehh6 hr6 pac6 sp2g gC ⊢;refine⟨_,rfl,_,rfl,_,rfl,_,rfl,r,_,rfl,SqL.of hr6,λ pcM2 hpcM2=>?_⟩;rw[ct];refine⟨pcM2,rfl,⟨_,SqL.of zAB⟩,λ acM2 hacM2=>?_⟩;have gcM2:=zAC (o:=.lst tl) hpcM2;have epcM2:=@zAB H6 pcM2 (.lst tl);have spcM2:Paired (PR (upd H6 pcM2 (.lst tl))) t2 tl:=Paired.mapP sp2g λ Ω Ω z=>z.mono gcM2.tk;generalize upd H6 pcM2 _=GM2 at gcM2 epcM2 spcM2 hacM2 ⊢;refine zBd (xs:=tl) (λ i H'=>Same GM2 H'/\∃ns:List Int,H' acM2=some (.lst (ns.map V.int))/\ns.length=i) ⟨zAC hacM2,[],zAB,rfl⟩ (λ i H' Ω h=>SqL.of (h.1 _ _ epcM2)) ?_ ?_
 ·rintro i x Hx hx ⟨gx,ns,ex,lx⟩
  obtain⟨ti,_,pi,ui,di,rfl,hpi,_⟩:=zAP spcM2 hx;have hi:i<tl.length:=(lK.mp hx).1;refine⟨pi,_,rfl,SqT.of (gx _ _ hpi),rfl,_,_,rfl,_,_,rfl,rfl,.skip (.skip .nil),_,rfl,ns.map V.int,ex,zAR (by rw[lE];lia),zAb gx hacM2,ns++[di],?_,by simp[lx]⟩;rw[zAB,mP];rfl
 rintro H7 ⟨gdM2,nsM2,eaM2,lnsM2⟩;have gM2:=gcM2.trans gdM2;refine⟨acM2,nsM2,rfl,eaM2,by lia,λ MXM2=>?_⟩;refine⟨_,_,rfl,rfl,?_⟩;have hr7:=gM2 _ _ hr6;have gD:=gC.trans gM2;refine⟨_,rfl,_,rfl,_,rfl,_,rfl,r,_,rfl,SqL.of hr7,λ pq hpq=>?_⟩;rw[ch];have g11:=zAC (o:=.lst hd) hpq;refine⟨_,rfl,_,rfl,pk,pu,_,_,rfl,rfl,g11 _ _ (gM2 _ _ ehh6),g11 _ _ (gM2 _ _ epu),zAf 61,λ px H8 g12 epx=>?_⟩;have epq:=g12 _ _ (zAB (H:=H7) (a:=pq) (o:=.lst hd));refine⟨_,rfl,d2,λ pt hpt=>⟨d1,λ pz hpz=>⟨pq,pz,hd,[.ref pt],rfl,rfl,?_,zAB,zAf (by simp;lia),λ pw hpw=>?_⟩⟩⟩
 ·exact zAC hpz _ _ (zAC hpt _ _ epq)
 have g13:=zAC (o:=.tup [.ref px,.int (1+MXM2)]) hpt;have g14:=zAC (o:=.lst [.ref pt]) hpz;have g15:=zAC (o:=.lst (hd++[.ref pt])) hpw;have G15:=g13.trans (g14.trans g15);have Gz:=gM2.trans (g11.trans g12);have rx:Rep H8 t (.ref px):=rept us0 H8 px (Paired.mapP pac6 λ Ω Ω z=>z.mono Gz.tk) epx;refine q pw (t1++[t]) _ _ (gC.trans (Gz.trans G15)) zAB (zAK (Paired.mapP sp1'' λ Ω Ω z=>z.mono (G10.trans (Gz.trans G15)).tk) (.cons ⟨pt,.ref px,_,rfl,g15 _ _ (g14 _ _ zAB),⟨rx.mono G15.tk,gdt⟩⟩ .nil)) ?_;rw[zA2,zAh,zBS]
 lia
abbrev zDm:Stmt:=top 51
theorem zBT:zAW ["_law_cells", "_law_words_here", "_law_numbers", "_law_stack", "_law_cell", "_law_trees", "_law_paired"] ["_law_cells", "_law_words_here", "_law_numbers"] (zAM zDm):=scI
def zIa (K:W.Frag):Sp:=λ vs H Q Ω=>E6 λ(a l na:Addr) (ns cs:List Int) (ws:List Str)=>A9 (vs=[.ref a,.ref l,.ref na]) (SqL K H a (cs.map V.int)) (cs.length<=40) (H l=some (.lst (ws.map V.str))) (ws.length=3) (∀x∈ws,GW x) (H na=some (.lst (ns.map V.int))) (ns.length=3) (∀(t:Tr) (v:V) (H':Hp),Same H H'->Rep H' t v->t.size<=81->GdT t->Q v H')
def Wt (H0:Hp) (av lv gv:V) (m:Nat) (σ:L2.St) (H:Hp):Prop:=∃(a:Addr) (vs:List V) (ts:List Tr) (s3 s4 s6:Option V),σ=[some av,some lv,some gv,s3,s4,some (.ref a),s6]/\Same H0 H/\H a=some (.lst vs)/\Paired (RG H) ts vs/\ts.length=m/\szT ts+ts.length<=81
theorem zLr (F:Fun K "_law_tree" "_law_tree" zDm f fd) (z_len:mg "len" = none) (z_range:mg "range" = none)
  (zNV:FnB P w K mg base k "_law_more" g1 gd1 ["_law_stack", "_law_cell", "_law_words_here", "_law_numbers"] zIc):FnOk P w K mg base CX0 (k+1) f fd ["_law_cells", "_law_words_here", "_law_numbers"] (zIa K):=by
 refine F.ok zBT 75 66
 ·obtain⟨a,l,na,ns,cs,ws,rfl,_⟩:=h
  rfl
 obtain⟨a,l,na,ns,cs,ws,rfl,hS,h40,hl,hw,hgw,hna,hns,q⟩:=h;have hu0:=nB (hu_of hr)
 refine⟨_,(zAF (pS (i:=3) zBT.nd (zA8 zAD:PE _ _ _))
  (zAF (zAr PassesOwn.never rfl (zBD (pv 0)) (pGn (i:=4) zBT.nd) (zAE (pS (i:=3) zBT.nd (pe_cl zNV hr (zAA (pv 3) (zAA (pv 4) (zAA (pv 1) (zAA (pv 2) zAD))))))))
  (zAF (zF0 (i:=5) zBT.nd rfl (Or.inr rfl) (zBg ["_law_tree_here", "_law_deep"] [none,none] rfl (zBD (pv 3)) 73 (λ Ω Ω Ω Ω Ω=>zBb) (λ Ω Ω Ω Ω Ω=>(pv 0)) rfl))
  (zAF (zCY PassesOwn.never (zAJ op_gt (cL z_len (zAA (pv 5) zAD)) zAH 91) (zAF (zEC (jj:=6) ["_law_k", "_law_trees"] [none,some 5] rfl (zIp 102 z_range (zAA zAH (zAA (pe_op zEX (cL z_len (zAA (pv 5) zAD)) zAH) (zAA zAH zAD)))) (λ Ω Ω Ω Ω Ω=>(zA4 (i:=0) (show List.Nodup (["_law_k", "_law_trees"]:List Str) by right) rfl (Or.inl rfl))) (λ Ω Ω Ω Ω Ω=>zBb) (λ Ω Ω Ω Ω Ω=>(zAZ (zAA zAe (zAA (pe_ix (r:=rIxL K) zAc (pv 1) (pv 0) 76) (zAA (pe_ix (r:=rIxL K) zAc (pv 1) (pe_op zBm (pv 0) zAH) 76) zAD))):PE _ _ _)) rfl zBT.nd rfl (Or.inl rfl) (Or.inr rfl))
  (zAF (ps_if (zAJ op_eq (pe_op zA9 (cL z_len (zAA (pv 5) zAD)) zAH) zAH 91) (zAE (pAp (pv 6) (pe_ix (r:=rIxL K) zAc (pv 5) (pe_un zBX zAH) 76))) zAN)
  (zAE (zF0 (i:=5) zBT.nd rfl (Or.inr rfl) (pv 6))))))
  (zAF (ps_if (zAJ (zIy hu0) (pv 5) (zA8 zAD:PE _ _ _) 91) (zAE (zAU (zAZ (zAA zAe (zAA (iC (r:=rIxL K) zAc (pv 2)) zAD)):PE _ _ _))) zAN)
  (zAE (zAU (iC (r:=rIxL K) zAc (pv 5))))))))),?_⟩
 have d1:1<=sizeLine:=by decide
 have d2:2<=sizeLine:=by decide
 refine⟨94,λ p2 hp2=>?_⟩;have gA:=zAC (o:=.lst []) hp2;refine⟨_,rfl,a,rfl,⟨_,gA.seq hS⟩,?_⟩;refine zBR (xs:=cs.map V.int) (λ i σ' H'=>E4 λ(r:Addr) (us:List V) (ts:List Tr) (s4:Option V)=>A5 (σ'=[some (.ref a),some (.ref l),some (.ref na),some (.ref r),s4,none,none]) (Same H H') (H' r=some (.lst us)) (Paired (PR H') ts us) (szT ts<=i)) ?_ ?_ ?_ ?_
 ·exact⟨p2,[],[],none,rfl,gA,zAB,.nil,by decide⟩
 ·rintro i σ1 H1 _ ⟨r,us,ts,s4,rfl,g3,_⟩
  exact g3.seq hS
 ·rintro i x σ1 H1 hx ⟨r,us,ts,s4,rfl,g3,er,pr,sz⟩
  rw[mJ] at hx;obtain⟨c,hc,rfl⟩:=lX.mp hx;have hi:i<cs.length:=(lK.mp hc).1;refine⟨_,rfl,_,rfl,_,rfl,_,rfl,r,c,l,na,ns,ws,ts,us,rfl,g3 _ _ hl,hw,hgw,g3 _ _ hna,hns,er,pr,by lia,λ r' ts' us' H2 g4 er' pr' sz'=>?_⟩;exact⟨r',us',ts',_,rfl,g3.trans g4,er',pr',by lia⟩
 rintro σ1 H1 ⟨r,us,ts,s4,rfl,g3,er,pr,sz⟩;rw[lE] at sz;have hlt:=zB8 ts;have hlu:us.length=ts.length:=zAG pr;refine⟨_,rfl,r,rfl,⟨_,SqL.of er⟩,λ ac hac=>?_⟩;refine zBd (xs:=us) (λ i H'=>Same H1 H'/\∃us0:List V,H' ac=some (.lst us0)/\Paired (RG H') (ts.take i) us0) ⟨zAC hac,[],zAB,by rw[List.take_zero];exact .nil⟩ (λ i H' Ω h=>SqL.of (h.1 _ _ er)) ?_ ?_
 ·rintro i x Hx hx ⟨gx,us0,ex,px⟩
  obtain⟨ti,eti,pi,ui,di,rfl,hpi,ri⟩:=zAP pr hx;have hi:i<us.length:=(lK.mp hx).1;have lu0:us0.length<=i:=by rw[zAG px,mN];lia
  have gx':Same H1 (upd Hx ac (.lst (us0++[ui]))):=zAb gx hac;have tk:Tk Hx (upd Hx ac (.lst (us0++[ui]))):=Tk.lst ex;refine⟨pi,_,rfl,SqT.of (gx _ _ hpi),rfl,_,_,rfl,_,_,rfl,rfl,.skip (.skip .nil),_,rfl,us0,ex,zAR 61,gx',us0++[ui],zAB,?_⟩;rw[zAY eti];exact zAK (Paired.mapP px λ Ω Ω z=>z.mono tk) (.cons (ri.mono gx'.tk) .nil)
 rintro H4 ⟨g8,us0,eac,pac⟩;rw[mU 61] at pac;refine⟨Wt H (.ref a) (.ref l) (.ref na),⟨_,ac,us0,ts,_,_,_,rfl,g3.trans g8,eac,pac,rfl,by lia⟩,?_⟩;rintro m σ2 H5 ⟨ta,vs,tt,s3,s4,s6,rfl,g9,eta,pt,lm,bd⟩;have lv:vs.length=tt.length:=zAG pt;have hlt2:=zB8 tt;refine⟨_,rfl,ta,_,rfl,.inl (SqL.of eta),_,_,rfl,rfl,_,rfl,ite2 (λ c1=>?_) (λ c1=>?_)⟩
 ·have c1':(1:Int)<(vs.length:Int):=lU c1
  refine⟨λ σ' H'=>∃m',m'<m/\Wt H (.ref a) (.ref l) (.ref na) m' σ' H',λ σ' H' z=>z,?_⟩;refine⟨_,rfl,ta,_,rfl,.inl (SqL.of eta),_,_,rfl,rfl,(vs.length:Int) - 1,rfl,by lia,by lia,λ ad had=>?_⟩;refine zGR (n:=(((vs.length:Int) - 1+1) / 2).toNat) (λ i H'=>Same H5 H'/\∃(js:List Tr) (zs:List V),H' ad=some (.lst zs)/\Paired (RG H') js zs/\js.length=i/\szT js=szT (tt.take (2 * i))+i) ⟨zAC had,[],[],zAB,.nil,rfl,by simp[szT]⟩ ?_ ?_
  ·rintro i Hx hi ⟨gx,js,zs,ez,pz,lj,sj⟩
   have hi2:2 * i+1<vs.length:=by lia
   obtain⟨x,hx⟩:∃x,vs[2 * i]?=some x:=⟨_,lY 61⟩;obtain⟨y,hy⟩:∃y,vs[2 * i+1]?=some y:=⟨_,lY hi2⟩;obtain⟨tx,ex,rx⟩:=zAP pt hx;obtain⟨ty,ey,ry⟩:=zAP pt hy;have i0:(i:Int) * 2=((2 * i:Nat):Int):=by lia
   have i1:(i:Int) * 2+1=((2 * i+1:Nat):Int):=by lia
   have lz:zs.length=i:=by rw[zAG pz,lj]
   refine⟨.skip (.keep .nil),_,rfl,_,rfl,ta,_,_,x,rfl,rfl,SqL.of (gx _ _ eta),by rw[i0];exact zAS hx,_,rfl,_,rfl,_,_,rfl,rfl,ta,_,_,y,rfl,rfl,SqL.of (gx _ _ eta),by rw[i1];exact zAS hy,(by show 3<=sizeLine;decide),λ p hp=>?_⟩;have g10:=zAC (o:=.tup [.str "add", x,y]) hp;have ez':=g10 _ _ ez;have g11:Same H5 (upd (upd Hx p (.tup [.str "add", x,y])) ad (.lst (zs++[.ref p]))):=zAb (gx.trans g10) had;have tk:Tk (upd Hx p (.tup [.str "add", x,y])) (upd (upd Hx p (.tup [.str "add", x,y])) ad (.lst (zs++[.ref p]))):=Tk.lst ez';refine⟨zs,ez',zAR 61,g11,js++[.bin .add tx ty],zs++[.ref p],zAB,?_,by simp[lj],?_⟩
   ·exact zAK (Paired.mapP pz λ Ω Ω z=>z.mono (g10.tk.trans tk)) (.cons (show RG _ (.bin .add tx ty) (.ref p) from⟨⟨p,x,y,rfl,tk _ _ zAB,rx.1.mono g11.tk,ry.1.mono g11.tk⟩,zFZ 87 (λ Ω Ω Ω z=>nomatch z) λ q hq=>by rcases lO.mp hq with rfl|hq;exact rx.2;rw[mQ.mp hq];exact ry.2⟩) .nil)
   ·rw[zA2,zKE ex ey,zA2,zAh,zAh,zAh,zBS,sj]
    show _+(tx.size+ty.size+1+0)=_
    lia
  rintro H6 ⟨g10,js,zs,ez,pz,lj,sj⟩;have hn:(((vs.length:Int) - 1+1) / 2).toNat=vs.length / 2:=by lia
  rw[hn] at lj sj;have lz:zs.length=vs.length / 2:=by rw[zAG pz,lj]
  have hada:H ad=none:=g9.free had;refine⟨_,rfl,ta,_,rfl,.inl (SqL.of (g10 _ _ eta)),_,_,rfl,rfl,(show (0:Int)<2 by decide),rfl,_,rfl,ite2 (λ c2=>?_) (λ c2=>?_)⟩
  ·have c2':(vs.length:Int) % 2=1:=V.int.inj (lU c2)
   obtain⟨x,hx⟩:∃x,vs[vs.length - 1]?=some x:=⟨_,lY 61⟩;obtain⟨tx,ex,rx⟩:=zAP pt hx;have g11:Same H5 (upd H6 ad (.lst (zs++[x]))):=zAb g10 had;have tk:Tk H6 (upd H6 ad (.lst (zs++[x]))):=Tk.lst ez;refine⟨_,rfl,.inl ⟨rfl,_,SqL.of ez⟩,_,rfl,_,rfl,ta,_,_,x,rfl,rfl,SqL.of (g10 _ _ eta),zME (n:=vs.length - 1) 61 hx,ad,_,_,rfl,rfl,ez,zAR 61,?_⟩;refine⟨_,rfl,vs.length / 2+1,by lia,ad,zs++[x],js++[tx],_,_,_,rfl,g9.trans g11,zAB,zAK (Paired.mapP pz λ Ω Ω z=>z.mono tk) (.cons (rx.mono g11.tk) .nil),by simp[lj],?_⟩;have e1:tt.take (vs.length - 1+1)=tt.take (vs.length - 1)++[tx]:=zAY ex;rw[mU 61] at e1
   have e2:szT tt=szT (tt.take (vs.length - 1))+tx.size:=by
    have:=congrArg szT e1;rw[zA2,zAh,zBS] at this
    lia
   have e3:2 * (vs.length / 2)=vs.length - 1:=by lia
   rw[e3] at sj;rw[zA2,zAh,zBS,mK,List.length_singleton,lj,sj]
   lia
  ·have c2':¬(vs.length:Int) % 2=1:=λ z=>c2 (lW (by show V.int _=V.int _;rw[z]))
   have e3:2 * (vs.length / 2)=vs.length:=by lia
   rw[e3,mU 61] at sj;exact⟨_,rfl,vs.length / 2,by lia,ad,zs,js,_,_,_,rfl,g9.trans g10,ez,pz,by lia,by lia⟩
 ·have c1':¬(1:Int)<(vs.length:Int):=λ z=>c1 (lW z)
  refine⟨_,rfl,94,λ pe hpe=>⟨ta,pe,vs,rfl,rfl,zAC hpe _ _ eta,zAB,_,rfl,ite2 (λ c3=>?_) (λ c3=>?_)⟩⟩
  ·obtain⟨m0,em0⟩:=zBi (ns:=ns) (i:=0) 69 61
   refine⟨_,rfl,na,_,0,_,rfl,rfl,SqL.of ((g9.trans (zAC hpe)) _ _ hna),em0,d2,λ p hp=>q (.num m0) _ _ (g9.trans ((zAC hpe).trans (zAC hp))) ⟨p,rfl,zAB⟩ (by show 1<=81;decide) (zFZ 87 (λ Ω Ω Ω z=>nomatch z) (λ p hp=>nomatch hp))⟩
  ·have c3':vs.length≠0:=λ z=>c3 (by rw[z];rfl)
   obtain⟨x,hx⟩:∃x,vs[0]?=some x:=⟨_,lY 61⟩;obtain⟨tx,ex,rx⟩:=zAP pt hx
   have sx:tx.size<=szT tt:=by
    match tt,ex with
    |t::r,ex =>
     have:t=tx:=mG ex;rw[zAh,this]
     lia
   have gp:=zAC (o:=.lst []) hpe;exact⟨_,rfl,ta,_,0,x,rfl,rfl,SqL.of (gp _ _ eta),zAS (j:=0) hx,q tx x _ (g9.trans gp) (rx.1.mono gp.tk) 61 rx.2⟩
abbrev zEM:Stmt:=top 53
theorem zDk:zAW ["_law_name", "_law_bound", "_law_far_here"] ["_law_name", "_law_bound"] (zAM zEM):=scI
abbrev zB2:Stmt:=top 54
theorem zEA:zAW ["_law_found", "_law_due", "_law_here", "_law_there"] ["_law_found", "_law_due", "_law_here", "_law_there"] (zAM zB2):=scI
def zK6:Sp:=λ vs H Q Ω=>E3 λ(x:Str) (a:Addr) (bs:List Str)=>A4 (vs=[.str x,.ref a]) (H a=some (.tup (bs.map V.str))) (bs.length<=300) (Q (.int (farI x bs)) H)
theorem zMl (F:Fun K "_law_far" "_law_far" zEM f fd) (z_len:mg "len" = none):FnOk P w K mg base CX0 (k+1) f fd ["_law_name", "_law_bound"] zK6:=by
 refine F.ok zDk 75 66
 ·obtain⟨x,a,bs,rfl,_⟩:=h
  rfl
 obtain⟨x,a,bs,rfl,ha,lb,q⟩:=h
 refine⟨_,(zAF (pS (i:=2) zDk.nd (pe_op zEX (cL z_len (zAA (pv 1) zAD)) zAH))
  (zAF (zCY PassesOwn.never (zB3 (zAJ op_ge (pv 2) zAH 91) (zBa (zAJ op_ne (pe_ix (r:=rIxT K) zAL (pv 1) (pv 2) 76) (pv 0) 91))).pt (zAE (pS (i:=2) zDk.nd (pe_op zEX (pv 2) zAH))))
  (zAE (zAU (pv 2))))),?_⟩
 refine⟨_,rfl,a,_,rfl,.inr (SqT.of ha),_,_,rfl,rfl,?_⟩;refine⟨λ m σ' H'=>H'=H/\m<=bs.length/\σ'=[some (.str x),some (.ref a),some (.int ((m:Int) - 1))]/\farI x bs=farI x (bs.take m),⟨bs.length,rfl,lS _,by rw[lE];rfl,by rw[mO]⟩,?_⟩;rintro m σ' H' ⟨rfl,hm,rfl,ef⟩;refine⟨_,rfl,_,_,rfl,rfl,_,rfl,ite2 77 77⟩
 ·have c':(0:Int)<=(m:Int) - 1:=lU c
  obtain⟨n,rfl⟩:∃n,m=n+1:=⟨m - 1,by lia⟩;have hn:n<bs.length:=by lia
  have at_:atI (bs.map V.str) (((n+1:Nat):Int) - 1)=some (.str bs[n]):=by
   rw[show ((n+1:Nat):Int) - 1=((n:Nat):Int) by lia];exact zAS (by simp[hn])
  have tk:bs.take (n+1)=bs.take n++[bs[n]]:=zAY (lY hn);have fs:=zJp x bs[n] (bs.take n);rw[←tk,mN,Nat.min_eq_left (Nat.le_of_lt hn)] at fs;refine⟨_,rfl,_,rfl,a,_,_,_,rfl,rfl,SqT.of ha,at_,_,rfl,rfl,_,rfl,ite2 (λ c2=>?_) (λ c2=>?_)⟩
  ·have n2:¬bs[n]=x:=λ z=>by rw[z] at c2;simp at c2
   rw[if_neg n2] at fs;refine⟨λ σ' H''=>∃m',m'<n+1/\H''=H'/\m'<=bs.length/\σ'=[some (.str x),some (.ref a),some (.int ((m':Int) - 1))]/\farI x bs=farI x (bs.take m'),λ σ' H'' z=>z,?_⟩;refine⟨_,rfl,_,_,rfl,rfl,n,by lia,rfl,by lia,?_,ef.trans fs⟩;rw[show ((n+1:Nat):Int) - 1 - 1=(n:Int) - 1 by lia];rfl
  ·have e2:bs[n]=x:=by
    by_cases z:bs[n]=x
    ·exact z
    ·exact absurd (by simp[z]) c2
   rw[if_pos e2] at fs;refine⟨_,rfl,?_⟩;rw[show ((n+1:Nat):Int) - 1=farI x bs by rw[ef,fs];lia];exact q
 ·have c':¬(0:Int)<=(m:Int) - 1:=λ z=>c (lW z)
  have m0:m=0:=by lia
  subst m0;refine iteF ⟨_,rfl,?_⟩;have:farI x bs = -1:=ef;rw[show ((0:Nat):Int) - 1=farI x bs by rw[this];rfl];exact q
def zGg:Sp:=λ vs H Q Ω=>E6 λ(x y:Str) (a b:Addr) (bs cs:List Str)=>A6 (vs=[.str x,.str y,.ref a,.ref b]) (H a=some (.tup (bs.map V.str))) (H b=some (.tup (cs.map V.str))) (bs.length=cs.length) (bs.length<=300) (∀z:Bool,(z=true↔bareN x bs=bareN y cs)->Q (.bl z) H)
theorem zLs (F:Fun K "_law_same_name" "_law_same_name" zB2 f fd) (z_isinstance:mg "isinstance" = none) (z_str:mg "str" = none) (zNW:FnB P w K mg base k "_law_far" g1 gd1 ["_law_name", "_law_bound"] zK6):FnOk P w K mg base CX0 (k+1) f fd ["_law_found", "_law_due", "_law_here", "_law_there"] zGg:=by
 refine F.ok zEA 75 66
 ·obtain⟨x,y,a,b,bs,cs,rfl,_⟩:=h
  rfl
 obtain⟨x,y,a,b,bs,cs,rfl,ha,hb,hl,h300,q⟩:=h
 refine⟨_,(zAF (ps_if (pw_or (zBO (zA7 (cI z_isinstance z_str rM (pv 0)))) (zCF (zAJ op_ne (pe_cl zNW hr (zAA (pv 0) (zAA (pv 2) zAD))) (pe_cl zNW hr (zAA (pv 1) (zAA (pv 3) zAD))) 91))).pt (zAE (zAU pe_bl)) zAN)
  (zAE (zAU (pe_or (zAx op_eq (pv 0) (pv 1) 91) (zCk (zAx op_ge (pe_cl zNW hr (zAA (pv 1) (zAA (pv 3) zAD))) zAH 91)))))),?_⟩
 have fk:=zMA (x:=x) (y:=y) hl;refine⟨_,rfl,.str x, "str", _,true,rfl,.str x,rfl,_,rfl,iteF ?_⟩;refine⟨_,rfl,_,rfl,x,a,bs,rfl,ha,h300,_,rfl,_,rfl,y,b,cs,rfl,hb,by lia,rfl,_,rfl,ite2 77 77⟩
 ·refine q false ⟨87,λ z=>?_⟩
  have:=(fk.mp z).1;rw[this] at c;simp at c
 ·have c':farI x bs=farI y cs:=by
   by_cases z:farI x bs=farI y cs
   ·exact z
   ·exact absurd (by simp[z]) c
  refine⟨_,rfl,_,rfl,rfl,_,rfl,ite2 (λ c2=>?_) (λ c2=>?_)⟩
  ·have:x=y:=V.str.inj (lU c2)
   exact q true ⟨λ Ω=>fk.mpr ⟨c',.inl this⟩,λ Ω=>rfl⟩
  ·have n2:¬x=y:=λ z=>c2 (lW (by rw[z]))
   refine⟨_,rfl,_,rfl,y,b,cs,rfl,hb,by lia,_,_,rfl,rfl,q _ ?_⟩;rw[decide_eq_true_iff,fk];exact⟨λ z=>⟨c',.inr z⟩,λ z=>z.2.resolve_left n2⟩
abbrev zCS:Stmt:=top 55
theorem zD3:zAW ["_law_found", "_law_due", "_law_here", "_law_there", "_law_k"] ["_law_found", "_law_due", "_law_here", "_law_there"] (zAM zCS):=scI
def zB0 (n:Nat):Sp:=λ vs H Q Ω=>E8 λ(t u:Tr) (v1 v2:V) (a b:Addr) (bs cs:List Str)=>A11 (vs=[v1,v2,.ref a,.ref b]) (Rep H t v1) (Rep H u v2) (GdT t) (GdT u) (H a=some (.tup (bs.map V.str))) (H b=some (.tup (cs.map V.str))) (bs.length=cs.length) (bs.length+t.size<=250) (t.size<=n) (∀(z:Bool) (H':Hp),Same H H'->(z=true↔bare t bs=bare u cs)->Q (.bl z) H')
theorem zI7 (F:Fun K "_law_alike" "_law_alike" zCS f fd) (z_bool:mg "bool" = none) (z_int:mg "int" = none) (z_isinstance:mg "isinstance" = none) (z_len:mg "len" = none) (z_range:mg "range" = none) (z_str:mg "str" = none) (z_tuple:mg "tuple" = none)
  (zNX:FnB P w K mg base k "_law_is_word" g1 gd1 ["_law_found"] zEK) (zNY:FnB P w K mg base k "_law_same_name" g2 gd2 ["_law_found", "_law_due", "_law_here", "_law_there"] zGg)
  (zNZ:FnB P w K mg base k "_law_alike" f fd ["_law_found", "_law_due", "_law_here", "_law_there"] (zB0 n)):FnOk P w K mg base CX0 (k+1) f fd ["_law_found", "_law_due", "_law_here", "_law_there"] (zB0 (n+1)):=by
 refine F.ok zD3 75 66
 ·obtain⟨t,u,v1,v2,a,b,bs,cs,rfl,_⟩:=h
  rfl
 obtain⟨t,u,v1,v2,a,b,bs,cs,rfl,r1,r2,gt,gu,ha,hb,hbc,h250,hn,q⟩:=h;have hu5:=hu150 hr
 refine⟨_,(Sd.un (zAI (zBM ⟨(pw_or (zBO (zA7 (cI z_isinstance z_tuple rH (pv 0)))) (zCF (zAJ op_ne (cL z_len (zAA (pv 0) zAD)) (cL z_len (zAA (pv 1) zAD)) 91))).pt⟩ (zAi (zAn ⟨pe_bl⟩)) ⟨zAN⟩)
  (zAI (zBM ⟨(pw_or (zBO (zA7 (cI z_isinstance z_str rM 67))) (zCF (zAJ op_ne 67 80 91))).pt⟩ (zAi (zAn ⟨pe_bl⟩)) ⟨zAN⟩)
  (zAI (zBM ⟨zAJ op_eq 80 zAe 91⟩ (zAi (zAn ⟨zF4 (cI z_isinstance z_int PyProof.Rows.boot_int 67) (zF4 (zMc (cI z_isinstance z_bool PyProof.Rows.boot_bool 67)) (zCk (zAx op_eq 67 80 91)))⟩)) ⟨zAN⟩)
  (zAI (zBM ⟨zAJ op_eq 80 zAe 91⟩ (zAi (zAn ⟨pe_cl zNY hr (zAA 67 (zAA 80 (zAA (pv 2) (zAA (pv 3) zAD))))⟩)) ⟨zAN⟩)
  (zAI (zBM ⟨(pw_or (zAJ op_eq 80 zAe 91) (zCF (zAJ op_eq 80 zAe 91))).pt⟩ (zAi (zAn ⟨zF4 (cI z_isinstance z_str rM 67) (zCk (zAx op_eq 67 80 91))⟩)) ⟨zAN⟩)
  (zAI (zBM ⟨zAJ op_eq 80 zAe 91⟩ (zAi (zAn ⟨zF4 (cI z_isinstance z_str rM 67) (zCk (zAx (zHZ hu5) (pv 0) (pv 1) 91))⟩)) ⟨zAN⟩)
  (zAI (zBM ⟨zAJ op_eq 80 zAe 91⟩ (zAI (zBM ⟨(pw_or (zBO (zA7 (pe_cl zNX hr (zAA 67 zAD)))) (zCF (zBO (zA7 (pe_cl zNZ hr (zAA 67 (zAA 80 (zAA (pv 2) (zAA (pv 3) zAD))))))))).pt⟩ (zAi (zAn ⟨pe_bl⟩)) ⟨zAN⟩)
  (zAi (zAn ⟨pe_cl zNZ hr (zAA 67 (zAA 80 (zAA (pe_op zCB (pv 2) (zAZ (zAA 67 zAD):PE _ _ _)) (zAA (pe_op zCB (pv 3) (zAZ (zAA 80 zAD):PE _ _ _)) zAD))))⟩))) ⟨zAN⟩)
  (zAI ⟨zAr PassesOwn.never rfl (zEP 102 z_range (zAA zAH (zAA (cL z_len (zAA (pv 1) zAD)) zAD))) (pGn (i:=4) zD3.nd) (zAE (ps_if (zBO (zA7 (pe_cl zNZ hr (zAA (pe_ix (r:=rIxT K) zAL (pv 0) (pv 4) 76) (zAA (pe_ix (r:=rIxT K) zAL (pv 1) (pv 4) 76) (zAA (pv 2) (zAA (pv 3) zAD))))))) (zAE (zAU pe_bl)) zAN))⟩
  (zAi (zAn ⟨pe_bl⟩))))))))))),?_⟩
 have q1:=r1;have q2:=r2;obtain⟨p1,hs1,us1,rfl,h1,hh1,pp1⟩:=r1.all;obtain⟨p2,hs2,us2,rfl,h2,hh2,pp2⟩:=r2.all;have at1:atI (V.str t.kd.s::hs1++us1) 0=some (.str t.kd.s):=zAS (j:=0) rfl;have at2:atI (V.str u.kd.s::hs2++us2) 0=some (.str u.kd.s):=zAS (j:=0) rfl;have lp1:=zAG pp1;have lp2:=zAG pp2;refine⟨_,rfl,.ref p1, "tuple", _,true,rfl,.tup h1,rfl,_,rfl,iteF ?_⟩;refine⟨_,rfl,p1,_,rfl,.inr (SqT.of h1),_,rfl,p2,_,rfl,.inr (SqT.of h2),rfl,_,rfl,ite2 77 (λ Ω=>?_)⟩
 ·refine q false H (.refl _) ⟨87,λ z=>?_⟩
  have hk:=zG3 z;have e1:=zL6 hk;have e2:t.parts.length=u.parts.length:=by rw[zBc,zBc,hk]
  have e3:(V.str t.kd.s::hs1++us1).length=(V.str u.kd.s::hs2++us2).length:=by simp only[mK,mM];lia
  have e4:(V.str t.sign::hs1++us1).length=(V.str u.sign::hs2++us2).length:=e3;rw[e4] at c;simp at c
 refine⟨_,rfl,p1,_,0,_,rfl,rfl,SqT.of h1,at1,.str _, "str", _,true,rfl,.str _,rfl,_,rfl,iteF ?_⟩;refine⟨_,rfl,p1,_,0,_,rfl,rfl,SqT.of h1,at1,_,rfl,p2,_,0,_,rfl,rfl,SqT.of h2,at2,rfl,_,rfl,ite2 77 77⟩
 ·refine q false H (.refl _) ⟨87,λ z=>?_⟩
  rw[zG3 z] at c;simp at c
 have hk:t.kd=u.kd:=by
  by_cases z:t.kd=u.kd
  ·exact z
  ·have:¬V.str t.kd.s=V.str u.kd.s:=λ y=>z (Kd.eq_iff.mp y)
   exact absurd (by simp[this]) c
 have leaf2:∀{x:V}{pp:Addr}{y:Str},H pp=some (.tup [.str y,x])->atI [V.str y,x] 1=some x:=λ Ω=>zAS (j:=1) rfl;refine⟨_,rfl,p2,_,0,_,rfl,rfl,SqT.of h2,at2,rfl,_,rfl,ite2 77 (λ c0=>?_)⟩
 ·have z:u.kd = .num:=Kd.eq_iff.mp (lU c)
  rw[z] at hk;obtain⟨m,rfl⟩:=kdS (k:=.num) z;obtain⟨n',rfl⟩:=kdS (k:=.num) hk;obtain⟨_,e1,k1⟩:=q1;cases e1;obtain⟨_,e2,k2⟩:=q2;cases e2;refine⟨_,rfl,p1,_,1,_,rfl,rfl,SqT.of k1,leaf2 k1,.int n', "int", _,true,rfl,.int n',rfl,_,rfl,iteT ?_⟩;refine⟨_,rfl,p1,_,1,_,rfl,rfl,SqT.of k1,leaf2 k1,.int n', "bool", _,false,rfl,.int n',rfl,_,rfl,_,rfl,iteT ?_⟩;refine⟨_,rfl,p1,_,1,_,rfl,rfl,SqT.of k1,leaf2 k1,_,rfl,p2,_,1,_,rfl,rfl,SqT.of k2,leaf2 k2,rfl,q _ H (.refl _) ?_⟩;simp[bare]
 refine⟨_,rfl,p2,_,0,_,rfl,rfl,SqT.of h2,at2,rfl,_,rfl,ite2 77 (λ c1=>?_)⟩
 ·have z:u.kd = .name:=Kd.eq_iff.mp (lU c)
  rw[z] at hk;obtain⟨m,rfl⟩:=kdS (k:=.name) z;obtain⟨n',rfl⟩:=kdS (k:=.name) hk;obtain⟨_,e1,k1⟩:=q1;cases e1;obtain⟨_,e2,k2⟩:=q2;cases e2;refine⟨_,rfl,p1,_,1,_,rfl,rfl,SqT.of k1,leaf2 k1,_,rfl,p2,_,1,_,rfl,rfl,SqT.of k2,leaf2 k2,_,rfl,_,rfl,n',m,a,b,bs,cs,rfl,ha,hb,hbc,by lia,λ z hz=>q z H (.refl _) hz⟩
 refine⟨_,rfl,p2,_,0,_,rfl,rfl,SqT.of h2,at2,rfl,_,rfl,ite2 (λ c=>iteT ?_) (λ c2=>⟨_,rfl,p2,_,0,_,rfl,rfl,SqT.of h2,at2,rfl,_,rfl,ite2 77 (λ c3=>?_)⟩)⟩
 ·have z:u.kd = .ask:=Kd.eq_iff.mp (lU c)
  rw[z] at hk;obtain⟨m,rfl⟩:=kdS (k:=.ask) z;obtain⟨n',rfl⟩:=kdS (k:=.ask) hk;obtain⟨_,e1,k1⟩:=q1;cases e1;obtain⟨_,e2,k2⟩:=q2;cases e2;refine⟨_,rfl,p1,_,1,_,rfl,rfl,SqT.of k1,leaf2 k1,.str n', "str", _,true,rfl,.str n',rfl,_,rfl,iteT ?_⟩;refine⟨_,rfl,p1,_,1,_,rfl,rfl,SqT.of k1,leaf2 k1,_,rfl,p2,_,1,_,rfl,rfl,SqT.of k2,leaf2 k2,rfl,q _ H (.refl _) ?_⟩;simp[bare]
 ·have z:u.kd = .stop:=Kd.eq_iff.mp (lU c)
  rw[z] at hk;obtain⟨m,rfl⟩:=kdS (k:=.stop) z;obtain⟨n',rfl⟩:=kdS (k:=.stop) hk;obtain⟨_,e1,k1⟩:=q1;cases e1;obtain⟨_,e2,k2⟩:=q2;cases e2;refine⟨_,rfl,p1,_,1,_,rfl,rfl,SqT.of k1,leaf2 k1,.str n', "str", _,true,rfl,.str n',rfl,_,rfl,iteT ?_⟩;refine⟨_,rfl,p1,_,1,_,rfl,rfl,SqT.of k1,leaf2 k1,_,rfl,p2,_,1,_,rfl,rfl,SqT.of k2,leaf2 k2,rfl,q _ H (.refl _) ?_⟩;simp[bare]
 refine⟨_,rfl,p2,_,0,_,rfl,rfl,SqT.of h2,at2,rfl,_,rfl,ite2 (λ c=>absurd (Kd.eq_iff.mp (lU c)) (gu _ (zBj _)).1) (λ Ω=>?_)⟩;refine⟨_,rfl,p2,_,0,_,rfl,rfl,SqT.of h2,at2,rfl,_,rfl,ite2 77 (λ c5=>?_)⟩
 ·have z:u.kd = .lett:=Kd.eq_iff.mp (lU c)
  rw[z] at hk;obtain⟨y,u1,u2,rfl⟩:=kdS (k:=.lett) z;obtain⟨x,t1,t2,rfl⟩:=kdS (k:=.lett) hk;have gx:GW x:=(gt _ (zBj _)).2 x t1 t2 rfl;have hsz:(Tr.lett x t1 t2).size=t1.size+t2.size+1:=rfl;obtain⟨_,w1,w2,e1,k1,ra1,ra2⟩:=q1;cases e1;obtain⟨_,w3,w4,e2,k2,rb1,rb2⟩:=q2;cases e2;have m1:t1∈(Tr.lett x t1 t2).parts:=by simp[Tr.parts]
  have m2:t2∈(Tr.lett x t1 t2).parts:=by simp[Tr.parts]
  have m3:u1∈(Tr.lett y u1 u2).parts:=by simp[Tr.parts]
  have m4:u2∈(Tr.lett y u1 u2).parts:=by simp[Tr.parts]
  have b1:atI [V.str "let", .str x,w1,w2] 1=some (.str x):=zAS (j:=1) rfl;have b2:atI [V.str "let", .str x,w1,w2] 2=some w1:=zAS (j:=2) rfl;have b3:atI [V.str "let", .str x,w1,w2] 3=some w2:=zAS (j:=3) rfl;have b4:atI [V.str "let", .str y,w3,w4] 1=some (.str y):=zAS (j:=1) rfl;have b5:atI [V.str "let", .str y,w3,w4] 2=some w3:=zAS (j:=2) rfl;have b6:atI [V.str "let", .str y,w3,w4] 3=some w4:=zAS (j:=3) rfl;have eb:bare (.lett x t1 t2) bs=bare (.lett y u1 u2) cs↔bare t1 bs=bare u1 cs/\bare t2 (bs++[x])=bare u2 (cs++[y]):=by simp[bare]
  refine⟨_,rfl,p1,_,1,_,rfl,rfl,SqT.of k1,b1,x,rfl,gx,λ H1 g1=>⟨_,rfl,iteF ?_⟩⟩;refine⟨_,rfl,p1,_,2,_,rfl,rfl,SqT.of (g1 _ _ k1),b2,_,rfl,p2,_,2,_,rfl,rfl,SqT.of (g1 _ _ k2),b5,_,rfl,_,rfl,t1,u1,w1,w3,a,b,bs,cs,rfl,ra1.mono g1.tk,rb1.mono g1.tk,gt.part m1,gu.part m3,g1 _ _ ha,g1 _ _ hb,hbc,by lia,by lia,λ z H2 g2 hz=>⟨z,rfl,?_⟩⟩;have g12:=g1.trans g2;cases z with
  |false=>exact iteT (q false H2 g12 ⟨87,λ z=>nomatch hz.mpr (eb.mp z).1⟩)
  |true =>
   have hz1:=hz.mp rfl;refine iteF ?_;refine⟨_,rfl,p1,_,3,_,rfl,rfl,SqT.of (g12 _ _ k1),b3,_,rfl,p2,_,3,_,rfl,rfl,SqT.of (g12 _ _ k2),b6,_,rfl,_,rfl,p1,_,1,_,rfl,rfl,SqT.of (g12 _ _ k1),b1,(by show 1<=sizeLine;decide),λ pa hpa=>?_⟩;have a1:=zAC (o:=.tup [.str x]) hpa;refine⟨a,pa,_,_,rfl,rfl,(g12.trans a1) _ _ ha,zAB,zAf (by simp;lia),λ pA HA gA eA=>?_⟩;have g13:=g12.trans (a1.trans gA);refine⟨_,rfl,_,rfl,p2,_,1,_,rfl,rfl,SqT.of (g13 _ _ k2),b4,(by show 1<=sizeLine;decide),λ pb hpb=>?_⟩;have a2:=zAC (o:=.tup [.str y]) hpb;refine⟨b,pb,_,_,rfl,rfl,(g13.trans a2) _ _ hb,zAB,zAf (by simp;lia),λ pB HB gB eB=>?_⟩;have g14:=g13.trans (a2.trans gB);refine⟨t2,u2,w2,w4,pA,pB,bs++[x],cs++[y],rfl,ra2.mono g14.tk,rb2.mono g14.tk,gt.part m2,gu.part m4,by rw[mP];exact(a2.trans gB) _ _ eA,by rw[mP];exact eB,by simp[hbc],by simp;lia,by lia,λ z H3 g3 hz3=>q z H3 (g14.trans g3) ?_⟩;rw[hz3,eb];exact⟨λ h=>⟨hz1,h⟩,λ h=>h.2⟩
 have nd:Nd t:=by
  rw[Nd,hk];refine⟨?_,λ z=>c5 (lW (by rw[z];rfl))⟩;cases e:u.kd with
  |num=>exact absurd (lW (by rw[e];rfl)) c0
  |name=>exact absurd (lW (by rw[e];rfl)) c1
  |ask=>exact absurd (lW (by rw[e];rfl)) c2
  |stop=>exact absurd (lW (by rw[e];rfl)) c3
  |gap=>exact absurd e (gu _ (zBj _)).1
  |_=>rfl
 have nu:Nd u:=by rw[Nd,←hk];exact nd
 obtain⟨_,ws1,e1,k1,pa1⟩:=nd.rep q1;cases e1;obtain⟨_,ws2,e2,k2,pa2⟩:=nu.rep q2;cases e2;have l1:=zAG pa1;have l2:=zAG pa2;have m1:=zBc t;have m2:=zBc u;have m3:=zEa t.kd;rw[←hk] at m2;have ln:(V.str u.kd.s::ws2).length=t.kd.many+1:=by rw[mM];lia
 have bn:=zJ6 (bs:=bs) (cs:=cs) hk nd.1 nd.2;refine⟨_,rfl,p2,_,rfl,.inr (SqT.of k2),1,_,rfl,⟨by decide,by decide,by rw[ln];lia,by rw[ln];lia⟩,?_⟩;refine zBo (lo:=1) (n:=(((V.str u.kd.s::ws2).length:Int) - 1).toNat) (λ i σ' H'=>∃(s4:Option V),A3 (σ'=[some (.ref p1),some (.ref p2),some (.ref a),some (.ref b),s4]) (Same H H') (∀(j:Nat) (p q:Tr),j<i->t.parts[j]?=some p->u.parts[j]?=some q->bare p bs=bare q cs)) ⟨none,rfl,.refl _,(λ j p q h=>absurd h (Nat.not_lt_zero _))⟩ ?_ ?_
 ·rintro i σ' H' hi ⟨s4,rfl,g,hall⟩
  rw[ln] at hi;have hi':i<t.kd.many:=by lia
  obtain⟨x1,hx1⟩:∃x1,ws1[i]?=some x1:=⟨_,lY 61⟩;obtain⟨x2,hx2⟩:∃x2,ws2[i]?=some x2:=⟨_,lY 61⟩;obtain⟨ti,eti,rti⟩:=zAP pa1 hx1;obtain⟨ui,eui,rui⟩:=zAP pa2 hx2;have i1:(1:Int)+(i:Int)=((i+1:Nat):Int):=by lia
  have b1:atI (V.str t.kd.s::ws1) (1+(i:Int))=some x1:=by rw[i1];exact zAS (j:=i+1) (by simpa using hx1)
  have b2:atI (V.str u.kd.s::ws2) (1+(i:Int))=some x2:=by rw[i1];exact zAS (j:=i+1) (by simpa using hx2)
  have sz:=zAv (lN eti);refine⟨_,rfl,_,rfl,p1,_,_,_,rfl,rfl,SqT.of (g _ _ k1),b1,_,rfl,_,rfl,p2,_,_,_,rfl,rfl,SqT.of (g _ _ k2),b2,_,rfl,_,rfl,ti,ui,x1,x2,a,b,bs,cs,rfl,rti.mono g.tk,rui.mono g.tk,gt.part (lN eti),gu.part (lN eui),g _ _ ha,g _ _ hb,hbc,by lia,by lia,λ z H2 g2 hz=>⟨z,rfl,?_⟩⟩;cases z with
  |false=>exact iteT (q false H2 (g.trans g2) ⟨87,λ z=>nomatch hz.mpr (bn.mp z i ti ui eti eui)⟩)
  |true =>
   refine iteF ⟨_,rfl,g.trans g2,λ j p q hj hp hq=>?_⟩
   by_cases e:j=i
   ·subst e
    rw[eti] at hp;rw[eui] at hq;cases hp;cases hq;exact hz.mp rfl
   ·exact hall j p q 61 hp hq
 ·rintro σ' H' ⟨s4,rfl,g,hall⟩
  rw[ln] at hall;refine q true H' g ⟨λ Ω=>bn.mpr λ i p q hp hq=>hall i p q ?_ hp hq,λ Ω=>rfl⟩;have:=(lK.mp hp).1
  lia
theorem zGv {k:Nat}{f:Addr}{fd:FuncData}:FnOk P w K mg base CX0 k f fd ["_law_found", "_law_due", "_law_here", "_law_there"] (zB0 0):=by
 have no:∀vs H Q E,¬zB0 0 vs H Q E:=λ vs H Q E h=>by
  obtain⟨t,u,v1,v2,a,b,bs,cs,_,_,_,_,_,_,_,_,_,hn,_⟩:=h;have:=zA3 t
  lia
 exact⟨λ vs H Q E h=>absurd h (no vs H Q E),λ A outer s H args us vs Q E Ω Ω Ω Ω h=>absurd h (no vs H Q E)⟩
theorem zFJ (F:Fun K "_law_alike" "_law_alike" zCS f fd) (bd:Binds K fd ["_law_found", "_law_due", "_law_here", "_law_there"] []) (m:mg "_law_alike" = some (.ref f)) (z_bool:mg "bool" = none) (z_int:mg "int" = none) (z_isinstance:mg "isinstance" = none) (z_len:mg "len" = none) (z_range:mg "range" = none) (z_str:mg "str" = none) (z_tuple:mg "tuple" = none)
  (G1:FnB P w K mg base k "_law_is_word" g1 gd1 ["_law_found"] zEK) (G2:FnB P w K mg base k "_law_same_name" g2 gd2 ["_law_found", "_law_due", "_law_here", "_law_there"] zGg):∀n:Nat,FnB P w K mg base (k+n) "_law_alike" f fd ["_law_found", "_law_due", "_law_here", "_law_there"] (zB0 n)
 |0=>⟨zGv,bd,F.kp,m⟩
 |n+1=>⟨zI7 F z_bool z_int z_isinstance z_len z_range z_str z_tuple (G1.up (Nat.le_add_right _ _)) (G2.up (Nat.le_add_right _ _)) (zFJ F bd m z_bool z_int z_isinstance z_len z_range z_str z_tuple G1 G2 n),bd,F.kp,m⟩
abbrev zDp:Stmt:=top 56
theorem zDD:zAW ["_law_gap", "_law_tree_here", "_law_kinds_here", "_law_other", "_law_kind_here"] ["_law_gap", "_law_tree_here", "_law_kinds_here"] (zAM zDp):=scI
theorem kd_kv {kds:List (Str × Str)}(nd:(kds.map (·.1)).Nodup) (kn:∀p∈kds,KdN p.2) (g:Str):KdV (wKd kds g):=by
 by_cases h:∃p∈kds,p.1=g
 ·obtain⟨p,hp,rfl⟩:=h
  rw[zG9 nd hp];rcases kn p hp with z|z
  ·exact .inr (.inl (by rw[z]))
  ·exact .inr (.inr (by rw[z]))
 ·exact .inl (zKw nd λ p hp z=>h ⟨p,hp,z⟩)
def zGh:Sp:=λ vs H Q Ω=>E5 λ(g:Str) (v:V) (ka:Addr) (t:Tr) (kds:List (Str × Str))=>A8 (vs=[.str g,v,.ref ka]) (KdsAt H ka kds) ((kds.map (·.1)).Nodup) (∀p∈kds,KdN p.2) (Rep H t v) (GdT t) (t.size<=82) (∀(z:Bool) (H':Hp),Same H H'->(z=true↔OfK (wKd kds g) t)->Q (.bl z) H')
theorem zLy (F:Fun K "_law_kind" "_law_kind" zDp f fd) (zNO:FnB P w K mg base k "_law_is_loud" g1 gd1 ["_law_shape_here"] (zC9 82)):FnOk P w K mg base CX0 (k+1) f fd ["_law_gap", "_law_tree_here", "_law_kinds_here"] zGh:=by
 refine F.ok zDD 75 66
 ·obtain⟨g,v,ka,t,kds,rfl,_⟩:=h
  rfl
 obtain⟨g,v,ka,t,kds,rfl,⟨o,ys,hka,hod,pk⟩,nd,kn,rt,gt,hsz,q⟩:=h
 refine⟨_,(zAF (zAr PassesOwn.never rfl (zE4 (pv 2)) (zCG rfl (zAa (pGn (i:=3) zDD.nd) (zAa (pGn (i:=4) zDD.nd) zBK))) (zAF (ps_if (zB3 (zAJ op_eq (pv 3) (pv 0) 91) (zB3 (zAJ op_eq (pv 4) zAe 91) (zBa (zAJ op_ne 80 zAe 91)))).pt (zAE (zAU pe_bl)) zAN)
  (zAE (ps_if (zB3 (zAJ op_eq (pv 3) (pv 0) 91) (zBa (zA7 (pe_cl zNO hr (zAA (pv 1) zAD))))).pt (zAE (zAU pe_bl)) zAN))))
  (zAE (zAU pe_bl))),?_⟩
 have lk:=pk.length;have lkd:(kdV kds).length=kds.length:=by unfold kdV;rw[lE]
 have sq:∀{H':Hp},Same H H'->SqT K H' ka ys:=λ g=>.inl (.inr ⟨o,g _ _ hka⟩);refine⟨_,rfl,ka,rfl,⟨ys,sq (.refl _)⟩,?_⟩;refine zFa (xs:=ys) (λ i σ' H'=>E2 λ(s3 s4:Option V)=>A3 (σ'=[some (.str g),some v,some (.ref ka),s3,s4]) (Same H H') (∀p∈kds.take i,p.1=g->KOk p.2 t)) ⟨none,none,rfl,.refl _,(λ p hp=>nomatch hp)⟩ ?_ ?_ ?_
 ·rintro i σ' H' _ ⟨s3,s4,rfl,gg,_⟩
  exact sq gg
 ·rintro i x σ' H' hx ⟨s3,s4,rfl,gg,hall⟩
  have hi:i<ys.length:=(lK.mp hx).1;obtain⟨p,hp⟩:∃p,kds[i]?=some p:=⟨_,lY 61⟩;have hpm:=lN hp
  obtain⟨b,rfl,hb⟩:∃b,x = .ref b/\H b=some (.tup [.str p.1,.str p.2]):=by
   have hk:(kdV kds)[i]?=some ((Sum.inr p.1:Key),V.str p.2):=by unfold kdV;rw[mJ,hp];rfl
   have:∀{ys:List V}{ks:List (Key × V)},Paired (PrV H) ys ks->∀{i:Nat}{x:V}{y:Key × V},ys[i]?=some x->ks[i]?=some y->PrV H x y:=by
    intro ys ks h
    induction h with
    |nil=>intro i x y hx;simp at hx
    |cons r _ ih =>
     intro i x y hx hy
     match i with
     |0=>cases hx;cases hy;exact r
     |j+1=>exact ih (i:=j) (by simpa using hx) (by simpa using hy)
   obtain⟨b,e,h⟩:=this pk hx hk;exact⟨b,e,h⟩
  have htk:=zAY hp;obtain⟨pa,hs,us,rfl,hpa,_,_⟩:=(rt.mono gg.tk).all;have at0:atI (V.str t.kd.s::hs++us) 0=some (.str t.kd.s):=zAS (j:=0) rfl;refine⟨b,_,rfl,SqT.of (gg _ _ hb),rfl,_,_,rfl,_,_,rfl,rfl,?_⟩;apply viaP (λ H2=>H2=H'/\(p.1=g->p.2 = "number" -> t.kd = .num))
  ·intro rest
   refine⟨_,rfl,_,rfl,rfl,_,rfl,ite2 (λ c1=>⟨_,rfl,rfl,_,rfl,ite2 (λ c2=>⟨_,rfl,pa,_,0,_,rfl,rfl,SqT.of hpa,at0,rfl,_,rfl,ite2 (λ c3=>?_) (λ c3=>?_)⟩) (λ c2=>iteF (rest H' ⟨rfl,λ Ω z=>absurd (lW (by rw[z])) c2⟩))⟩) (λ c1=>iteF (rest H' ⟨rfl,λ z=>absurd (lW (by rw[z])) c1⟩))⟩
   ·have e1:p.1=g:=V.str.inj (lU c1)
    have e2:p.2 = "number" := V.str.inj (lU c2);refine q false H' gg ⟨87,λ z=>?_⟩
    rw[←e1,zG9 nd hpm] at z;have:=((zJT gt (kn p hpm)).mpr z).1 e2;rw[this] at c3;exact absurd c3 (by right)
   ·refine rest H' ⟨rfl,λ Ω Ω=>?_⟩
    by_cases z:t.kd = .num
    ·exact z
    ·have:¬V.str t.kd.s=V.str "num" := λ y=>z (Kd.eq_iff (b:=.num) |>.mp y)
     exact absurd (by simp[this]) c3
  rintro H2 ⟨rfl,hnum⟩;refine⟨_,rfl,_,rfl,rfl,_,rfl,ite2 (λ c1=>?_) (λ c1=>iteF ⟨_,_,rfl,gg,λ r hr hg=>?_⟩)⟩
  ·have e1:p.1=g:=V.str.inj (lU c1)
   refine⟨_,rfl,t,_,rfl,hsz,rt.mono gg.tk,λ b H3 g3 hb=>⟨b,rfl,ite2 (λ z=>?_) (λ z=>⟨_,_,rfl,gg.trans g3,λ r hr hg=>?_⟩)⟩⟩
   ·refine q false H3 (gg.trans g3) ⟨87,λ y=>?_⟩
    rw[←e1,zG9 nd hpm] at y;exact absurd (hb.mp z) ((zJT gt (kn p hpm)).mpr y).2
   ·rw[htk] at hr
    rcases lM.mp hr with h|h
    ·exact hall r h hg
    ·rw[mQ.mp h]
     exact⟨hnum e1,λ y=>z (hb.mpr y)⟩
  ·rw[htk] at hr
   rcases lM.mp hr with h|h
   ·exact hall r h hg
   ·rw[mQ.mp h] at hg
    exact absurd (lW (by rw[hg])) c1
 ·rintro σ' H' ⟨s3,s4,rfl,gg,hall⟩
  rw[mU 61] at hall;refine q true H' gg ⟨λ Ω=>?_,λ Ω=>rfl⟩
  by_cases h:∃p∈kds,p.1=g
  ·obtain⟨p,hp,rfl⟩:=h
   rw[zG9 nd hp];exact(zJT gt (kn p hp)).mp (hall p hp rfl)
  ·rw[zKw nd λ p hp z=>h ⟨p,hp,z⟩]
   exact .inl rfl
abbrev zDY:Stmt:=top 57
theorem zCs:zAW ["_law_shape_here", "_law_tree_here", "_law_kinds_here", "_law_found", "_law_some", "_law_others", "_law_k"] ["_law_shape_here", "_law_tree_here", "_law_kinds_here", "_law_found"] (zAM zDY):=scI
def zDA (n:Nat):Sp:=λ vs H Q Ω=>E9 λ(s t:Tr) (v1 v2:V) (ka d:Addr) (kds:List (Str × Str)) (kvs:List (Key × V)) (φ:List (Str × Tr))=>A14 (vs=[v1,v2,.ref ka,.ref d]) (Rep H s v1) (Rep H t v2) (PlS s) (GdT t) (t.size<=82) (KdsAt H ka kds) ((kds.map (·.1)).Nodup) (∀p∈kds,KdN p.2) (H d=some (.dK kvs)) (FlT H φ kvs) (φ.length+s.size<=200) (s.size<=n) ((∀(φ':List (Str × Tr)) (kvs':List (Key × V)) (H':Hp),SbD d H H'->Tk H H'->H' d=some (.dK kvs')->FlT H' φ' kvs'->φ'.length<=φ.length+s.size->(∀P,Jn (wKd kds) ((s,t)::P) φ↔Jn (wKd kds) P φ')->Q (.bl true) H')/\(∀H',SbD d H H'->(∀P,¬Jn (wKd kds) ((s,t)::P) φ)->Q (.bl false) H'))
theorem zLw (F:Fun K "_law_fit" "_law_fit" zDY f fd) (z_len:mg "len" = none) (z_range:mg "range" = none)
  (zNZ:FnB P w K mg base k "_law_alike" g1 gd1 ["_law_found", "_law_due", "_law_here", "_law_there"] (zB0 82)) (zNa:FnB P w K mg base k "_law_kind" g2 gd2 ["_law_gap", "_law_tree_here", "_law_kinds_here"] zGh) (zNM:FnB P w K mg base k "_law_parts" g3 gd3 ["_law_tree_here"] zA0)
  (zNb:FnB P w K mg base k "_law_fit" f fd ["_law_shape_here", "_law_tree_here", "_law_kinds_here", "_law_found"] (zDA n)):FnOk P w K mg base CX0 (k+1) f fd ["_law_shape_here", "_law_tree_here", "_law_kinds_here", "_law_found"] (zDA (n+1)):=by
 refine F.ok zCs 75 66
 ·obtain⟨s,t,v1,v2,ka,d,kds,kvs,φ,rfl,_⟩:=h
  rfl
 obtain⟨s,t,v1,v2,ka,d,kds,kvs,φ,rfl,r1,r2,pls,gt,htz,hkd,knd,kn,hd,hF,h200,hn,qy,qn⟩:=h;have hu:=hu_of hr;have hu0:=nB (hu_of hr)
 refine⟨_,(Sd.un (zAI (zBM ⟨zAJ op_eq 67 zAe 91⟩ (zAI (zBM ⟨zBO (zA7 (pe_cl zNa hr (zAA 67 (zAA (pv 1) (zAA (pv 2) zAD)))))⟩ (zAi (zAn ⟨pe_bl⟩)) ⟨zAN⟩)
  (zAI (zBM ⟨zAJ (zIx hu) 67 (pv 3) rfl⟩ (zAi (zAn ⟨pe_cl zNZ hr (zAA (pv 1) (zAA (zET hu (pv 3) 67 76) (zAA (zAZ zAD:PE _ _ _) (zAA (zAZ zAD:PE _ _ _) zAD))))⟩)) ⟨zAN⟩)
  (zAI ⟨zGq hu (pv 3) 67 (pv 1) rfl⟩
  (zAi (zAn ⟨pe_bl⟩))))) ⟨zAN⟩)
  (zAI (zBM ⟨zAJ op_ne 67 80 91⟩ (zAi (zAn ⟨pe_bl⟩)) ⟨zAN⟩)
  (zAI (pSS (i:=4) zCs.nd ⟨pe_cl zNM hr (zAA (pv 0) zAD)⟩)
  (zAI (zBM ⟨zAJ (zLE hu0) (pv 4) (zAZ zAD:PE _ _ _) 91⟩ (zAi (zAn ⟨zAx op_eq 67 80 91⟩)) ⟨zAN⟩)
  (zAI (pSS (i:=5) zCs.nd ⟨pe_cl zNM hr (zAA (pv 1) zAD)⟩)
  (zAI ⟨zAr PassesOwn.never rfl (zBl 102 z_range (zAA (cL z_len (zAA (pv 4) zAD)) zAD)) (pGn (i:=6) zCs.nd) (zAE (ps_if (zBO (zA7 (pe_cl zNb hr (zAA (pe_ix (r:=rIxT K) zAL (pv 4) (pv 6) 76) (zAA (pe_ix (r:=rIxT K) zAL (pv 5) (pv 6) 76) (zAA (pv 2) (zAA (pv 3) zAD))))))) (zAE (zAU pe_bl)) zAN))⟩
  (zAi (zAn ⟨pe_bl⟩))))))))),?_⟩
 have d0:0<=sizeLine:=by decide
 have q1:=r1;have q2:=r2;have spos:=zA3 s;have lφ:=hF.pr.length;obtain⟨p1,hs1,us1,rfl,h1,hh1,pp1⟩:=r1.all;obtain⟨p2,hs2,us2,rfl,h2,hh2,pp2⟩:=r2.all;have at1:atI (V.str s.kd.s::hs1++us1) 0=some (.str s.kd.s):=zAS (j:=0) rfl;have at2:atI (V.str t.kd.s::hs2++us2) 0=some (.str t.kd.s):=zAS (j:=0) rfl;refine⟨_,rfl,p1,_,0,_,rfl,rfl,SqT.of h1,at1,rfl,_,rfl,ite2 77 77⟩
 ·have z:s.kd = .gap:=Kd.eq_iff.mp (lU c)
  obtain⟨g,as,rfl⟩:=kdS (k:=.gap) z;have eas:as=[]:=(pls _ (zBj _)).2.2 g as rfl;subst eas;obtain⟨_,b',us',e',k1,_,_,_⟩:=id q1;cases e';have b1:atI [V.str "gap", .str g,.ref b'] 1=some (.str g):=zAS (j:=1) rfl;refine⟨_,rfl,p1,_,1,_,rfl,rfl,SqT.of k1,b1,_,rfl,_,rfl,g,.ref p2,ka,t,kds,rfl,hkd,knd,kn,q2,gt,by lia,λ z H1 g1 hz=>⟨z,rfl,?_⟩⟩;cases z with
  |false=>exact iteT (qn H1 g1.sd λ P=>zJb λ y=>nomatch hz.mpr y)
  |true =>
   have hok:=hz.mp rfl;have gv:DGet H1 d (.str g) (valV kvs (Sum.inr g:Key)):=.inl ⟨kvs,Sum.inr g,.inl (g1 _ _ hd),rfl,rfl⟩;refine iteF ⟨_,rfl,p1,_,1,_,rfl,rfl,SqT.of (g1 _ _ k1),b1,_,rfl,d,_,rfl,gv,_,rfl,?_⟩;cases ev:valV kvs (Sum.inr g:Key) with
   |none =>
    rw[ev] at gv;refine iteF ⟨_,rfl,_,rfl,_,rfl,p1,_,1,_,rfl,rfl,SqT.of (g1 _ _ k1),b1,d,_,rfl,DPut.k (k:=Sum.inr g) (g1 _ _ hd) (zAR 61),?_⟩;have sb:SbD d H1 (upd H1 d (.dK (putK kvs (Sum.inr g) (.ref p2)))):=SbD.set _;have tk:=sb.tk (g1 _ _ hd);refine qy (φ++[(g,t)]) _ _ (g1.sd.trans sb) (g1.tk.trans tk) zAB (((hF.mono g1.tk).put ev (q2.mono g1.tk) gt).mono tk) (by simp;lia) λ P=>?_;have hno:=zLN hF.pr ev;exact zHi hok (λ u' hu'=>absurd hu' (hno u')) (λ Ω h=>mH _ h) (λ q hq=>(lM.mp hq).imp id λ z=>mQ.mp z) ⟨t,mD _ lP,rfl⟩
   |some w =>
    rw[ev] at gv;obtain⟨u,mu,ru⟩:=zMw hF.pr ev;refine iteT ⟨_,rfl,_,rfl,_,rfl,p1,_,1,_,rfl,rfl,SqT.of (g1 _ _ k1),b1,d,_,rfl,gv,d0,λ e1 he1=>⟨d0,λ e2 he2=>?_⟩⟩;have a1:=zAC (o:=.tup []) he1;have a2:=zAC (o:=.tup []) he2;have a12:=g1.trans (a1.trans a2);refine⟨t,u,.ref p2,w,e1,e2,[],[],rfl,q2.mono a12.tk,ru.mono a12.tk,gt,hF.gd _ mu,a2 _ _ zAB,zAB,rfl,by simp;lia,htz,λ z H2 g2 hz=>?_⟩;have a13:=a12.trans g2;cases z with
    |false=>exact qn H2 a13.sd λ P=>zGJ mu λ y=>nomatch hz.mpr y
    |true =>
     have hb5:=hz.mp rfl;exact qy φ kvs H2 a13.sd a13.tk (a13 _ _ hd) (hF.mono a13.tk) 61 λ P=>zHi hok (λ u' hu'=>by rw[zLG hF.nd hu' mu];exact hb5) (λ Ω h=>h) (λ Ω h=>.inl h) ⟨u,mu,hb5⟩
 have ng:¬s.kd = .gap:=λ z=>c (lW (by rw[z];rfl));refine⟨_,rfl,p1,_,0,_,rfl,rfl,SqT.of h1,at1,_,rfl,p2,_,0,_,rfl,rfl,SqT.of h2,at2,rfl,_,rfl,ite2 77 77⟩
 ·refine qn H (Same.refl _).sd λ P=>zJc ng λ y=>?_
  rw[y.1] at c;simp at c
 have hk:s.kd=t.kd:=by
  by_cases z:s.kd=t.kd
  ·exact z
  ·have:¬V.str s.kd.s=V.str t.kd.s:=λ y=>z (Kd.eq_iff.mp y)
   exact absurd (by simp[this]) c
 refine⟨_,rfl,s,_,rfl,q1,λ a1 H1 ws1 g1 e1 pa1=>?_⟩;have l1:=zAG pa1;refine⟨_,rfl,d0,λ pe hpe=>⟨a1,pe,ws1,rfl,rfl,zAC hpe _ _ e1,zAB,_,rfl,ite2 77 77⟩⟩
 ·have e0:ws1.length=0:=by simpa using c
  have hp0:s.parts=[]:=List.length_eq_zero_iff.mp 61;have hpz:pz s t=[]:=by unfold pz;rw[hp0];rfl
  have g2:=g1.trans (zAC (o:=.tup []) hpe);generalize upd H1 pe _=H2 at g2 ⊢
  have hlf:s.kd.leaf=true:=by
   cases s with
   |bin o x y=>cases hp0
   |_=>first|rfl|cases hp0
  have fin:∀b:Bool,(b=true↔s=t)->Q (.bl b) H2:=λ b hb=>by
   cases b with
   |false=>exact qn H2 g2.sd λ P=>zJc ng λ y=>nomatch hb.mpr (y.2 hlf)
   |true=>exact qy φ kvs H2 g2.sd g2.tk (g2 _ _ hd) (hF.mono g2.tk) 61 λ P=>(jn_in ng ⟨hk,λ Ω=>hb.mp rfl⟩).trans (by rw[hpz,nP])
  have leaf2:∀{x:V}{pp:Addr}{y:Str},H pp=some (.tup [.str y,x])->atI [V.str y,x] 1=some x:=λ Ω=>zAS (j:=1) rfl;cases s with
  |num m =>
   obtain⟨m',rfl⟩:=kdS (k:=.num) hk.symm;obtain⟨_,e1,k1⟩:=q1;cases e1;obtain⟨_,e2,k2⟩:=q2;cases e2;exact⟨_,rfl,p1,_,1,_,rfl,rfl,SqT.of (g2 _ _ k1),leaf2 k1,_,rfl,p2,_,1,_,rfl,rfl,SqT.of (g2 _ _ k2),leaf2 k2,rfl,fin _ 68⟩
  |ask m =>
   obtain⟨m',rfl⟩:=kdS (k:=.ask) hk.symm;obtain⟨_,e1,k1⟩:=q1;cases e1;obtain⟨_,e2,k2⟩:=q2;cases e2;exact⟨_,rfl,p1,_,1,_,rfl,rfl,SqT.of (g2 _ _ k1),leaf2 k1,_,rfl,p2,_,1,_,rfl,rfl,SqT.of (g2 _ _ k2),leaf2 k2,rfl,fin _ 68⟩
  |stop m =>
   obtain⟨m',rfl⟩:=kdS (k:=.stop) hk.symm;obtain⟨_,e1,k1⟩:=q1;cases e1;obtain⟨_,e2,k2⟩:=q2;cases e2;exact⟨_,rfl,p1,_,1,_,rfl,rfl,SqT.of (g2 _ _ k1),leaf2 k1,_,rfl,p2,_,1,_,rfl,rfl,SqT.of (g2 _ _ k2),leaf2 k2,rfl,fin _ 68⟩
  |name m=>exact absurd rfl (pls _ (zBj _)).2.1
  |gap g as=>exact absurd rfl ng
  |_=>cases hp0
 have e0:ws1.length≠0:=λ z=>c (by rw[z];rfl)
 have hda:HdA s t:=⟨hk,λ z=>by
  have:s.parts=[]:=by
   cases s with
   |bin o x y=>cases o<;>cases z
   |_=>first|rfl|cases z
  rw[this] at l1;exact absurd l1 e0⟩
 have g2:=g1.trans (zAC (o:=.tup []) hpe);have e12:=zAC (o:=.tup []) hpe _ _ e1;have pa12:Paired (Rep (upd H1 pe (.tup []))) s.parts ws1:=Paired.mapP pa1 λ Ω Ω z=>z.mono (zAC (o:=.tup []) hpe).tk;generalize upd H1 pe _=H2 at g2 e12 pa12 ⊢;refine⟨_,rfl,t,_,rfl,q2.mono g2.tk,λ a2 H3 ws2 g3 e3 pa2=>?_⟩;have g13:=g2.trans g3;have l2:=zAG pa2;have m1:=zBc s;have m2:=zBc t;rw[←hk] at m2;have m3:=zEa s.kd;have szz:=zKy s t;have e13:=g3 _ _ e12;have ne1:a1≠d:=λ z=>by rw[z,g13 _ _ hd] at e13;cases e13
 have ne2:a2≠d:=λ z=>by rw[z,g13 _ _ hd] at e3;cases e3
 have nek:ka≠d:=λ z=>by
  obtain⟨o,ys,hka,_,_⟩:=hkd;rw[z,hd] at hka;cases hka
 have lpz:(pz s t).length=s.kd.many:=by unfold pz;rw[List.length_zip];lia
 refine⟨_,rfl,a1,_,rfl,.inr (SqT.of e13),(ws1.length:Int),rfl,by lia,by lia,?_⟩;refine zBo (n:=((ws1.length:Nat):Int).toNat) (λ i σ' H'=>E3 λ(φ':List (Str × Tr)) (kvs':List (Key × V)) (s6:Option V)=>A7 (σ'=[some (.ref p1),some (.ref p2),some (.ref ka),some (.ref d),some (.ref a1),some (.ref a2),s6]) (SbD d H3 H') (Tk H3 H') (H' d=some (.dK kvs')) (FlT H' φ' kvs') (φ'.length<=φ.length+szX ((pz s t).take i)) (∀P,Jn (wKd kds) ((s,t)::P) φ↔Jn (wKd kds) ((pz s t).drop i++P) φ')) ⟨φ,kvs,none,rfl,(Same.refl _).sd,.refl _,g13 _ _ hd,hF.mono g13.tk,by lia,λ P=>(jn_in ng hda).trans zL4⟩ ?_ ?_
 ·rintro i σ' H' hi ⟨φ',kvs',s6,rfl,sb,tk,ed,hF',lf,cov⟩
  have hi':i<ws1.length:=by simpa using hi
  obtain⟨x1,hx1⟩:∃x1,ws1[i]?=some x1:=⟨_,lY hi'⟩;obtain⟨x2,hx2⟩:∃x2,ws2[i]?=some x2:=⟨_,lY 61⟩;obtain⟨si,esi,rsi⟩:=zAP pa12 hx1;obtain⟨ti,eti,rti⟩:=zAP pa2 hx2;have ez:(pz s t)[i]?=some (si,ti):=List.getElem?_zip_eq_some.mpr ⟨esi,eti⟩;obtain⟨hil,eil⟩:=lK.mp ez;have hdr:(pz s t).drop i=(si,ti)::(pz s t).drop (i+1):=by rw[List.drop_eq_getElem_cons hil,eil]
  have htk:szX ((pz s t).take (i+1))=szX ((pz s t).take i)+si.size:=by
   rw[zAY ez,zFL,zHD];simp[szX,szT]
  have hal:szX (pz s t)=szX ((pz s t).take (i+1))+szX ((pz s t).drop (i+1)):=by rw[←zFL,List.take_append_drop]
  have i0:(0:Int)+(i:Int)=((i:Nat):Int):=by lia
  have b1:atI ws1 (0+(i:Int))=some x1:=by rw[i0];exact zAS hx1
  have b2:atI ws2 (0+(i:Int))=some x2:=by rw[i0];exact zAS hx2
  have sz1:=zAv (lN esi);have sz2:=zAv (lN eti)
  have hkd':KdsAt H' ka kds:=by
   obtain⟨o,ys,k1,k2,k3⟩:=hkd.mono g13;exact⟨o,ys,sb _ _ nek k1,k2,Paired.mapP k3 λ Ω Ω z=>zCZ tk z⟩
  rw[hdr] at cov;refine⟨_,rfl,_,rfl,a1,_,_,_,rfl,rfl,SqT.of (sb _ _ ne1 e13),b1,_,rfl,_,rfl,a2,_,_,_,rfl,rfl,SqT.of (sb _ _ ne2 e3),b2,_,rfl,_,rfl,si,ti,x1,x2,ka,d,kds,kvs',φ',rfl,rsi.mono (g3.tk.trans tk),rti.mono tk,pls.part (lN esi),gt.part (lN eti),by lia,hkd',knd,kn,ed,hF',by lia,by lia,λ φ2 kvs2 H5 sb5 tk5 e5 f5 l5 cov5=>⟨true,rfl,iteF ?_⟩,λ H5 sb5 cov5=>⟨false,rfl,iteT ?_⟩⟩
  ·exact⟨φ2,kvs2,_,rfl,sb.trans sb5,tk.trans tk5,e5,f5,by lia,λ P=>(cov P).trans (cov5 _)⟩
  ·exact qn H5 (g13.sd.trans (sb.trans sb5)) λ P y=>cov5 _ ((cov P).mp y)
 ·rintro σ' H' ⟨φ',kvs',s6,rfl,sb,tk,ed,hF',lf,cov⟩
  rw[Int.toNat_natCast,mU 61] at lf;refine qy φ' kvs' H' (g13.sd.trans sb) (g13.tk.trans tk) ed hF' 61 λ P=>(cov P).trans ?_;rw[Int.toNat_natCast,List.drop_of_length_le 61,List.nil_append]
theorem zJE {k:Nat}{f:Addr}{fd:FuncData}:FnOk P w K mg base CX0 k f fd ["_law_shape_here", "_law_tree_here", "_law_kinds_here", "_law_found"] (zDA 0):=by
 have no:∀vs H Q E,¬zDA 0 vs H Q E:=λ vs H Q E h=>by
  obtain⟨s,t,v1,v2,ka,d,kds,kvs,φ,_,_,_,_,_,_,_,_,_,_,_,_,hn,_⟩:=h;have:=zA3 s
  lia
 exact⟨λ vs H Q E h=>absurd h (no vs H Q E),λ A outer s H args us vs Q E Ω Ω Ω Ω h=>absurd h (no vs H Q E)⟩
theorem zHx (F:Fun K "_law_fit" "_law_fit" zDY f fd) (bd:Binds K fd ["_law_shape_here", "_law_tree_here", "_law_kinds_here", "_law_found"] []) (m:mg "_law_fit" = some (.ref f)) (z_len:mg "len" = none) (z_range:mg "range" = none)
  (G1:FnB P w K mg base k "_law_alike" g1 gd1 ["_law_found", "_law_due", "_law_here", "_law_there"] (zB0 82)) (G2:FnB P w K mg base k "_law_kind" g2 gd2 ["_law_gap", "_law_tree_here", "_law_kinds_here"] zGh) (G3:FnB P w K mg base k "_law_parts" g3 gd3 ["_law_tree_here"] zA0) :
  ∀n:Nat,FnB P w K mg base (k+n) "_law_fit" f fd ["_law_shape_here", "_law_tree_here", "_law_kinds_here", "_law_found"] (zDA n)
 |0=>⟨zJE,bd,F.kp,m⟩
 |n+1=>⟨zLw F z_len z_range (G1.up (Nat.le_add_right _ _)) (G2.up (Nat.le_add_right _ _)) (G3.up (Nat.le_add_right _ _)) (zHx F bd m z_len z_range G1 G2 G3 n),bd,F.kp,m⟩
abbrev zCP:Stmt:=top 58
theorem zBI:zAW ["_law_rules_here", "_law_tree_here", "_law_found", "_law_k", "_law_some", "_law_number", "_law_place"] ["_law_rules_here", "_law_tree_here"] (zAM zCP):=scI
noncomputable def toF (x:Rl3):RlF:=(x.1,wKd x.2.2)
def zCD (n:Nat):Sp:=λ vs H Q Ω=>E5 λ(l:Addr) (us:List V) (R:List Rl3) (t:Tr) (v:V)=>A9 (vs=[.ref l,v]) (H l=some (.lst us)) (Paired (RlQ H) R us) (R.length<=3) (Rep H t v) (GdT t) (t.size<=82) (t.size<=n) (∀(f:Addr) (ss:List V) (H':Hp),H f=none->Same H H'->H' f=some (.lst ss)->Paired (StV H') (dueS (R.map toF) [] t) ss->Q (.ref f) H')
theorem zI4 (F:Fun K "_law_steps" "_law_steps" zCP f fd) (z_len:mg "len" = none) (z_range:mg "range" = none)
  (zNb:FnB P w K mg base k "_law_fit" g1 gd1 ["_law_shape_here", "_law_tree_here", "_law_kinds_here", "_law_found"] (zDA 40)) (zNM:FnB P w K mg base k "_law_parts" g2 gd2 ["_law_tree_here"] zA0)
  (zNc:FnB P w K mg base k "_law_steps" f fd ["_law_rules_here", "_law_tree_here"] (zCD n)):FnOk P w K mg base CX0 (k+1) f fd ["_law_rules_here", "_law_tree_here"] (zCD (n+1)):=by
 refine F.ok zBI 75 66
 ·obtain⟨l,us,R,t,v,rfl,_⟩:=h
  rfl
 obtain⟨l,us,R,t,v,rfl,hl,pR,lR,rt,gt,h100,hn,q⟩:=h
 refine⟨_,(Sd.un (zAI (pSS (i:=2) zBI.nd (zDQ ⟨zAD⟩))
  (zAI ⟨zAr PassesOwn.never rfl (zBl 102 z_range (zAA (cL z_len (zAA (pv 0) zAD)) zAD)) (pGn (i:=3) zBI.nd) (zAE (ps_if (zA7 (pe_cl zNb hr (zAA (pe_ix (r:=rIxT K) zAL (pe_ix (r:=rIxL K) zAc (pv 0) (pv 3) 76) zAH 76) (zAA (pv 1) (zAA (pe_ix (r:=rIxT K) zAL (pe_ix (r:=rIxL K) zAc (pv 0) (pv 3) 76) zAH 76) (zAA zCx zAD)))))) (zAE (pAp (pv 2) (zAZ (zAA (pv 3) (zAA (zAZ zAD:PE _ _ _) zAD)):PE _ _ _))) zAN))⟩
  (zAI (pSS (i:=4) zBI.nd ⟨pe_cl zNM hr (zAA (pv 1) zAD)⟩)
  (zAI ⟨zAr PassesOwn.never rfl (zBl 102 z_range (zAA (cL z_len (zAA (pv 4) zAD)) zAD)) (pGn (i:=3) zBI.nd) (zAE (zAr PassesOwn.never rfl (zBD (pe_cl zNc hr (zAA (pv 0) (zAA (pe_ix (r:=rIxT K) zAL (pv 4) (pv 3) 76) zAD)))) (zCG rfl (zAa (pGn (i:=5) zBI.nd) (zAa (pGn (i:=6) zBI.nd) zBK))) (zAE (pAp (pv 2) (zAZ (zAA (pv 5) (zAA (pe_op zCB (zAZ (zAA (pv 3) zAD):PE _ _ _) (pv 6)) zAD)):PE _ _ _)))))⟩
  (zAi (zAn ⟨pv 2⟩))))))),?_⟩
 have d0:0<=sizeLine:=by decide
 have d1:1<=sizeLine:=by decide
 have d2:2<=sizeLine:=by decide
 have lus:=zAG pR;have lF:(R.map toF).length<=3:=by rw[lE];exact lR
 refine⟨d0,λ pf hpf=>?_⟩;have k0:=zAC (o:=.lst []) hpf;refine⟨_,rfl,l,_,rfl,.inl (SqL.of (k0 _ _ hl)),(us.length:Int),rfl,by lia,by lia,?_⟩;refine zBo (n:=((us.length:Nat):Int).toNat) (λ i σ' H'=>E2 λ(ss:List V) (s3:Option V)=>A4 (σ'=[some (.ref l),some v,some (.ref pf),s3,none,none,none]) (Same H H') (H' pf=some (.lst ss)) (Paired (StV H') ((hitR ((R.map toF).take i) 0 t).map λ k=>(k,[])) ss)) ⟨[],none,rfl,k0,zAB,by simpa[hitR] using .nil⟩ ?_ ?_
 ·rintro i σ' H' hi ⟨ss,s3,rfl,g,ef,ps⟩
  have hi':i<us.length:=by simpa using hi
  obtain⟨x,hx⟩:∃x,us[i]?=some x:=⟨_,lY hi'⟩;obtain⟨⟨t1,t2,kds⟩,eR,r,rfl,hR,hG⟩:=zAP pR hx;dsimp only at hR hG;have eF:(R.map toF)[i]?=some (t1,wKd kds):=by rw[mJ,eR];rfl
  obtain⟨u1,u2,ka,er,ru1,ru2,hkd⟩:=hR.same g;have i0:(0:Int)+(i:Int)=((i:Nat):Int):=by lia
  have b0:atI us (0+(i:Int))=some (.ref r):=by rw[i0];exact zAS hx
  have b1:atI [u1,u2,V.ref ka] 0=some u1:=zAS (j:=0) rfl;have b2:atI [u1,u2,V.ref ka] 2=some (.ref ka):=zAS (j:=2) rfl
  have ls:ss.length<=i:=by
   have:=zDh ((R.map toF).take i) 0 t;rw[zAG ps,lE];rw[mN] at this
   lia
  refine⟨_,rfl,_,rfl,l,_,_,_,rfl,rfl,SqL.of (g _ _ hl),b0,r,_,0,_,rfl,rfl,SqT.of er,b1,_,rfl,_,rfl,_,rfl,l,_,_,_,rfl,rfl,SqL.of (g _ _ hl),b0,r,_,2,_,rfl,rfl,SqT.of er,b2,λ e he=>?_⟩;have a1:=zAC (o:=.dK []) he;have s1:=hG.s1;refine⟨t1,t,u1,v,ka,e,kds,[],[],rfl,ru1.mono a1.tk,rt.mono (g.trans a1).tk,hG.pl,gt,h100,hkd.mono a1,hG.ku,hG.kn,zAB,⟨.nil,List.nodup_nil,(λ q hq=>nomatch hq)⟩,by simp;lia,s1,λ φ' kvs' H5 sb5 _ _ _ _ cov=>⟨true,rfl,iteT ?_⟩,λ H5 sb5 cov=>⟨false,rfl,iteF ?_⟩⟩
  ·have hf:Fits (wKd kds) t1 t:=(cov []).mpr Jn.nil
   have g5:=zIh he sb5;have ef5:=g5 _ _ ef;refine⟨_,rfl,.inl ⟨rfl,_,SqL.of ef5⟩,_,rfl,d0,λ pb hpb=>⟨d2,λ pt hpt=>?_⟩⟩;have b1:=zAC (o:=.tup []) hpb;have b2:=zAC (o:=.tup [.int (0+(i:Int)),.ref pb]) hpt;have b12:=b1.trans b2;have ef6:=b12 _ _ ef5;refine⟨pf,_,_,rfl,rfl,ef6,zAR 61,?_⟩;have tk:=Tk.lst (o:=.lst (ss++[.ref pt])) ef6;refine⟨ss++[.ref pt],_,rfl,zAb (g.trans (g5.trans b12)) hpf,zAB,?_⟩;rw[zDg t eF,zJk hf,mP];refine zAK (Paired.mapP ps λ Ω Ω z=>z.mono ((g5.trans b12).tk.trans tk)) (.cons ⟨pt,pb,rfl,?_,tk _ _ (b2 _ _ zAB)⟩ .nil);refine tk _ _ ?_;rw[zAB];simp
  ·have hf:¬Fits (wKd kds) t1 t:=cov []
   have g5:=zIh he sb5;refine⟨ss,_,rfl,g.trans g5,g5 _ _ ef,?_⟩;rw[zDg t eF,zLK hf,nP];exact Paired.mapP ps λ Ω Ω z=>z.mono g5.tk
 rintro σ' H1 ⟨ss,s3,rfl,g,ef,ps⟩;rw[Int.toNat_natCast,mU (by rw[lE];lia)] at ps
 have ls0:ss.length<=3:=by
  have:=zDh (R.map toF) 0 t;rw[zAG ps,lE]
  lia
 refine⟨_,rfl,t,v,rfl,rt.mono g.tk,λ a H2 ws g2 e2 pa=>?_⟩;have lws:=zAG pa;have gg2:=g.trans g2;have sumP:=zBy t;have lp3:=zF5 t;refine⟨_,rfl,a,_,rfl,.inr (SqT.of e2),(ws.length:Int),rfl,by lia,by lia,?_⟩;refine zBo (n:=((ws.length:Nat):Int).toNat) (λ i σ' H'=>E4 λ(ss':List V) (s3 s5 s6:Option V)=>A6 (σ'=[some (.ref l),some v,some (.ref pf),s3,some (.ref a),s5,s6]) (Same H H') (Tk H2 H') (H' pf=some (.lst ss')) (Paired (StV H') ((hitR (R.map toF) 0 t).map (λ k=>(k,[]))++((kidsP ([],t)).take i).flatMap λ x=>dueS (R.map toF) x.1 x.2) ss') (ss'.length<=3+3 * ((t.parts.take i).map Tr.size).sum)) ⟨ss,s3,none,none,rfl,gg2,.refl _,g2 _ _ ef,by simpa using Paired.mapP ps λ Ω Ω z=>z.mono g2.tk,by simpa using ls0⟩ ?_ ?_
 ·rintro i σ' H' hi ⟨ss',s3,s5,s6,rfl,g3,k3,ef3,ps3,ls3⟩
  have hi':i<ws.length:=by simpa using hi
  obtain⟨x,hx⟩:∃x,ws[i]?=some x:=⟨_,lY hi'⟩;obtain⟨ti,eti,rti⟩:=zAP pa hx;have i0:(0:Int)+(i:Int)=((i:Nat):Int):=by lia
  have b0:atI ws (0+(i:Int))=some x:=by rw[i0];exact zAS hx
  have ek:(kidsP ([],t))[i]?=some ([(i:Int)],ti):=zGG (pl:=[]) eti;have sz:=zAv (lN eti)
  have hsum:((t.parts.take (i+1)).map Tr.size).sum=((t.parts.take i).map Tr.size).sum+ti.size:=by
   rw[zAY eti,mP,List.sum_append];simp
  have hal:((t.parts.take (i+1)).map Tr.size).sum<=(t.parts.map Tr.size).sum:=by
   have e:(t.parts.map Tr.size).sum=((t.parts.take (i+1)).map Tr.size).sum+((t.parts.drop (i+1)).map Tr.size).sum:=by rw[←List.sum_append,←mP,List.take_append_drop]
   lia
  refine⟨_,rfl,_,rfl,_,rfl,a,_,_,_,rfl,rfl,SqT.of (k3 _ _ e2),b0,l,us,R,ti,x,rfl,g3 _ _ hl,Paired.mapP pR λ Ω Ω z=>z.same g3,lR,rti.mono k3,gt.part (lN eti),by lia,by lia,λ f2 ss2 H4 hf2 g4 e4 p4=>⟨f2,rfl,⟨ss2,SqL.of e4⟩,?_⟩⟩;have ld:=zHm lF [] ti;have l4:=zAG p4;have nf:f2≠pf:=λ z=>by rw[z,ef3] at hf2;cases hf2
  have gA:=g3.trans g4;refine zBR (xs:=ss2) (λ j σ' H'=>E3 λ(ss3:List V) (s5 s6:Option V)=>A7 (σ'=[some (.ref l),some v,some (.ref pf),some (.int (0+(i:Int))),some (.ref a),s5,s6]) (Same H H') (Tk H4 H') (H' f2=some (.lst ss2)) (H' pf=some (.lst ss3)) (Paired (StV H') ((hitR (R.map toF) 0 t).map (λ k=>(k,[]))++(((kidsP ([],t)).take i).flatMap λ x=>dueS (R.map toF) x.1 x.2)++(dueS (R.map toF) [(i:Int)] ti).take j) ss3) (ss3.length<=ss'.length+j)) ?_ ?_ ?_ ?_
  ·exact⟨ss',s5,s6,rfl,gA,.refl _,e4,g4 _ _ ef3,by rw[List.take_zero,nP];exact Paired.mapP ps3 λ Ω Ω z=>z.mono g4.tk,by lia⟩
  ·rintro j σ' H5 _ ⟨ss3,s5,s6,rfl,g5,k5,e5,ef5,ps5,ls5⟩
   exact SqL.of e5
  ·rintro j y σ' H5 hy ⟨ss3,s5,s6,rfl,g5,k5,e5,ef5,ps5,ls5⟩
   have hj:j<ss2.length:=(lK.mp hy).1;obtain⟨⟨kk,pl⟩,ey,b,c,rfl,hb,hc⟩:=zAP p4 hy;dsimp only at hb hc;have hb5:=k5 _ _ hb;have hc5:=k5 _ _ hc;have ey2:(dueS (R.map toF) [(i:Int)] ti)[j]?=some (kk,(i:Int)::pl):=by rw[zFD,mJ,ey];rfl
   have lpl:pl.length+1<=ti.size:=zGP (lN ey);refine⟨b,_,rfl,SqT.of hb5,rfl,_,_,rfl,_,_,rfl,rfl,?_⟩;refine⟨_,rfl,.inl ⟨rfl,_,SqL.of ef5⟩,_,rfl,_,rfl,d1,λ pa hpa=>?_⟩;have a1:=zAC (o:=.tup [.int (0+(i:Int))]) hpa;refine⟨_,rfl,pa,c,_,_,rfl,rfl,zAB,a1.tk _ _ hc5,zAf (by simp;lia),λ pc H6 g6 e6=>⟨d2,λ pt hpt=>?_⟩⟩;have a2:=zAC (o:=.tup [.int kk,.ref pc]) hpt;have aA:=a1.trans (g6.trans a2);have ef6:=aA _ _ ef5;refine⟨pf,_,_,rfl,rfl,ef6,zAR 61,?_⟩;have tk:=Tk.lst (o:=.lst (ss3++[.ref pt])) ef6;refine⟨ss3++[.ref pt],_,_,rfl,zAb (g5.trans aA) hpf,k5.trans (aA.tk.trans tk),by rw[zAd nf];exact aA _ _ e5,zAB,?_,by simp;lia⟩;rw[zAY ey2,←mX];refine zAK (Paired.mapP ps5 λ Ω Ω z=>z.mono (aA.tk.trans tk)) (.cons ⟨pt,pc,rfl,tk _ _ zAB,tk _ _ (a2 _ _ ?_)⟩ .nil);rw[e6,mL];simp
  ·rintro σ' H5 ⟨ss3,s5,s6,rfl,g5,k5,e5,ef5,ps5,ls5⟩
   have ldd:(dueS (R.map toF) [(i:Int)] ti).length=ss2.length:=by rw[zFD,lE,l4]
   have e9:(dueS (R.map toF) [(i:Int)] ti).take ss2.length=dueS (R.map toF) [(i:Int)] ti:=mU 61;rw[e9] at ps5;refine⟨ss3,_,_,_,rfl,g5,k3.trans (g4.tk.trans k5),ef5,?_,by lia⟩;rw[zAY ek,nJ,←mX,rD,List.flatMap_nil,nP];exact ps5
 ·rintro σ' H' ⟨ss',s3,s5,s6,rfl,g3,k3,ef3,ps3,ls3⟩
  rw[Int.toNat_natCast,mU (by rw[zGF];lia),←zMB] at ps3;exact⟨_,rfl,q pf ss' H' hpf g3 ef3 ps3⟩
theorem zGu {k:Nat}{f:Addr}{fd:FuncData}:FnOk P w K mg base CX0 k f fd ["_law_rules_here", "_law_tree_here"] (zCD 0):=by
 have no:∀vs H Q E,¬zCD 0 vs H Q E:=λ vs H Q E h=>by
  obtain⟨l,us,R,t,v,_,_,_,_,_,_,_,hn,_⟩:=h;have:=zA3 t
  lia
 exact⟨λ vs H Q E h=>absurd h (no vs H Q E),λ A outer s H args us vs Q E Ω Ω Ω Ω h=>absurd h (no vs H Q E)⟩
theorem zFI (F:Fun K "_law_steps" "_law_steps" zCP f fd) (bd:Binds K fd ["_law_rules_here", "_law_tree_here"] []) (m:mg "_law_steps" = some (.ref f)) (z_len:mg "len" = none) (z_range:mg "range" = none)
  (G1:FnB P w K mg base k "_law_fit" g1 gd1 ["_law_shape_here", "_law_tree_here", "_law_kinds_here", "_law_found"] (zDA 40)) (G2:FnB P w K mg base k "_law_parts" g2 gd2 ["_law_tree_here"] zA0):∀n:Nat,FnB P w K mg base (k+n) "_law_steps" f fd ["_law_rules_here", "_law_tree_here"] (zCD n)
 |0=>⟨zGu,bd,F.kp,m⟩
 |n+1=>⟨zI4 F z_len z_range (G1.up (Nat.le_add_right _ _)) (G2.up (Nat.le_add_right _ _)) (zFI F bd m z_len z_range G1 G2 n),bd,F.kp,m⟩
abbrev zCh:Stmt:=top 59
theorem zCK:zAW ["_law_found", "_law_due", "_law_one", "_law_other"] ["_law_found", "_law_due"] (zAM zCh):=scI
def zK0:Sp:=λ vs H Q Ω=>E5 λ(p r:Addr) (xs ys:List V) (S:List (Int × List Int))=>A7 (vs=[.ref p,.ref r]) (H p=some (.lst xs)) (H r=some (.lst ys)) (Paired (StV H) S xs) (Paired (StV H) S ys) (∀x∈S,x.2.length<=100) (∀H',Same H H'->Q (.bl true) H')
theorem zMe (F:Fun K "_law_is_row" "_law_is_row" zCh f fd) (z_bool:mg "bool" = none) (z_int:mg "int" = none) (z_isinstance:mg "isinstance" = none) (z_len:mg "len" = none) (z_list:mg "list" = none) (z_tuple:mg "tuple" = none) (z_zip:mg "zip" = none):FnOk P w K mg base CX0 (k+1) f fd ["_law_found", "_law_due"] zK0:=by
 refine F.ok zCK 75 66
 ·obtain⟨p,r,xs,ys,S,rfl,_⟩:=h
  rfl
 obtain⟨p,r,xs,ys,S,rfl,hp,hr0,px,py,hS,q⟩:=h;have hu0:=nB (hu_of hr);have hu5:=hu150 hr
 refine⟨_,(Sd.un (zAI (zBM ⟨(pw_or (zBO (zA7 (cI z_isinstance z_list PyProof.Rows.boot_list (pv 0)))) (zCF (zAJ op_ne (cL z_len (zAA (pv 0) zAD)) (cL z_len (zAA (pv 1) zAD)) 91))).pt⟩ (zAi (zAn ⟨pe_bl⟩)) ⟨zAN⟩)
  (zAI ⟨zAr PassesOwn.never rfl (zLl 102 z_zip (zAA (pv 0) (zAA (pv 1) zAD))) (zCG rfl (zAa (pGn (i:=2) zCK.nd) (zAa (pGn (i:=3) zCK.nd) zBK))) (zAF (ps_if (pw_or (zBO (zA7 (cI z_isinstance z_tuple rH (pv 2)))) (pw_or (zAJ op_ne (cL z_len (zAA (pv 2) zAD)) zAH 91) (zCF (zBO (zA7 (cI z_isinstance z_tuple rH (iC (r:=rIxT K) zAL (pv 2)))))))).pt (zAE (zAU pe_bl)) zAN)
  (zAE (ps_if (zAJ (zIw hu0) (zBg ["_law_k"] [none] rfl (zE4 (pe_op zCB (zAZ (zAA (iC (r:=rIxT K) zAL (pv 2)) zAD):PE _ _ _) (iC (r:=rIxT K) zAL (pv 2)))) (λ Ω Ω Ω Ω Ω=>(zA4 (i:=0) (show List.Nodup (["_law_k"]:List Str) by right) rfl (Or.inl rfl))) (λ Ω Ω Ω Ω Ω=>(zLf (pw_or (zBO (zA7 (zBL (zGW K rfl) 102 z_isinstance rJ (zAA (pv 0) (zAA (zGr (v:=.ty _) 102 z_int PyProof.Rows.boot_int 102) zAD))))) (zCF (zA7 (zBL (zGW K rfl) 102 z_isinstance rJ (zAA (pv 0) (zAA (zGr (v:=.ty _) 102 z_bool PyProof.Rows.boot_bool 102) zAD)))))).pt)) (λ Ω Ω Ω Ω Ω=>(pv 0)) rfl) (zA8 zAD:PE _ _ _) 91) (zAE (zAU pe_bl)) zAN)))⟩
  (zAi (zAn ⟨zAx (zLp hu5) (pv 0) (pv 1) 91⟩))))),?_⟩
 have d0:0<=sizeLine:=by decide
 have d1:1<=sizeLine:=by decide
 have l1:=zAG px;have l2:=zAG py;refine⟨_,rfl,.ref p, "list", _,true,rfl,.lst hp,rfl,_,rfl,iteF ?_⟩;refine⟨_,rfl,p,_,rfl,.inl (SqL.of hp),_,rfl,r,_,rfl,.inl (SqL.of hr0),rfl,_,rfl,ite2 77 (λ Ω=>?_)⟩
 ·rw[l1,l2] at c
  simp at c
 refine⟨_,rfl,_,rfl,p,r,xs,ys,rfl,hp,hr0,?_⟩;refine zKo (xs:=xs) (ys:=ys) (λ i σ' H'=>E2 λ(s2 s3:Option V)=>σ'=[some (.ref p),some (.ref r),s2,s3]/\Same H H') ⟨none,none,rfl,.refl _⟩ ?_ ?_ ?_
 ·rintro i σ' H' _ ⟨s2,s3,rfl,g⟩
  exact⟨g _ _ hp,g _ _ hr0⟩
 ·rintro i x y T σ' H' hx hy ⟨s2,s3,rfl,g⟩ hT
  obtain⟨⟨kk,pl⟩,ex,b,c,rfl,hb,hc⟩:=zAP px hx;have hpl:=hS _ (lN ex);dsimp only at hb hc hpl;have gT:=g.trans (zAC (o:=.tup [.ref b,y]) hT);have hb1:=gT _ _ hb;have hc1:=gT _ _ hc;have at0:atI [V.int kk,.ref c] 0=some (.int kk):=zAS (j:=0) rfl;have at1:atI [V.int kk,.ref c] 1=some (.ref c):=zAS (j:=1) rfl;refine⟨T,_,rfl,SqT.of zAB,rfl,_,_,rfl,_,_,rfl,rfl,?_⟩;generalize upd H' T _=H1 at gT hb1 hc1 ⊢;refine⟨_,rfl,.ref b, "tuple", _,true,rfl,.tup hb1,rfl,_,rfl,iteF ?_⟩;refine⟨_,rfl,b,_,rfl,.inr (SqT.of hb1),rfl,_,rfl,ite2 (λ c=>absurd c 68) (λ Ω=>?_)⟩;refine⟨_,rfl,b,_,1,_,rfl,rfl,SqT.of hb1,at1,.ref c, "tuple", _,true,rfl,.tup hc1,rfl,_,rfl,iteF ?_⟩;refine⟨_,rfl,b,_,0,_,rfl,rfl,SqT.of hb1,at0,d1,λ pa hpa=>?_⟩;have a1:=zAC (o:=.tup [.int kk]) hpa;refine⟨_,rfl,b,_,1,_,rfl,rfl,SqT.of (a1 _ _ hb1),at1,pa,c,_,_,rfl,rfl,zAB,a1 _ _ hc1,zAf (by simp;lia),λ pc H2 g2 e2=>⟨pc,rfl,⟨_,SqT.of e2⟩,λ acc hacc=>?_⟩⟩;have e3:H2 pc=some (.tup ((kk::pl).map V.int)):=e2;refine zGQ (xs:=(kk::pl).map V.int) (λ i H'=>Same H2 H'/\H' acc=some (.lst [])) ⟨zAC hacc,zAB⟩ (λ i H' Ω h=>SqT.of (h.1 _ _ e3)) ?_ ?_
  ·rintro i x Hx hx ⟨gx,ex⟩
   rw[mJ] at hx;obtain⟨z,hz,rfl⟩:=lX.mp hx;exact⟨.skip .nil,_,rfl,.int z, "int", _,true,rfl,.int z,rfl,_,rfl,iteF ⟨_,rfl,.int z, "bool", _,false,rfl,.int z,rfl,_,rfl,iteF ⟨gx,ex⟩⟩⟩
  rintro H3 ⟨g3,e4⟩;refine⟨d0,λ pe hpe=>⟨acc,pe,[],rfl,rfl,zAC hpe _ _ e4,zAB,_,rfl,iteF ?_⟩⟩;exact⟨_,_,rfl,gT.trans (a1.trans (g2.trans (g3.trans (zAC hpe))))⟩
 ·rintro σ' H' ⟨s2,s3,rfl,g⟩
  have dx:=zKz (Paired.mapP px λ Ω Ω z=>StV.mono g.tk z);have dy:=zKz (Paired.mapP py λ Ω Ω z=>StV.mono g.tk z);exact⟨_,rfl,_,rfl,p,r,xs,ys,_,rfl,rfl,g _ _ hp,g _ _ hr0,dx,dy,mI (zIZ S) 69,q H' g⟩
abbrev s_law:Stmt:=top 60
theorem zC4:zAW ["_law_script", "_law_words_here", "_law_gaps_here", "_law_numbers", "_law_rules_here", "_law_tree_here", "_law_handed", "_law_found", "_law_kept", "_law_others"] ["_law_script"] (zAM s_law):=scI
theorem zGp {H:Hp}{x:Rl3}{v:V}:RlQ H x v->RlA H (toF x) v
 |⟨r,e,⟨u1,u2,ka,er,r1,_,hk⟩,hG⟩=>⟨r,ka,u1,u2,x.2.2,e,er,hk,by have:=hG.kl;lia,kd_kv hG.ku hG.kn,r1,by have:=hG.s1;show x.1.size<=200;lia,hG.pl,rfl⟩
def zHN (K:W.Frag):Sp:=λ vs H Q Ω=>E2 λ(a:Addr) (ns:List Int)=>A3 (vs=[.ref a]) (SqL K H a (ns.map V.int)) (∀H',Q (.bl true) H')
theorem zMh (F:Fun K "law" "law" s_law f fd) (z_list:mg "list" = none) (z_range:mg "range" = none)
  (zNd:FnB P w K mg base k "_law_cell_at" g1 gd1 ["_law_script", "_law_k"] (zEx K)) (zNe:FnB P w K mg base k "_law_words" g2 gd2 ["_law_cell", "_law_many"] zHG) (zNf:FnB P w K mg base k "_law_rules" g3 gd3 ["_law_cells", "_law_gaps_here", "_law_word", "_law_numbers", "_law_scale"] zHK) (zNg:FnB P w K mg base k "_law_tree" g4 gd4 ["_law_cells", "_law_words_here", "_law_numbers"] (zIa K))
  (zNc:FnB P w K mg base k "_law_steps" g5 gd5 ["_law_rules_here", "_law_tree_here"] (zCD 81)) (zNh:FnB P w K mg base k "_law_is_row" g6 gd6 ["_law_found", "_law_due"] zK0) (zNi:FnD1 P w K mg base k "steps" g7 gd7 ["rules", "tree", "kinds"] zHI) :
  FnOk P w K mg base CX0 (k+1) f fd ["_law_script"] (zHN K):=by
 refine F.ok zC4 75 66
 ·obtain⟨a,ns,rfl,_⟩:=h
  rfl
 obtain⟨a,ns,rfl,hS,q⟩:=h;have hu:=hu_of hr;have hu0:=nB hu
 refine⟨_,(Sd.un (zAI (pSS (i:=1) zC4.nd ⟨pe_cl zNe hr (zAA (pe_cl zNd hr (zAA (pv 0) (zAA zAH zAD))) (zAA zAH zAD))⟩)
  (zAI (pSS (i:=2) zC4.nd ⟨pe_cl zNe hr (zAA (pe_cl zNd hr (zAA (pv 0) (zAA zAH zAD))) (zAA zAH zAD))⟩)
  (zAI ⟨zEC (jj:=3) ["_law_k", "_law_script"] [none,some 0] rfl (zEP 102 z_range (zAA zAH (zAA zAH zAD))) (λ Ω Ω Ω Ω Ω=>(zA4 (i:=0) (show List.Nodup (["_law_k", "_law_script"]:List Str) by right) rfl (Or.inl rfl))) (λ Ω Ω Ω Ω Ω=>zBb) (λ Ω Ω Ω Ω Ω=>(pe_op zA9 (pe_cl zNd hr (zAA (pv 1) (zAA (pv 0) zAD))) (pe_op zLD zAH zAH))) rfl zC4.nd rfl (Or.inl rfl) (Or.inr rfl)⟩
  (zAI (pSS (i:=4) zC4.nd ⟨pe_cl zNf hr (zAA (zBg ["_law_k", "_law_script"] [none,some 0] rfl (zEP 102 z_range (zAA zAH (zAA zAH zAD))) (λ Ω Ω Ω Ω Ω=>(zA4 (i:=0) (show List.Nodup (["_law_k", "_law_script"]:List Str) by right) rfl (Or.inl rfl))) (λ Ω Ω Ω Ω Ω=>zBb) (λ Ω Ω Ω Ω Ω=>(pe_cl zNd hr (zAA (pv 1) (zAA (pv 0) zAD)))) rfl) (zAA (pv 2) (zAA (iC (r:=rIxL K) zAc (pv 1)) (zAA (pv 3) (zAA zCx zAD)))))⟩)
  (zAI (pSS (i:=5) zC4.nd ⟨pe_cl zNg hr (zAA (zA1 (r:=rSlL K) zBZ (pv 0) (zAs zAH) (zAs zAH)) (zAA (pv 1) (zAA (pv 3) zAD)))⟩)
  (zAI (pSS (i:=6) zC4.nd (zE8 zD7 102 z_list PyProof.Rows.boot_list (zAq ⟨pv 4⟩ ⟨zAD⟩)))
  (zAI (pSS (i:=7) zC4.nd ⟨zEU zNi.ok hr 102 zNi.gl zNi.kp zNi.bd1 zGe pass0 (zAA (pv 6) (zAA (pv 5) zAD))⟩)
  (zAI (zBM ⟨(pw_or (zBO (zA7 (pe_cl zNh hr (zAA (pv 7) (zAA (pe_cl zNc hr (zAA (pv 4) (zAA (pv 5) zAD))) zAD))))) (zCF (zAJ (zIv hu0) (pv 6) (pv 4) 91))).pt⟩ (zAi (zAn ⟨pe_bl⟩)) ⟨zAN⟩)
  (zAI (pSS (i:=8) zC4.nd (zE8 zD7 102 z_list PyProof.Rows.boot_list (zAq ⟨pv 7⟩ ⟨zAD⟩)))
  (zAI (pSS (i:=9) zC4.nd ⟨zIr (pv 4) (zAs (pe_un zBX zAH))⟩)
  (zAI (zBM ⟨(pw_or (zBO (zA7 (pe_cl zNh hr (zAA (zEU zNi.ok hr 102 zNi.gl zNi.kp zNi.bd1 zGe pass0 (zAA (pv 9) (zAA (pv 5) zAD))) (zAA (pe_cl zNc hr (zAA (pv 9) (zAA (pv 5) zAD))) zAD))))) (zCF (zAJ (zIv hu0) (pv 7) (pv 8) 91))).pt⟩ (zAi (zAn ⟨pe_bl⟩)) ⟨zAN⟩)
  (zAI (zHU (zLB rO rQ rR zCn ⟨pv 7⟩ (zAq (zDr (zAq ⟨zAH⟩ (zAq (zDr ⟨zAD⟩) ⟨zAD⟩))) ⟨zAD⟩)))
  (zAi (zAn ⟨pe_cl zNh hr (zAA (zEU zNi.ok hr 102 zNi.gl zNi.kp zNi.bd1 zGe pass0 (zAA (pv 6) (zAA (pv 5) zAD))) (zAA (pv 8) zAD))⟩))))))))))))))),?_⟩
 have d0:0<=sizeLine:=by decide
 have d2:2<=sizeLine:=by decide
 refine⟨_,rfl,a,ns,0,rfl,hS,by decide,_,3,rfl,by decide,λ wl H1 ws k1 ew lw gw=>?_⟩;refine⟨_,rfl,a,ns,1,rfl,k1.seq hS,by decide,_,3,rfl,by decide,λ gl H2 gs k2 eg lg Ω=>?_⟩;have k12:=k1.trans k2;refine⟨2,5,rfl,⟨by decide,by decide,by decide,by decide⟩,λ na hna=>?_⟩;refine zDT (lo:=2) (n:=3) (λ i H'=>Same H2 H'/\∃ms:List Int,H' na=some (.lst (ms.map V.int))/\ms.length=i) ⟨zAC hna,[],zAB,rfl⟩ ?_ ?_
 ·rintro i Hx hi ⟨gx,ms,ex,lx⟩
  refine⟨.skip (.keep .nil),_,rfl,_,rfl,a,ns,_,rfl,(k12.trans gx).seq hS,by lia,_,_,rfl,rfl,⟨by decide,by decide,by decide⟩,_,_,rfl,rfl,(show (0:Int)<10 ^ 30 by decide),_,ex,zAR (by rw[lE];lia),zAb gx hna,ms++[ns.getD (2+(i:Int)).toNat 0 % 10 ^ (30:Int).toNat],?_,by simp[lx]⟩;rw[zAB,mP];rfl
 rintro H3 ⟨g3,n3,en,ln⟩;have k13:=k12.trans g3;refine⟨5,30,rfl,⟨by decide,by decide,by decide,by decide⟩,λ ca hca=>?_⟩;refine zDT (lo:=5) (n:=25) (λ i H'=>Same H3 H'/\∃ms:List Int,H' ca=some (.lst (ms.map V.int))/\ms.length=i) ⟨zAC hca,[],zAB,rfl⟩ ?_ ?_
 ·rintro i Hx hi ⟨gx,ms,ex,lx⟩
  refine⟨.skip (.keep .nil),_,rfl,_,rfl,a,ns,_,rfl,(k13.trans gx).seq hS,by lia,_,ex,zAR (by rw[lE];lia),zAb gx hca,ms++[ns.getD (5+(i:Int)).toNat 0],?_,by simp[lx]⟩;rw[zAB,mP];rfl
 rintro H4 ⟨g4,cs,ec,lc⟩;have k24:=g3.trans g4;have k14:=k2.trans k24;have at0:atI (ws.map V.str) 0=some (.str (nm ws (0 % 3))):=nm3 lw 0;refine⟨_,rfl,_,rfl,wl,_,0,_,rfl,rfl,SqL.of (k14 _ _ ew),at0,_,rfl,λ sd hsd=>?_⟩;have a5:=zAC (o:=.dK []) hsd;refine⟨ca,gl,na,sd,cs,n3,gs,_,rfl,a5 _ _ ec,lc,(k24.trans a5) _ _ eg,lg,(g4.trans a5) _ _ en,ln,zAB,λ l us R H5 g5 el pR lR=>?_⟩;have k45:=a5.trans g5;have ew5:=(k14.trans k45) _ _ ew;have en5:=(g4.trans k45) _ _ en;have k05:=k12.trans (k24.trans k45);obtain⟨ms,ems,lms⟩:=cut40 ns;refine⟨_,rfl,30,rfl,70,rfl,a,_,rfl,k05.seq hS,λ ps hps=>?_⟩;rw[ems];have a6:=zAC (o:=.lst (ms.map V.int)) hps;refine⟨_,rfl,_,rfl,ps,wl,na,n3,ms,ws,rfl,SqL.of zAB,lms,a6 _ _ ew5,lw,gw,a6 _ _ en5,ln,λ t v H6 g6 rt sz gt=>?_⟩;have k56:=a6.trans g6;have el6:=k56 _ _ el;have pR6:=Paired.mapP pR λ Ω Ω z=>RlQ.same k56 z;have lus:=zAG pR;have hng:NoG t:=λ p hp=>(gt p hp).1
 have hrefs:∀x∈us,∃b,x=V.ref b:=λ x hx=>by
  obtain⟨i,hi⟩:=List.getElem?_of_mem hx;obtain⟨_,_,r,e,_⟩:=zAP pR hi;exact⟨r,e⟩
 refine⟨_,rfl,l,us,rfl,.inl (SqL.of el6),λ hd hhd=>?_⟩;have a7:=zAC (o:=.lst us) hhd;have eh:=@zAB H6 hd (.lst us);have el7:=a7 _ _ el6;have pR7:=Paired.mapP pR6 λ Ω Ω z=>RlQ.same a7 z;have rt7:=rt.mono a7.tk;generalize upd H6 hd _=H7 at a7 eh el7 pR7 rt7 ⊢;have lF:(R.map toF).length<=3:=by rw[lE];exact lR
 have deep:∀(R:List RlF),∀x∈dueS R [] t,x.2.length<=100:=λ R x hx=>by have:=zGP hx;lia
 refine⟨_,rfl,_,rfl,hd,us,R.map toF,t,v,rfl,eh,zDt (f:=toF) (λ Ω Ω h=>zGp h) pR7,lF,rt7,hng,by lia,λ fa ss H8 hfa g8 ef8 p8=>?_⟩;refine⟨_,rfl,_,rfl,_,rfl,l,us,R,t,v,rfl,g8 _ _ el7,Paired.mapP pR7 λ Ω Ω z=>RlQ.same g8 z,lR,rt7.mono g8.tk,gt,by lia,sz,λ f2 s2 H9 hf2 g9 ef9 p9=>?_⟩;refine⟨fa,f2,ss,s2,_,rfl,g9 _ _ ef8,ef9,Paired.mapP p8 λ Ω Ω z=>z.mono g9.tk,p9,deep _,λ H10 g10=>⟨_,rfl,iteF ?_⟩⟩;have b10:=g8.trans (g9.trans g10);refine⟨_,rfl,_,rfl,hd,l,us,rfl,rfl,b10 _ _ eh,b10 _ _ el7,hrefs,_,rfl,iteF ?_⟩;have ef10:=(g9.trans g10) _ _ ef8;have p10:=Paired.mapP p8 λ Ω Ω z=>StV.mono (g9.trans g10).tk z;refine⟨_,rfl,fa,ss,rfl,.inl (SqL.of ef10),λ kp hkp=>?_⟩;have a11:=zAC (o:=.lst ss) hkp;have nkf:kp≠fa:=Ne.symm (zAV ef10 hkp);refine⟨_,rfl,_,rfl,_,rfl,rfl,l,us,rfl,SqL.of ((b10.trans a11) _ _ el7),λ po hpo=>?_⟩;have a12:=zAC (o:=.lst us.reverse) hpo;have b12:=b10.trans (a11.trans a12);have ekp:(upd (upd H10 kp (.lst ss)) po (.lst us.reverse)) kp=some (.lst ss):=a12 _ _ zAB;have ef12:=(a11.trans a12) _ _ ef10;have p12:=Paired.mapP p10 λ Ω Ω z=>StV.mono (a11.trans a12).tk z;have epo:=@zAB (upd H10 kp (.lst ss)) po (.lst us.reverse);generalize upd (upd H10 kp _) po _=H12 at a12 b12 ekp ef12 p12 epo ⊢;have pV:=zDs (Paired.mapP pR7 λ Ω Ω z=>RlQ.same b12 z);have lV:R.reverse.length<=3:=by rw[List.length_reverse];exact lR
 have sref:∀x∈ss,∃b,x=V.ref b:=λ x hx=>by
  obtain⟨i,hi⟩:=List.getElem?_of_mem hx;obtain⟨_,_,b,c,e,_⟩:=zAP p8 hi;exact⟨b,e⟩
 refine⟨_,rfl,_,rfl,po,us.reverse,R.reverse.map toF,t,v,rfl,epo,zDt (f:=toF) (λ Ω Ω h=>zGp h) pV,by rw[lE];exact lV,rt7.mono b12.tk,hng,by lia,λ f3 s3 H13 hf3 g13 ef13 p13=>?_⟩;refine⟨_,rfl,_,rfl,po,us.reverse,R.reverse,t,v,rfl,g13 _ _ epo,Paired.mapP pV λ Ω Ω z=>RlQ.same g13 z,lV,(rt7.mono b12.tk).mono g13.tk,gt,by lia,sz,λ f4 s4 H14 hf4 g14 ef14 p14=>?_⟩;refine⟨f3,f4,s3,s4,_,rfl,g14 _ _ ef13,ef14,Paired.mapP p13 λ Ω Ω z=>z.mono g14.tk,p14,deep _,λ H15 g15=>⟨_,rfl,iteF ?_⟩⟩;have c15:=g13.trans (g14.trans g15);refine⟨_,rfl,_,rfl,fa,kp,ss,rfl,rfl,c15 _ _ ef12,c15 _ _ ekp,sref,_,rfl,iteF ?_⟩;have ls8:ss.length<=3 * t.size:=by rw[zAG p8];exact zHm lF [] t
 refine⟨_,rfl,.inl ⟨rfl,_,SqL.of (c15 _ _ ef12)⟩,d0,λ pb hpb=>⟨d2,λ pt hpt=>?_⟩⟩;have e1:=zAC (o:=.tup []) hpb;have e2:=zAC (o:=.tup [.int 0,.ref pb]) hpt;have e12:=e1.trans e2;have ef16:=(c15.trans e12) _ _ ef12;refine⟨fa,ss,_,rfl,rfl,ef16,zAR 61,?_⟩;have tk:=Tk.lst (o:=.lst (ss++[.ref pt])) ef16;have sZ:Same H7 (upd (upd (upd H15 pb (.tup [])) pt (.tup [.int 0,.ref pb])) fa (.lst (ss++[.ref pt]))):=zAb (b12.trans (c15.trans e12)) hfa;have kZ:(upd (upd (upd H15 pb (.tup [])) pt (.tup [.int 0,.ref pb])) fa (.lst (ss++[.ref pt]))) kp=some (.lst ss):=by rw[zAd nkf];exact(c15.trans e12) _ _ ekp
 have pZ:=Paired.mapP p12 λ Ω Ω z=>StV.mono ((c15.trans e12).tk.trans tk) z;generalize upd (upd (upd H15 pb _) pt _) fa _=HZ at sZ kZ pZ ⊢;refine⟨_,rfl,_,rfl,hd,us,R.map toF,t,v,rfl,sZ _ _ eh,zDt (f:=toF) (λ Ω Ω h=>zGp h) (Paired.mapP pR7 λ Ω Ω z=>RlQ.same sZ z),lF,rt7.mono sZ.tk,hng,by lia,λ f5 s5 HY hf5 gY eY pY=>?_⟩;exact⟨_,rfl,f5,kp,s5,ss,_,rfl,eY,gY _ _ kZ,pY,Paired.mapP pZ λ Ω Ω z=>z.mono gY.tk,deep _,λ H' Ω=>q H'⟩
theorem zEc {K:W.Frag}{f:Addr}{oc:Value}{od:Option Addr}{fd:FuncData}{sl:Array (Option Value)}(l:K.lookup f=some ⟨oc,od,.func fd,sl⟩):W.keepIn K (.ref f)=true:=by unfold W.keepIn;dsimp only;rw[l]
def DfA (K:W.Frag) (x:Str) (s:Stmt) (f:Addr):Prop:=∃fd,W.nsIn K mainGlobals x=some (some (.ref f))/\Fun K x x s f fd
theorem dfa {K:W.Frag}{x:Str}{st:Stmt}{f:Addr}{oc:Value}{od an:Option Addr}{osl:Array (Option Value)}{kV doc pm cdv ct:Value}(a:W.nsIn K mainGlobals x=some (some (.ref f))) (l:K.lookup f=some ⟨oc,od,.func (W.fnOf x x (zBF st) (zAz st) (zAM st) .none kV doc pm an cdv ct),osl⟩) (c:W.codeIn K cdv x=true):DfA K x st f:=⟨_,a,zLL l c (zEc l)⟩
theorem DfA.go {K:W.Frag}{x:Str}{s:Stmt}{f:Addr}{h:Heap}{mg:Str->Option Value}(d:DfA K x s f) (X:K.In h) (G:h.Ns mainGlobals mg):∃fd,Fun K x x s f fd/\mg x=some (.ref f):=d.elim λ fd h=>⟨fd,h.2,W.mg_of X G h.1⟩
theorem us1 {p:List Value->Prop}(h:∀a,p [a]):∀us:List Value,us.length=1->p us:=λ us q=>by
 obtain _|⟨a,us⟩:=us
 ·cases q
 obtain _|⟨z,us⟩:=us
 ·exact h a
 ·simp at q
theorem us2 {p:List Value->Prop}(h:∀a b,p [a,b]):∀us:List Value,us.length=2->p us:=λ us q=>by
 obtain _|⟨a,us⟩:=us
 ·cases q
 obtain _|⟨b,us⟩:=us
 ·cases q
 obtain _|⟨z,us⟩:=us
 ·exact h a b
 ·simp at q
theorem us3 {p:List Value->Prop}(h:∀a b c,p [a,b,c]):∀us:List Value,us.length=3->p us:=λ us q=>by
 obtain _|⟨a,us⟩:=us
 ·cases q
 obtain _|⟨b,us⟩:=us
 ·cases q
 obtain _|⟨c,us⟩:=us
 ·cases q
 obtain _|⟨z,us⟩:=us
 ·exact h a b c
 ·simp at q
theorem us4 {p:List Value->Prop}(h:∀a b c d,p [a,b,c,d]):∀us:List Value,us.length=4->p us:=λ us q=>by
 obtain _|⟨a,us⟩:=us
 ·cases q
 obtain _|⟨b,us⟩:=us
 ·cases q
 obtain _|⟨c,us⟩:=us
 ·cases q
 obtain _|⟨d,us⟩:=us
 ·cases q
 obtain _|⟨z,us⟩:=us
 ·exact h a b c d
 ·simp at q
theorem us5 {p:List Value->Prop}(h:∀a b c d e,p [a,b,c,d,e]):∀us:List Value,us.length=5->p us:=λ us q=>by
 obtain _|⟨a,us⟩:=us
 ·cases q
 obtain _|⟨b,us⟩:=us
 ·cases q
 obtain _|⟨c,us⟩:=us
 ·cases q
 obtain _|⟨d,us⟩:=us
 ·cases q
 obtain _|⟨e,us⟩:=us
 ·cases q
 obtain _|⟨z,us⟩:=us
 ·exact h a b c d e
 ·simp at q
theorem ud1:∀{us:List Value},us.length=1->∃a,us=[a]
 |[a],_=>⟨a,rfl⟩
theorem ud2:∀{us:List Value},us.length=2->∃a b,us=[a,b]
 |[a,b],_=>⟨a,b,rfl⟩
theorem ud3:∀{us:List Value},us.length=3->∃a b c,us=[a,b,c]
 |[a,b,c],_=>⟨a,b,c,rfl⟩
theorem all_mk {l:W.OpenLaw}{w:World}{K:W.Frag}{h:Heap}{mg:Str->Option Value}{fa f0 f1 f2 f3 f4 f5 f6 f7 f8 f9 f10 f11 f12 f13 f14 f15 f16 f17 f18 f19 f20 f21 f22 f23 f24 f25 f26 f27 f28 f29 f30 f31 f32 f33 f34 f35 f36 f37 f38 f39 f40 f41 f42 lv_LEAF_SIGNS lv_LOUD_SIGNS:Addr}(X:K.In h) (G:h.Ns mainGlobals mg) (hfa:mg "law" = some (.ref fa))
  {od10 an10:Option Addr}{sl10:Array (Option Value)}{oc10 kV10 dc10 pm10 cd10 ct10:Value}
  {dt10:Addr}{odT10:Option Addr}{slT10:Array (Option Value)}{ocT10:Value}{nT10:Nat}
  {od18 an18:Option Addr}{sl18:Array (Option Value)}{oc18 kV18 dc18 pm18 cd18 ct18:Value}
  {dt18:Addr}{odT18:Option Addr}{slT18:Array (Option Value)}{ocT18:Value}{nT18:Nat}
  {od19 an19:Option Addr}{sl19:Array (Option Value)}{oc19 kV19 dc19 pm19 cd19 ct19:Value}
  {dt19:Addr}{odT19:Option Addr}{slT19:Array (Option Value)}{ocT19:Value}{nT19:Nat}
  {od42 an42:Option Addr}{sl42:Array (Option Value)}{oc42 kV42 dc42 pm42 cd42 ct42:Value}
  {odC0:Option Addr}{slC0:Array (Option Value)}{nC0:Nat}{tC0_0 tC0_1 tC0_2 tC0_3 tC0_4:Tok}
  {odC1:Option Addr}{slC1:Array (Option Value)}{nC1:Nat}{tC1_0 tC1_1 tC1_2:Tok}
  (a0:DfA K "parts_begin" zCN f0)
  (a1:DfA K "parts" zGm f1)
  (a2:DfA K "all_parts" zDP f2)
  (a3:DfA K "placed_parts" zCA f3)
  (a4:DfA K "same_name" zDG f4)
  (a5:DfA K "alike_leaves" zBf f5)
  (a6:DfA K "alike_atoms" zCU f6)
  (a7:DfA K "alike_heads" zBt f7)
  (a8:DfA K "pairs_in" zCt f8)
  (a9:DfA K "alike" zGn f9)
  (a10:W.nsIn K mainGlobals "is_quiet" = some (some (.ref f10)))
  (l10:K.lookup f10=some ⟨oc10,od10,.func (W.fnOf "is_quiet" "is_quiet" (zBF zAu) (zAz zAu) (zAM zAu) (.ref dt10) kV10 dc10 pm10 an10 cd10 ct10),sl10⟩) (c10:W.codeIn K cd10 "is_quiet" = true)
  (lT10:K.lookup dt10=some ⟨ocT10,odT10,.seq #[.none] nT10,slT10⟩)
  (a11:DfA K "is_number" zDO f11)
  (a12:DfA K "is_of_kind" zCi f12)
  (a13:DfA K "has_no_other_name" zBU f13)
  (a14:DfA K "piece_names" zCM f14)
  (a15:DfA K "piece_of" zDl f15)
  (a16:DfA K "bound_piece" zCT f16)
  (a17:DfA K "takes_piece" zCL f17)
  (a18:W.nsIn K mainGlobals "fit" = some (some (.ref f18)))
  (l18:K.lookup f18=some ⟨oc18,od18,.func (W.fnOf "fit" "fit" (zBF s_fit) (zAz s_fit) (zAM s_fit) (.ref dt18) kV18 dc18 pm18 an18 cd18 ct18),sl18⟩) (c18:W.codeIn K cd18 "fit" = true)
  (lT18:K.lookup dt18=some ⟨ocT18,odT18,.seq #[.none] nT18,slT18⟩)
  (a19:W.nsIn K mainGlobals "steps" = some (some (.ref f19)))
  (l19:K.lookup f19=some ⟨oc19,od19,.func (W.fnOf "steps" "steps" (zBF zBp) (zAz zBp) (zAM zBp) (.ref dt19) kV19 dc19 pm19 an19 cd19 ct19),sl19⟩) (c19:W.codeIn K cd19 "steps" = true)
  (lT19:K.lookup dt19=some ⟨ocT19,odT19,.seq #[.none] nT19,slT19⟩)
  (a20:DfA K "_law_cell_at" zCR f20)
  (a21:DfA K "_law_words" zDH f21)
  (a22:DfA K "_law_parts" zDL f22)
  (a23:DfA K "_law_worth" zCO f23)
  (a24:DfA K "_law_gaps" zCu f24)
  (a25:DfA K "_law_is_loud" zBs f25)
  (a26:DfA K "_law_shape" zDI f26)
  (a27:DfA K "_law_kinds" zDM f27)
  (a28:DfA K "_law_falls" zDN f28)
  (a29:DfA K "_law_plain" zDK f29)
  (a30:DfA K "_law_rules" zDJ f30)
  (a31:DfA K "_law_leaf" zDo f31)
  (a32:DfA K "_law_more" zDn f32)
  (a33:DfA K "_law_tree" zDm f33)
  (a34:DfA K "_law_is_word" zCQ f34)
  (a35:DfA K "_law_far" zEM f35)
  (a36:DfA K "_law_same_name" zB2 f36)
  (a37:DfA K "_law_alike" zCS f37)
  (a38:DfA K "_law_kind" zDp f38)
  (a39:DfA K "_law_fit" zDY f39)
  (a40:DfA K "_law_steps" zCP f40)
  (a41:DfA K "_law_is_row" zCh f41)
  (a42:W.nsIn K mainGlobals "law" = some (some (.ref f42)))
  (l42:K.lookup f42=some ⟨oc42,od42,.func (W.fnOf "law" "law" (zBF s_law) (zAz s_law) (zAM s_law) .none kV42 dc42 pm42 an42 cd42 ct42),sl42⟩) (c42:W.codeIn K cd42 "law" = true)
  (aC0:W.nsIn K mainGlobals "LEAF_SIGNS" = some (some (.ref lv_LEAF_SIGNS))) (lC0:K.lookup lv_LEAF_SIGNS=some ⟨.type "tuple", odC0,.seq #[.str "num" tC0_0,.str "name" tC0_1,.str "ask" tC0_2,.str "stop" tC0_3,.str "gap" tC0_4] nC0,slC0⟩)
  (aC1:W.nsIn K mainGlobals "LOUD_SIGNS" = some (some (.ref lv_LOUD_SIGNS))) (lC1:K.lookup lv_LOUD_SIGNS=some ⟨.type "tuple", odC1,.seq #[.str "say" tC1_0,.str "ask" tC1_1,.str "stop" tC1_2] nC1,slC1⟩)
  (z_len:W.nsIn K mainGlobals "len" = some none)
  (z_range:W.nsIn K mainGlobals "range" = some none)
  (z_isinstance:W.nsIn K mainGlobals "isinstance" = some none)
  (z_int:W.nsIn K mainGlobals "int" = some none)
  (z_bool:W.nsIn K mainGlobals "bool" = some none)
  (z_str:W.nsIn K mainGlobals "str" = some none)
  (z_tuple:W.nsIn K mainGlobals "tuple" = some none)
  (z_list:W.nsIn K mainGlobals "list" = some none)
  (z_all:W.nsIn K mainGlobals "all" = some none)
  (z_max:W.nsIn K mainGlobals "max" = some none)
  (z_sorted:W.nsIn K mainGlobals "sorted" = some none)
  (z_enumerate:W.nsIn K mainGlobals "enumerate" = some none)
  (z_dict:W.nsIn K mainGlobals "dict" = some none)
  (z_zip:W.nsIn K mainGlobals "zip" = some none)
  (z_reversed:W.nsIn K mainGlobals "reversed" = some none)
  : ∃fd:FuncData,(∀(s:Shared) (v:Value),BindsTo s fd ⟨[v],[]⟩ [("_law_script", v)])/\∀base:Heap,K.In base->base.Ns mainGlobals mg->FnOk l.prog w K mg base CX0 206 fa fd ["_law_script"] (zHN K):=by
 have e:=hfa.symm.trans (W.mg_of X G a42);cases e;have z_len:=W.mg_none_of X G z_len;have z_range:=W.mg_none_of X G z_range;have z_isinstance:=W.mg_none_of X G z_isinstance;have z_int:=W.mg_none_of X G z_int;have z_bool:=W.mg_none_of X G z_bool;have z_str:=W.mg_none_of X G z_str;have z_tuple:=W.mg_none_of X G z_tuple;have z_list:=W.mg_none_of X G z_list;have z_all:=W.mg_none_of X G z_all;have z_max:=W.mg_none_of X G z_max;have z_sorted:=W.mg_none_of X G z_sorted;have z_enumerate:=W.mg_none_of X G z_enumerate;have z_dict:=W.mg_none_of X G z_dict;have z_zip:=W.mg_none_of X G z_zip;have z_reversed:=W.mg_none_of X G z_reversed;have zM2:=W.mg_of X G aC0;have h_LEAF_SIGNS:zDj K lv_LEAF_SIGNS:=⟨_,_,_,lC0,rfl,rfl,(by show 5<=sizeLine;decide),(.cons 72 (.cons 72 (.cons 72 (.cons 72 (.cons 72 .nil)))))⟩;have zNA:=W.mg_of X G aC1;have h_LOUD_SIGNS:zGc K lv_LOUD_SIGNS:=⟨_,_,_,lC1,rfl,rfl,(by show 3<=sizeLine;decide),(.cons 72 (.cons 72 (.cons 72 .nil)))⟩;obtain⟨_,F0,m0⟩:=a0.go X G;have b0:=F0.binds (ps:=["tree"]) λ Ω Ω Ω Ω Ω Ω=>us1 λ Ω=>rfl;obtain⟨_,F1,m1⟩:=a1.go X G;have b1:=F1.binds (ps:=["tree"]) λ Ω Ω Ω Ω Ω Ω=>us1 λ Ω=>rfl;obtain⟨_,F2,m2⟩:=a2.go X G;have b2:=F2.binds (ps:=["tree"]) λ Ω Ω Ω Ω Ω Ω=>us1 λ Ω=>rfl;obtain⟨_,F3,m3⟩:=a3.go X G;have b3:=F3.binds (ps:=["tree"]) λ Ω Ω Ω Ω Ω Ω=>us1 λ Ω=>rfl;obtain⟨_,F4,m4⟩:=a4.go X G;have b4:=F4.binds (ps:=["one", "other", "pairs"]) λ Ω Ω Ω Ω Ω Ω=>us3 λ Ω Ω Ω=>rfl;obtain⟨_,F5,m5⟩:=a5.go X G;have b5:=F5.binds (ps:=["one", "other", "pairs"]) λ Ω Ω Ω Ω Ω Ω=>us3 λ Ω Ω Ω=>rfl;obtain⟨_,F6,m6⟩:=a6.go X G;have b6:=F6.binds (ps:=["one", "other", "pairs"]) λ Ω Ω Ω Ω Ω Ω=>us3 λ Ω Ω Ω=>rfl;obtain⟨_,F7,m7⟩:=a7.go X G;have b7:=F7.binds (ps:=["one", "other", "pairs"]) λ Ω Ω Ω Ω Ω Ω=>us3 λ Ω Ω Ω=>rfl;obtain⟨_,F8,m8⟩:=a8.go X G;have b8:=F8.binds (ps:=["one", "other", "number", "pairs"]) λ Ω Ω Ω Ω Ω Ω=>us4 λ Ω Ω Ω Ω=>rfl;obtain⟨_,F9,m9⟩:=a9.go X G;have b9:=F9.binds (ps:=["one", "other"]) λ Ω Ω Ω Ω Ω Ω=>us2 λ Ω Ω=>rfl;have k10:=zEc l10;have F10:=zGy (st:=zAu) (dvs:=[.none]) l10 c10 k10 lT10 rfl;have b100:Binds K (W.fnOf "is_quiet" "is_quiet" (zBF zAu) (zAz zAu) (zAM zAu) (.ref dt10) kV10 dc10 pm10 an10 cd10 ct10) ["tree", "kinds"] []:=λ s us X hl=>by obtain⟨a,b,rfl⟩:=ud2 (us:=us) (by simpa using hl);first|exact .of_eq rfl|exact W.binds_K X rfl lT10 rfl rfl rfl
 have b101:Binds K (W.fnOf "is_quiet" "is_quiet" (zBF zAu) (zAz zAu) (zAM zAu) (.ref dt10) kV10 dc10 pm10 an10 cd10 ct10) ["tree", "kinds"] [.none]:=λ s us X hl=>by obtain⟨a,rfl⟩:=ud1 (us:=us) (by simpa using hl);first|exact .of_eq rfl|exact W.binds_K X rfl lT10 rfl rfl rfl
 have m10:=W.mg_of X G a10;obtain⟨_,F11,m11⟩:=a11.go X G;have b11:=F11.binds (ps:=["tree", "kinds"]) λ Ω Ω Ω Ω Ω Ω=>us2 λ Ω Ω=>rfl;obtain⟨_,F12,m12⟩:=a12.go X G;have b12:=F12.binds (ps:=["tree", "kind", "kinds"]) λ Ω Ω Ω Ω Ω Ω=>us3 λ Ω Ω Ω=>rfl;obtain⟨_,F13,m13⟩:=a13.go X G;have b13:=F13.binds (ps:=["tree", "atoms", "pairs"]) λ Ω Ω Ω Ω Ω Ω=>us3 λ Ω Ω Ω=>rfl;obtain⟨_,F14,m14⟩:=a14.go X G;have b14:=F14.binds (ps:=["tree", "atoms", "pairs"]) λ Ω Ω Ω Ω Ω Ω=>us3 λ Ω Ω Ω=>rfl;obtain⟨_,F15,m15⟩:=a15.go X G;have b15:=F15.binds (ps:=["gap", "tree", "pairs"]) λ Ω Ω Ω Ω Ω Ω=>us3 λ Ω Ω Ω=>rfl;obtain⟨_,F16,m16⟩:=a16.go X G;have b16:=F16.binds (ps:=["piece"]) λ Ω Ω Ω Ω Ω Ω=>us1 λ Ω=>rfl;obtain⟨_,F17,m17⟩:=a17.go X G;have b17:=F17.binds (ps:=["filling", "gap", "piece"]) λ Ω Ω Ω Ω Ω Ω=>us3 λ Ω Ω Ω=>rfl;have k18:=zEc l18;have F18:=zGy (st:=s_fit) (dvs:=[.none]) l18 c18 k18 lT18 rfl;have b180:Binds K (W.fnOf "fit" "fit" (zBF s_fit) (zAz s_fit) (zAM s_fit) (.ref dt18) kV18 dc18 pm18 an18 cd18 ct18) ["rule", "tree", "kinds"] []:=λ s us X hl=>by obtain⟨a,b,c,rfl⟩:=ud3 (us:=us) (by simpa using hl);first|exact .of_eq rfl|exact W.binds_K X rfl lT18 rfl rfl rfl
 have b181:Binds K (W.fnOf "fit" "fit" (zBF s_fit) (zAz s_fit) (zAM s_fit) (.ref dt18) kV18 dc18 pm18 an18 cd18 ct18) ["rule", "tree", "kinds"] [.none]:=λ s us X hl=>by obtain⟨a,b,rfl⟩:=ud2 (us:=us) (by simpa using hl);first|exact .of_eq rfl|exact W.binds_K X rfl lT18 rfl rfl rfl
 have m18:=W.mg_of X G a18;have k19:=zEc l19;have F19:=zGy (st:=zBp) (dvs:=[.none]) l19 c19 k19 lT19 rfl;have b190:Binds K (W.fnOf "steps" "steps" (zBF zBp) (zAz zBp) (zAM zBp) (.ref dt19) kV19 dc19 pm19 an19 cd19 ct19) ["rules", "tree", "kinds"] []:=λ s us X hl=>by obtain⟨a,b,c,rfl⟩:=ud3 (us:=us) (by simpa using hl);first|exact .of_eq rfl|exact W.binds_K X rfl lT19 rfl rfl rfl
 have b191:Binds K (W.fnOf "steps" "steps" (zBF zBp) (zAz zBp) (zAM zBp) (.ref dt19) kV19 dc19 pm19 an19 cd19 ct19) ["rules", "tree", "kinds"] [.none]:=λ s us X hl=>by obtain⟨a,b,rfl⟩:=ud2 (us:=us) (by simpa using hl);first|exact .of_eq rfl|exact W.binds_K X rfl lT19 rfl rfl rfl
 have m19:=W.mg_of X G a19;obtain⟨_,F20,m20⟩:=a20.go X G;have b20:=F20.binds (ps:=["_law_script", "_law_k"]) λ Ω Ω Ω Ω Ω Ω=>us2 λ Ω Ω=>rfl;obtain⟨_,F21,m21⟩:=a21.go X G;have b21:=F21.binds (ps:=["_law_cell", "_law_many"]) λ Ω Ω Ω Ω Ω Ω=>us2 λ Ω Ω=>rfl;obtain⟨_,F22,m22⟩:=a22.go X G;have b22:=F22.binds (ps:=["_law_tree_here"]) λ Ω Ω Ω Ω Ω Ω=>us1 λ Ω=>rfl;obtain⟨_,F23,m23⟩:=a23.go X G;have b23:=F23.binds (ps:=["_law_tree_here", "_law_scale", "_law_worths"]) λ Ω Ω Ω Ω Ω Ω=>us3 λ Ω Ω Ω=>rfl;obtain⟨_,F24,m24⟩:=a24.go X G;have b24:=F24.binds (ps:=["_law_shape_here"]) λ Ω Ω Ω Ω Ω Ω=>us1 λ Ω=>rfl;obtain⟨_,F25,m25⟩:=a25.go X G;have b25:=F25.binds (ps:=["_law_shape_here"]) λ Ω Ω Ω Ω Ω Ω=>us1 λ Ω=>rfl;obtain⟨_,F26,m26⟩:=a26.go X G;have b26:=F26.binds (ps:=["_law_cells", "_law_leaves", "_law_loud"]) λ Ω Ω Ω Ω Ω Ω=>us3 λ Ω Ω Ω=>rfl;obtain⟨_,F27,m27⟩:=a27.go X G;have b27:=F27.binds (ps:=["_law_there", "_law_cell"]) λ Ω Ω Ω Ω Ω Ω=>us2 λ Ω Ω=>rfl;obtain⟨_,F28,m28⟩:=a28.go X G;have b28:=F28.binds (ps:=["_law_rule", "_law_scale"]) λ Ω Ω Ω Ω Ω Ω=>us2 λ Ω Ω=>rfl;obtain⟨_,F29,m29⟩:=a29.go X G;have b29:=F29.binds (ps:=["_law_cells", "_law_gaps_here", "_law_word", "_law_numbers"]) λ Ω Ω Ω Ω Ω Ω=>us4 λ Ω Ω Ω Ω=>rfl;obtain⟨_,F30,m30⟩:=a30.go X G;have b30:=F30.binds (ps:=["_law_cells", "_law_gaps_here", "_law_word", "_law_numbers", "_law_scale"]) λ Ω Ω Ω Ω Ω Ω=>us5 λ Ω Ω Ω Ω Ω=>rfl;obtain⟨_,F31,m31⟩:=a31.go X G;have b31:=F31.binds (ps:=["_law_number", "_law_words_here", "_law_numbers"]) λ Ω Ω Ω Ω Ω Ω=>us3 λ Ω Ω Ω=>rfl;obtain⟨_,F32,m32⟩:=a32.go X G;have b32:=F32.binds (ps:=["_law_stack", "_law_cell", "_law_words_here", "_law_numbers"]) λ Ω Ω Ω Ω Ω Ω=>us4 λ Ω Ω Ω Ω=>rfl;obtain⟨_,F33,m33⟩:=a33.go X G;have b33:=F33.binds (ps:=["_law_cells", "_law_words_here", "_law_numbers"]) λ Ω Ω Ω Ω Ω Ω=>us3 λ Ω Ω Ω=>rfl;obtain⟨_,F34,m34⟩:=a34.go X G;have b34:=F34.binds (ps:=["_law_found"]) λ Ω Ω Ω Ω Ω Ω=>us1 λ Ω=>rfl;obtain⟨_,F35,m35⟩:=a35.go X G;have b35:=F35.binds (ps:=["_law_name", "_law_bound"]) λ Ω Ω Ω Ω Ω Ω=>us2 λ Ω Ω=>rfl;obtain⟨_,F36,m36⟩:=a36.go X G;have b36:=F36.binds (ps:=["_law_found", "_law_due", "_law_here", "_law_there"]) λ Ω Ω Ω Ω Ω Ω=>us4 λ Ω Ω Ω Ω=>rfl;obtain⟨_,F37,m37⟩:=a37.go X G;have b37:=F37.binds (ps:=["_law_found", "_law_due", "_law_here", "_law_there"]) λ Ω Ω Ω Ω Ω Ω=>us4 λ Ω Ω Ω Ω=>rfl;obtain⟨_,F38,m38⟩:=a38.go X G;have b38:=F38.binds (ps:=["_law_gap", "_law_tree_here", "_law_kinds_here"]) λ Ω Ω Ω Ω Ω Ω=>us3 λ Ω Ω Ω=>rfl;obtain⟨_,F39,m39⟩:=a39.go X G;have b39:=F39.binds (ps:=["_law_shape_here", "_law_tree_here", "_law_kinds_here", "_law_found"]) λ Ω Ω Ω Ω Ω Ω=>us4 λ Ω Ω Ω Ω=>rfl;obtain⟨_,F40,m40⟩:=a40.go X G;have b40:=F40.binds (ps:=["_law_rules_here", "_law_tree_here"]) λ Ω Ω Ω Ω Ω Ω=>us2 λ Ω Ω=>rfl;obtain⟨_,F41,m41⟩:=a41.go X G;have b41:=F41.binds (ps:=["_law_found", "_law_due"]) λ Ω Ω Ω Ω Ω Ω=>us2 λ Ω Ω=>rfl;have k42:=zEc l42;have F42:=zLL (st:=s_law) l42 c42 k42;have b42:=F42.binds (ps:=["_law_script"]) λ Ω Ω Ω Ω Ω Ω=>us1 λ Ω=>rfl;have m42:=W.mg_of X G a42;refine⟨W.fnOf "law" "law" (zBF s_law) (zAz s_law) (zAM s_law) .none kV42 dc42 pm42 an42 cd42 ct42,λ s v=>.of_eq rfl,λ base Ω Ω=>?_⟩;have G0:FnB l.prog w K mg base 1 "parts_begin" f0 _ _ _:=⟨zEq (k:=0) F0 z_len zM2 h_LEAF_SIGNS,b0,F0.kp,m0⟩;have G1:FnB l.prog w K mg base 2 "parts" f1 _ _ _:=⟨zKZ F1 (G0.up (k:=1) 69),b1,F1.kp,m1⟩;have G2:FnB l.prog w K mg base 3 "all_parts" f2 _ _ _:=⟨zMm F2 (G1.up (k:=2) 69),b2,F2.kp,m2⟩;have G3:FnB l.prog w K mg base 3 "placed_parts" f3 _ _ _:=⟨zI1 F3 z_enumerate z_sorted (G1.up (k:=2) 69),b3,F3.kp,m3⟩;have G4:FnB l.prog w K mg base 1 "same_name" f4 _ _ _:=⟨zF7 (k:=0) F4 z_reversed,b4,F4.kp,m4⟩;have G5:FnB l.prog w K mg base 2 "alike_leaves" f5 _ _ _:=⟨zEY F5 (G4.up (k:=1) 69),b5,F5.kp,m5⟩;have G6:FnB l.prog w K mg base 3 "alike_atoms" f6 _ _ _:=⟨zEs F6 z_len z_all z_zip (G5.up (k:=2) 69),b6,F6.kp,m6⟩;have G7:FnB l.prog w K mg base 4 "alike_heads" f7 _ _ _:=⟨zEr F7 zM2 h_LEAF_SIGNS (G6.up (k:=3) 69) (G5.up (k:=3) 69),b7,F7.kp,m7⟩;have G8:FnB l.prog w K mg base 1 "pairs_in" f8 _ _ _:=⟨zGs (k:=0) F8,b8,F8.kp,m8⟩;have G9:FnB l.prog w K mg base 5 "alike" f9 _ _ _:=⟨zKc F9 z_enumerate z_zip (G7.up (k:=4) 69) (G1.up (k:=4) 69) (G8.up (k:=4) 69),b9,F9.kp,m9⟩;have G10:FnD1 l.prog w K mg base 4 "is_quiet" f10 _ _ _:=⟨zKX F10 z_dict zNA h_LOUD_SIGNS (G2.up (k:=3) 69),b100,b101,k10,m10⟩;have G11:FnB l.prog w K mg base 1 "is_number" f11 _ _ _:=⟨zKb (k:=0) F11,b11,F11.kp,m11⟩;have G12:FnB l.prog w K mg base 5 "is_of_kind" f12 _ _ _:=⟨zI2 F12 (G11.up (k:=4) 69) (G10.up (k:=4) 69),b12,F12.kp,m12⟩;have G13:FnB l.prog w K mg base 1 "has_no_other_name" f13 _ _ _:=⟨zMi (k:=0) F13,b13,F13.kp,m13⟩;have G14:FnB l.prog w K mg base 1 "piece_names" f14 _ _ _:=⟨zI0 (k:=0) F14 z_dict z_enumerate z_tuple,b14,F14.kp,m14⟩;have G15:FnB l.prog w K mg base 2 "piece_of" f15 _ _ _:=⟨zMf F15 (G13.up (k:=1) 69) (G14.up (k:=1) 69),b15,F15.kp,m15⟩;have G16:FnB l.prog w K mg base 1 "bound_piece" f16 _ _ _:=⟨zI9 (k:=0) F16,b16,F16.kp,m16⟩;have G17:FnB l.prog w K mg base 6 "takes_piece" f17 _ _ _:=⟨zKT F17 (G9.up (k:=5) 69) (G16.up (k:=5) 69),b17,F17.kp,m17⟩;have G5:FnB l.prog w K mg base 1 "alike_leaves" f5 _ _ _:=⟨zMg (k:=0) F5,b5,F5.kp,m5⟩;have G7:FnB l.prog w K mg base 2 "alike_heads" f7 _ _ _:=⟨zMj F7 zM2 h_LEAF_SIGNS (G5.up (k:=1) 69),b7,F7.kp,m7⟩;have G8:FnB l.prog w K mg base 1 "pairs_in" f8 _ _ _:=⟨zLt (k:=0) F8,b8,F8.kp,m8⟩;have G18:FnD1 l.prog w K mg base 7 "fit" f18 _ _ _:=⟨zMk F18 z_dict z_enumerate z_zip (G12.up (k:=6) 69) (G15.up (k:=6) 69) (G17.up (k:=6) 69) (G7.up (k:=6) 69) (G1.up (k:=6) 69) (G8.up (k:=6) 69),b180,b181,k18,m18⟩;have G19:FnD1 l.prog w K mg base 8 "steps" f19 _ _ _:=⟨zKU F19 z_enumerate (G3.up (k:=7) 69) ⟨(G18.up (k:=7) 69).ok,(G18.up (k:=7) 69).bd0,(G18.up (k:=7) 69).kp,(G18.up (k:=7) 69).gl⟩,b190,b191,k19,m19⟩;have G20:FnB l.prog w K mg base 1 "_law_cell_at" f20 _ _ _:=⟨zH8 (k:=0) F20 z_len,b20,F20.kp,m20⟩;have G21:FnB l.prog w K mg base 1 "_law_words" f21 _ _ _:=⟨zKS (k:=0) F21 z_range,b21,F21.kp,m21⟩;have G34:FnB l.prog w K mg base 1 "_law_is_word" f34 _ _ _:=⟨zI8 (k:=0) F34 z_isinstance z_str z_len,b34,F34.kp,m34⟩;have G22:FnB l.prog w K mg base 1 "_law_parts" f22 _ _ _:=⟨zI5 (k:=0) F22,b22,F22.kp,m22⟩;have G24:=zHy (P:=l.prog) (w:=w) (base:=base) (k:=1) F24 b24 m24 z_len (G22.up (k:=1) 69) 122;have G25:=zHw (P:=l.prog) (w:=w) (base:=base) (k:=1) F25 b25 m25 (G22.up (k:=1) 69) 82;have G23:=zFH (P:=l.prog) (w:=w) (base:=base) (k:=1) F23 b23 m23 z_len z_range (G22.up (k:=1) 69) 122;have G26:FnB l.prog w K mg base 1 "_law_shape" f26 _ _ _:=⟨zKV (k:=0) F26 z_len,b26,F26.kp,m26⟩;have G27:FnB l.prog w K mg base 1 "_law_kinds" f27 _ _ _:=⟨zKa (k:=0) F27 z_sorted z_tuple,b27,F27.kp,m27⟩;have G28:FnB l.prog w K mg base 124 "_law_falls" f28 _ _ _:=⟨zI6 F28 z_sorted (G23.up (k:=123) 69) (G24.up (k:=123) 69),b28,F28.kp,m28⟩;have G29:FnB l.prog w K mg base 124 "_law_plain" f29 _ _ _:=⟨zKY F29 z_int z_range z_sorted z_tuple (G24.up (k:=123) 69) (G25.up (k:=123) 69) (G27.up (k:=123) 69) (G26.up (k:=123) 69),b29,F29.kp,m29⟩;have G30:FnB l.prog w K mg base 125 "_law_rules" f30 _ _ _:=⟨zKW F30 z_len z_range z_tuple (G28.up (k:=124) 69) (G29.up (k:=124) 69),b30,F30.kp,m30⟩;have G31:FnB l.prog w K mg base 1 "_law_leaf" f31 _ _ _:=⟨zLx (k:=0) F31 z_len,b31,F31.kp,m31⟩;have G32:FnB l.prog w K mg base 2 "_law_more" f32 _ _ _:=⟨zLu F32 z_len z_max z_tuple (G31.up (k:=1) 69),b32,F32.kp,m32⟩;have G33:FnB l.prog w K mg base 3 "_law_tree" f33 _ _ _:=⟨zLr F33 z_len z_range (G32.up (k:=2) 69),b33,F33.kp,m33⟩;have G35:FnB l.prog w K mg base 1 "_law_far" f35 _ _ _:=⟨zMl (k:=0) F35 z_len,b35,F35.kp,m35⟩;have G36:FnB l.prog w K mg base 2 "_law_same_name" f36 _ _ _:=⟨zLs F36 z_isinstance z_str (G35.up (k:=1) 69),b36,F36.kp,m36⟩;have G37:=zFJ (P:=l.prog) (w:=w) (base:=base) (k:=2) F37 b37 m37 z_bool z_int z_isinstance z_len z_range z_str z_tuple (G34.up (k:=2) 69) (G36.up (k:=2) 69) 82;have G38:FnB l.prog w K mg base 84 "_law_kind" f38 _ _ _:=⟨zLy F38 (G25.up (k:=83) 69),b38,F38.kp,m38⟩;have G39:=zHx (P:=l.prog) (w:=w) (base:=base) (k:=84) F39 b39 m39 z_len z_range (G37.up (k:=84) 69) (G38.up (k:=84) 69) (G22.up (k:=84) 69) 40;have G40:=zFI (P:=l.prog) (w:=w) (base:=base) (k:=124) F40 b40 m40 z_len z_range (G39.up (k:=124) 69) (G22.up (k:=124) 69) 81;have G41:FnB l.prog w K mg base 1 "_law_is_row" f41 _ _ _:=⟨zMe (k:=0) F41 z_bool z_int z_isinstance z_len z_list z_tuple z_zip,b41,F41.kp,m41⟩;exact zMh F42 z_list z_range (G20.up (k:=205) 69) (G21.up (k:=205) 69) (G30.up (k:=205) 69) (G33.up (k:=205) 69) (G40.up (k:=205) 69) (G41.up (k:=205) 69) (G19.up (k:=205) 69)
theorem walk {l:W.OpenLaw}{q:Program}{loose:List Str}{XP:(Str->Option Value)->Heap->Prop}{YP:World->Heap->Prop}{d:DefRec}{K:Params->W.Frag}(hn:l.most=some 63) (hdf:d.params.defaults=[])
  (hY:∀(w:World) (h:Heap),YP w h->(K w.params).In h)
  (F:∀(w:World) (mg:Str->Option Value) (fa:Addr) (h:Heap),(K w.params).In h->h.Ns mainGlobals mg->mg d.name=some (.ref fa) ->
   ∃fd:FuncData,(∀(s:Shared) (u:Value),BindsTo s fd ⟨[u],[]⟩ [("_law_script", u)])/\∀base:Heap,(K w.params).In base->base.Ns mainGlobals mg->FnOk l.prog w (K w.params) mg base CX0 206 fa fd ["_law_script"] (zHN (K w.params))) :
  W.WalkO q loose XP YP l.row.toRowW d [] (λ f vs=>PySem.call f vs) :=
 L2.walk_of (n:=63) (k:=206) (x := "_law_script") (CX:=λ Ω=>CX0) (sp:=λ w=>zHN (K w.params)) hn 69 hdf ⟨rfl,by decide,by decide⟩ hY F (λ Ω Ω a ns hl Ω hS=>⟨a,ns,rfl,hS,λ Ω=>rfl⟩) λ Ω Ω Ω Ω Ω z=>z
end
end K23
namespace PySem.W.Fast
def tw17813295833729403788:Unit:=()
def tw14265971264991428104:Unit:=()
def tw16078605740761776973:Unit:=()
def tw7238691142040078911:Unit:=()
def tw17911921599943781964:Unit:=()
def tw2102063831646366487:Unit:=()
def tw8065368216440623599:Unit:=()
def tw7432494813421076419:Unit:=()
def tw17809764477699955781:Unit:=()
def tw16748079223701938652:Unit:=()
def tw12642386295313306278:Unit:=()
def tw7425306825780664629:Unit:=()
def tw9844790427909502193:Unit:=()
def tw2050510409268166787:Unit:=()
def tw12426928958328053245:Unit:=()
def tw4570155863010956774:Unit:=()
def tw8482590593834943379:Unit:=()
def tw8709761878189996483:Unit:=()
def tw1535906423820291956:Unit:=()
def tw1682247776712011322:Unit:=()
def tw17470854263096725644:Unit:=()
def tw9877500595543450545:Unit:=()
def tw4896376126728038685:Unit:=()
def tw15404838846346843900:Unit:=()
def tw11388964650663852314:Unit:=()
def tw6098813431552694604:Unit:=()
def tw16532631958264874147:Unit:=()
def tw6084977166841628710:Unit:=()
def tw1905077435889375566:Unit:=()
def tw1665455986443218773:Unit:=()
def tw16271333670623459398:Unit:=()
def tw8721290108376379868:Unit:=()
def tw16279702596511692428:Unit:=()
def tw17546261594294589818:Unit:=()
def tw9761339459950642669:Unit:=()
def tw7706860352714359240:Unit:=()
def tw5309128290295141163:Unit:=()
def tw13916814974251068283:Unit:=()
def tw3259737197477209263:Unit:=()
def tw6676475114753644823:Unit:=()
def tw15150626233376402602:Unit:=()
def tw15656781860599984760:Unit:=()
def tw12216125528491111685:Unit:=()
def tw1208394433486891091:Unit:=()
def tw12578625614081818320:Unit:=()
def tw15342712939916198396:Unit:=()
def tw15142481240184200323:Unit:=()
def tw6315635023565696817:Unit:=()
def tw3729507921931600016:Unit:=()
def tw16955994911759508012:Unit:=()
def tw13063505441310248808:Unit:=()
def tw5884061552840014004:Unit:=()
def tw1837599210204492806:Unit:=()
def tw16952270698228906284:Unit:=()
def tw15460677136749876543:Unit:=()
def tw2020602033216074870:Unit:=()
def tw5933066501207039645:Unit:=()
def tw7119981415428525140:Unit:=()
def tw7915895896982076208:Unit:=()
def tw3245003325810343192:Unit:=()
def tw16429412819043441952:Unit:=()
def tw2109557319840337968:Unit:=()
def tw6817771127461765623:Unit:=()
def tw17673905655776189349:Unit:=()
def tw16190286244577640975:Unit:=()
def tw3200449786247889219:Unit:=()
def tw7419686315706664687:Unit:=()
def tw8764570624740493758:Unit:=()
def tw10389575486488206295:Unit:=()
def tw11017882291039391296:Unit:=()
def tw16731428508260498476:Unit:=()
def tw15377153684672669889:Unit:=()
def tw2171347986269693967:Unit:=()
def tw10276827695034461365:Unit:=()
def tw11551300680672440708:Unit:=()
def tw4798556498981883886:Unit:=()
def tw3788331919632701058:Unit:=()
def tw14751798913779739509:Unit:=()
def tw18438681956007072411:Unit:=()
def tw1813998649077053584:Unit:=()
def tw16791236030362740875:Unit:=()
def tw17628531148401182143:Unit:=()
def tw15808130716324825542:Unit:=()
def tw11046989360007650404:Unit:=()
def tw208797827441838955:Unit:=()
def tw863106396432032419:Unit:=()
def tw5992687269813050814:Unit:=()
def tw7720988384067888801:Unit:=()
def tw13362164245420256324:Unit:=()
def tw7782420764325744646:Unit:=()
def tw15683963284470179229:Unit:=()
def tw16508577232432990977:Unit:=()
def tw17637058914102946776:Unit:=()
def tw9785788830441503041:Unit:=()
def tw13305051523300545933:Unit:=()
def tw13307807565512946499:Unit:=()
def tw17172789313346982456:Unit:=()
def tw10260023456837858908:Unit:=()
def tw15591198561660612638:Unit:=()
def tw12871537294558842767:Unit:=()
end PySem.W.Fast
open PySem PySem.W PyProof.Rows K23
set_option maxRecDepth 100000 in
set_option maxHeartbeats 0 in
theorem PySem.Challenge.cw_recastle_k23_all_steps_holds : PySem.Challenge.rw_recastle_k23_all_steps.Holds := by
 w_on;o_law;k_head;(case hw=>w_witness2)
 k_fill
 refine K23.walk (l:=PySem.Challenge.rw_recastle_k23_all_steps) rfl rfl (λ w h Y=>W.kIn_of Y) ?F
 case F =>
  intro w mg fa h KX G hmg
  refine' K23.all_mk KX G hmg 93 93 93 93 93 93 93 93 93 93 ?a10 ?l10 ?c10 ?lT10 93 93 93 93 93 93 93 ?a18 ?l18 ?c18 ?lT18 ?a19 ?l19 ?c19 ?lT19 93 93 93 93 93 93 93 93 93 93 93 93 93 93 93 93 93 93 93 93 93 93 ?a42 ?l42 ?c42 ?aC0 ?lC0 ?aC1 ?lC1 ?z_len ?z_range ?z_isinstance ?z_int ?z_bool ?z_str ?z_tuple ?z_list ?z_all ?z_max ?z_sorted ?z_enumerate ?z_dict ?z_zip ?z_reversed
  all_goals try k_is
#print axioms PySem.Challenge.cw_recastle_k23_all_steps_holds